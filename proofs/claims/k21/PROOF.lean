import PyProof.Rows.All
import Wide.All
import OpenK.AllK
import Wide.FinOn
import Lean
import PyProof.EqAt
import PyProof.EqKinds
import PyProof.TupleCall
import PySem.Challenge.RW_wholeglance_k21_puts_of_signs
noncomputable section
open PySem renaming wpAny_bind->aaa,Shared->aac,wpAny_pure->aad,sizeLine->aax,starEach->aay,Program->aaG,Around->aaL,mem_of_lookup->aaT,wpAny_holding->aaW,mainGlobals->aaZ,DictEntry->aa3,wpAny_call_entry->aa6,foldedSetIterable->aa7,wpAny_callSpecial?_slot->abh,compareOp->abm,wpAny_ite_split->abo,wpAny_newObj_type->abH,binaryOp->abJ,placesWithHash->abL,FuncData->abN,cellsFrom->abQ,wpAny_field->ab1,wpAny_Call_Name_kw->ab4,Builtin->ab5,assignEach->ab7,wpAny_rule->ab8,wpAny_seqItems->acj,backTo->acm,bootBuiltins->acr,IsPair->acv,NameKind->acw,codeAny_builtin->acC,wpAny_truthy_bool->acG,wpAny_setField_rec->acO,wpAny_passesOwn->acP,Comprehension->acS,call_meets->acX,sizeLine_eq->ac0,holding->ac1,collect->ac2,rawInt->ac3,wpAny_askSetting->ac5,swappedStores->adf,sysModules->adh,wpAny_dictEpoch->adi,wpAny_setState_of->adm,pyNext->adq,codeAny_mono->ads,wpAny_typeOf->adt,builtinLookup_eq_fast->adu,Arguments->ady,swapsWith->adz,wpAny_forIn_list->adD,assign->adG,swapsWithSole->adH,plainId_quiet->adL,intKind->adN,codeAny->adO,sliceBounds->adP,Operator->adT,SetTable->adW,pickOrder->adX,setNext->ad3,wpAny_setField->ad4,wpAny_pyIter_list->ad_,wpAny_sequenceKey->aea,slot_dict_getitem->aec,wpAny_standAt->aei,behindInMarks->aej,attributeBase->aek,wpAny_isInstance->aem,seqSlot_of->aeo,PassesOwn->aes,wpAny_mono->aex,wpAny_Name->aey,wpAny_loadName_local->aez,wpAny_execs_nil->aeA,IsPart->aeE,typeLookup_type->aeF,wpAny_ite_false->aeH,wpAny_updateSeq_pair->aeI,wpAny_loadName_cell->aeN,wpAny_setEntries_of->aeO,bindArgs->aeR,getItem->aeS,Keyword->aeT,callerA->aeU,firstArgMember->aeV,slot_dict_contains->ae9,wpAny_attempt->aff,wpAny_onRaise->afh,wpAny_dictEntries->afo,builtinsNs->afr,typeIs_int->afs,closureFor->afu,fillsNumberSlot_seq->afw,wpAny_binaryOp_repeat_ref->afx,relabel->afC,dictGet->afD,GenState->afE,concat_meets->afG,noFill_tuple_add->afH,beq_builtin_none->afN,letOwnedTupleGo->afY,wpAny_specialOf->af0,wpAny_updateSeq->af1,eqIsQuiet->af3,wpAny_pyNext_list_item->af6,wpAny_Call_method_late->af8,wpAny_alloc->af_,standAt->age,pyIter->agf,wpAny_pyNext_list_end->agg,wpAny_nextOf_list_end->agl,wpAny_notOrdered_dict->agn,wpAny_call->agq,call->agu,setsByText->agv,seqRepeat?->agw,numAt_eq->agy,assignInOrder->agC,seq_tuple_add->agD,wpAny_loadName_free->agG,hashInt->ag6,setItem->ag7,BindsTo->ag8,seqIndex_of->aho,keywordEach->ahp,wpAny_of_eq->ahq,wpAny_letGo->aht
open List renaming getElem?_eq_some_iff->aab,getElem?_eq_getElem->aag,mem_cons->aah,length_append->aai,getElem?_set_ne->aam,getElem?_append_left->aan,mem_append->aao,replicate->aap,size_toArray->aar,mem_cons_of_mem->aau,getElem?_set_self->aav,not_mem_nil->aaw,mem_cons_self->aaC,getD_eq_getElem?_getD->aaE,length_map->aaI,getElem?_append_right->aaJ,getElem?_take_of_lt->aaK,mem_of_getElem?->aaO,getElem?_map->aaP,mem_map->aaQ,nodup_cons->aaS,append_assoc->aaU,lookup_cons->aaX,length_take->aa2,map_cons->aa5,getElem?_eq_none->aa8,range->aba,append_nil->abb,getElem_mem->abc,mem_append_right->abf,take_of_length_le->abj,mem_of_mem_take->abk,any_cons->abG,mem_filter->abM,set_getElem_self->abP,mem_iff_getElem->abR,all_eq_true->abS,length_cons->abT,replicate_succ->abU,mem_map_of_mem->abV,flatten_cons->abW,length_filter_le->ab0,mem_filterMap->ab3,elem_iff->ab9,drop_eq_getElem_cons->acd,length_singleton->ace,nodup_append->aco,nil_append->acq,length_replicate->acy,mem_iff_getElem?->acA,length_set->acB,take_append_of_le_length->acI,length_eq_zero_iff->acJ,nodup_nil->acM,forIn_cons->acQ,flatMap_cons->acU,getElem?_zip_eq_some->acY,cons_append->ac6,mem_nil_iff->ac8,mem_flatMap->ac9,filterMap_cons->ac_,filter_sublist->adb,filter_append->adj,eq_nil_of_length_eq_zero->adl,set_set->adw,drop_eq_nil_iff->adF,all_cons->adK,of_mem_zip->adR,map_map->ad0,forIn_nil->ad6,drop_left->ad7,getElem?_cons_zero->ad9,findIdx?_eq_some_iff_getElem->aef,mem_reverse->aen,isEmpty_iff->aep,filter_cons->aeq,mem_append_left->aew,range_succ->aeL,length_zip->aeM,drop_zero->aeW,range'->ae0,mem_singleton->ae8,exists_cons_of_ne_nil->afj,take_sublist->afl,ext_getElem?->afm,mem_or_eq_of_mem_set->afz,getElem_inj->afF,length_drop->afI,any_eq_true->afM,take_append->afQ,getElem?_replicate->afR,getElem?_cons_succ->afS,length_nil->afZ,map_append->af2,find?_some->af4,filter_nil->af5,mem_range->agd,singleton_append->agh,take_append_drop->agj,min?_eq_some_iff->agm,take_succ->agp,foldl->agt,getElem?_range->agJ,flatMap_append->agN,map_nil->agU,set_cons_zero->agX,set_cons_succ->agY,any_nil->ag3,getElem_take->ahe,getElem?_inj->ahk,idxOf_append->ahm,length->ahn,nodup_range->ahE,zipIdx_cons->ahH,foldl_cons->ahM,find?_cons->ahQ,zipIdx_nil->ahS,zip_append->ahW,take_left->aij
open Bool renaming and_eq_true->aae,false_eq_true->aaz,not_true->aaA,not_false->aaB,not_eq_true'->aaV,or_eq_true->aa4,or_eq_false_iff->abl,false_ne_true->abK,not_eq_true->acx,or_false->adJ,and_self->ael,or_eq_true_iff->aeP,false_and->aeQ,not_eq_false'->ae_,true_and->afg,not_eq_false->afp,and_false->agk
open PySem.Heap renaming get?_push_of_some->aaf,get?_push_size->aaq,lt_size->aas,get?_update_self->abO,size_push->ab_,get?_update_other->acu,SameBut->acN,ExtBut->aeZ,get?_push_ne->ahh
open Option renaming bind_some->aaj,map_eq_some_iff->aak,map_some->abn,isSome_iff_exists->adU,bind_eq_some_iff->afV,isSome_none->ag1,getD_none->ahy,getD_some->ahC
open Nat renaming le_refl->aal,ne_of_lt->aaH,lt_of_lt_of_le->aaM,zero_le->aaR,zero_add->aaY,le_trans->aa0,lt_succ_of_lt->abX,lt_irrefl->abY,le_of_ble_eq_true->abZ,add_mul->aca,ble_eq_true_of_le->acz,add_sub_cancel_left->ade,beq->adg,le_of_lt->adp,mul_comm->adv,lt_succ_self->adC,le_add_right->adE,sub_self->adY,ble->ad5,le_of_succ_le->aeb,ne_of_gt->aeB,mul_le_mul->aeX,lt_trans->afK,le_succ->agb,max_le->agB,le_of_eq->agV,add_sub_cancel->ag5,succ_ne_self->ahB,mod_eq_of_lt->ahJ
open PySem.W renaming Frag->aat,keepIn->ach,kia_one->acp,fnOf->acs,nsIn->acF,sortI->acH,tabObj->acK,OpenLaw->adA,codeHdIn->adB,codeIn->ad2,kla_obj->aeG,envX->aeJ,callWith_K->ae5,sortI_perm->afc,mg_of->afi,methodObj->afk,eq_sortI->afO,cellsFrom_some->af7,kla_fn->ago,WalkO->agE,codeHd_of_K->agI,pyHash_slot->agL,kitx_list->ahf,kitx_dict->ahg,CodeHd->aie
open PySem.Str renaming ofString->aaD
open PySem.SetTable renaming below->aaF,insertAt->acn,has->afL,turns->agi,fill->agF,fits->aiD,bits->aiE
open Ne renaming symm->aaN
open Array renaming getElem?_eq_getElem->aa1,getElem?_eq_some_iff->acR,length_toList->adQ,getElem?_toList->aet,mem_of_getElem?->aeu,getElem_mem->afn,getElem?_eq_none->af9,toList_append->agM,forIn_toList->ag2
open PySem.Builtin.SmallTypes renaming nextOf->aa9,ownedTupleIsFree->ack,ownedTupleHandOut->adZ
open Option.some renaming inj->aa_,injEq->acT
open PySem.AutoSeq1 renaming wpAny_loadPart'->abd,sub_tuple_tuple->acE,idx_int->ac7,sub_list_list->aeg,sub_tuple_list->afT,sub_list_tuple->afU
open PySem.NameKind renaming free->abe,cell->abp
open PySem.Value renaming type->abg,none->acg,ref->acZ,isStrOf->aeh,isInt->aeY,int->ae1,bool->afq,notImplemented->agx
open Int renaming toNat_natCast->abi,toNat_of_nonneg->ada,emod_lt_of_pos->ad1,emod_nonneg->aeK,toNat->ae6,natCast_nonneg->agZ,natCast_add->ahV
open PyProof.Rows renaming slot_tuple_getitem->abI,callWith_type1->ab2,IntsAre->acL,subscriptTail_builtinR->adk,AllBare->aer,envOfC->aeC,callWith_builtin1->aeD,assignInOrder_cons->ae2,seqObj->afb,sortedHeap->agA,entry_tuple_getitem->agH,boot_tuple->ahr,boot_dict->ahK,boot_int->ahX
open False renaming elim->ab6
open PySem.Heap.SameBut renaming update->acb
open PySem.Builtin.List renaming listTooLong->acf,listFitsIndex->adM,listExtendWith->ae7,listSameRef->afJ
open PySem.Around renaming under_plainId->aci,frames_deeper->agr
open ForInStep renaming yield->acD
open PySem.Builtin.Slice renaming slicePlaces->acV,sliceAdjust->adS,sliceApplied->afe
open PySem.Obj renaming mapSeq->acW,data_mapFields->ag0,mapDictKeys->ahR
open PySem.Builtin.Tuple renaming tupleExact->ac4,tupleItemsOf->adI,tupleHashOf->aft,tupleTooMany->aga
open PySem.SetTable.below renaming go->adn
open Function renaming comp_def->ado
open PySem.PyData renaming keyHash->adx
open PySem.F renaming args_tuple_add_2->adV,entry_tuple_add->ad8,slot_tuple_add->aed,slot_dict_get->aev,plainAttrs_list->afW,entry_dict_get->agc
open PySem.Calls renaming callWith_builtin->aee,spliced_cons->ae4,Name_function_global->afd,evalArgs_plain->ags,Constant_str->agR,spliced_nil->aha
open PySem.Data renaming cell->ae3,dict->ain
open PySem.ScopeKind renaming function->afa
open True renaming intro->afv
open Classical renaming byContradiction->afy
open Sum renaming inl->afA,inr->afB
open PySem.Challenge renaming pw_wholeglance_k21_puts_of_signs->afP
open PySem.Builtin.Dict renaming updateFrom->afX
open PUnit renaming unit->agz
open Std.Legacy.Range renaming forIn_eq_forIn_range'->agK,size->akl
open PySem.SeqAt.EqAt renaming int_str->agO,str_int->agP
open PySem.pickOrder renaming go->agW
open List.Pairwise renaming nil->ahc
open PySem.Setting renaming params->ah6
open List.Perm renaming swap->ah9,refl->aia
open PySem.Builtin.Frozenset renaming updateFrom->aii,newClass->aiG,addrOf->ai8,sizeOf->ai9,slot0->ajw
open PyProof.Rows.IntsAre renaming int_at->aiq
open PySem.Shared renaming TypeIs->aiQ
set_option bootstrap.genMatcherCode false
set_option genInjectivity false
set_option bootstrap.genMatcherCode false
set_option genSizeOf false
set_option Elab.async false
set_option linter.all false
set_option maxRecDepth 100000
open PySem PySem.Spec
namespace L2
open PyProof.Rows
abbrev Key:=Sum Int Str
noncomputable def uH:Key->Value->Bool
 |.inl k,v=>aeY k v|.inr x,v=>aeh x v
noncomputable def US (w:World):Key->Int
 |.inl k=>ag6 k|.inr x=>hashStr w x
theorem dg:∀{k:Key} {v:Value},uH k v=true->(∃i t,k=afA i/\v=ae1 i t)\/(∃x t,k=afB x/\v=Value.str x t)
 |.inl i,v,h=>by obtain⟨t,e⟩:=Value.isInt_shape (k:=i) (v:=v) h;exact .inl ⟨i,t,rfl,e⟩
 |.inr x,v,h=>by obtain⟨t,e⟩:=Value.isStrOf_shape (x:=x) (v:=v) h;exact .inr ⟨x,t,rfl,e⟩
theorem Br (x:Str)(t:Tok):uH (.inr x) (.str x t)=true:=by simp[uH,aeh]
theorem K2 (a b:Int):decide ((afA a:Key)=afA b)=(a == b):=by
 by_cases e:a=b
 . subst e;simp
 . have h:¬(afA a:Key)=afA b:=λq=>e (Sum.inl.inj q)
   rw[decide_eq_false h];exact(beq_eq_false_iff_ne.mpr e).symm
theorem K3 (a b:Str):decide ((afB a:Key)=afB b)=decide (a=b):=by
 by_cases e:a=b
 . subst e;simp
 . have h:¬(afB a:Key)=afB b:=λq=>e (Sum.inr.inj q)
   rw[decide_eq_false h,decide_eq_false e]
theorem K4 (a:Int)(b:Str):decide ((afA a:Key)=afB b)=false:=decide_eq_false (λq=>nomatch q)
theorem K5 (a:Str)(b:Int):decide ((afB a:Key)=afA b)=false:=decide_eq_false (λq=>nomatch q)
def eJ (prog:aaG)(w:World):PySem.KeyKind prog w Key where
 is:=uH
 hash:=US w
 inj:=λv a b f d=>by
  rcases dg f with⟨i,t,rfl,rfl⟩|⟨x,t,rfl,rfl⟩
  . rcases dg d with⟨j,u,rfl,e⟩|⟨y,u,rfl,e⟩
    . injection e with e1 _;rw[e1]
    . exact nomatch e
  . rcases dg d with⟨j,u,rfl,e⟩|⟨y,u,rfl,e⟩
    . exact nomatch e
    . injection e with e1 _;rw[e1]
 byValue:=λk v h=>by rcases dg h with⟨i,t,rfl,rfl⟩|⟨x,t,rfl,rfl⟩<;>rfl
 pyHash:=λc h=>by
  rcases dg c with⟨i,t,rfl,rfl⟩|⟨x,t,rfl,rfl⟩
  . exact wpAny_pyHash_int h
  . exact wpAny_pyHash_str h
 eqBool:=λhu c h=>by
  rcases dg hu with⟨i,t,rfl,rfl⟩|⟨x,t,rfl,rfl⟩
  . rcases dg c with⟨j,u,rfl,rfl⟩|⟨y,u,rfl,rfl⟩
    . rw[K2]at h;exact wpAny_eqBool_int h
    . rw[K4]at h;exact agO i t y u _ _ _ _ h
  . rcases dg c with⟨j,u,rfl,rfl⟩|⟨y,u,rfl,rfl⟩
    . rw[K5]at h;exact agP x t j u _ _ _ _ h
    . rw[K3]at h;exact wpAny_eqBool_str h
 «strs»:=λk x t v h=>by
  rcases dg h with⟨i,u,rfl,e⟩|⟨y,u,rfl,e⟩
  . exact nomatch e
  . injection e with e1 _
    subst e1;cases v<;>rfl
theorem oZ (prog:aaG)(w:World)(x:Str)(t:Tok):(eJ prog w).is (.inr x) (.str x t)=true:=Br x t
set_option genInjectivity true in
inductive V where
 |ax|bl (b:Bool)|int (i:Int)|str (x:Str)|Bs (b:Array UInt8)|gS (b:UInt64)|ref (a:Addr)|ty (n:String)
 deriving DecidableEq
noncomputable def RelV:V->Value->Prop
 |.ax,u=>u=acg|.bl b,u=>u=afq b|.int i,u=>∃t,u=ae1 i t|.str x,u=>∃t,u=Value.str x t|.Bs b,u=>∃t,u=Value.bytes b t|.gS b,u=>∃t,u=Value.float b t|.ref a,u=>u=acZ a|.ty n,u=>u=abg n
abbrev Vals:List V->List Value->Prop:=Paired RelV
theorem Vals.length {xs:List V}{us:List Value}(r:Vals xs us):xs.length=us.length:=Paired.length r
theorem Vals.get:∀{xs:List V} {us:List Value} {i:Nat} {x:V},Vals xs us->xs[i]? = some x->∃u,us[i]? = some u/\RelV x u
 |_,_,_,_,.nil,e=>by simp at e|_,_,0,_,.cons r _,e=>by simp at e;subst e;exact⟨_,rfl,r⟩|_,_,i+1,x,.cons _ t,e=>by obtain⟨u,b,a⟩:=Vals.get (i:=i) (x:=x) t (by simpa using e);exact⟨u,by simpa using b,a⟩
theorem Vals.set {x:V}{u:Value}(r:RelV x u):∀{xs:List V} {us:List Value} (i:Nat),Vals xs us->Vals (xs.set i x) (us.set i u)
 |_,_,_,.nil=>.nil|_,_,0,.cons _ t=>.cons r t|_,_,i+1,.cons q t=>.cons q (Vals.set r i t)
theorem Vals.append:∀{xs ys:List V} {us ws:List Value},Vals xs us->Vals ys ws->Vals (xs++ys) (us++ws)
 |_,_,_,_,.nil,s=>s|_,_,_,_,.cons r t,s=>.cons r (Vals.append t s)
theorem Vals.take:∀{xs:List V} {us:List Value} (n:Nat),Vals xs us->Vals (xs.take n) (us.take n)
 |_,_,0,_=>.nil|_,_,_+1,.nil=>.nil|_,_,n+1,.cons r t=>.cons r (Vals.take n t)
theorem Vals.drop:∀{xs:List V} {us:List Value} (n:Nat),Vals xs us->Vals (xs.drop n) (us.drop n)
 |_,_,0,r=>r|_,_,_+1,.nil=>.nil|_,_,n+1,.cons _ t=>Vals.drop n t
def K6:Option V->Option Value->Prop
 |some v,some u=>RelV v u|none,none=>True|_,_=>False
def KV {a:Type}:List (a×V)->List (a×Value)->Prop:=Paired λ(p:a×V) (q:a×Value)=>p.1=q.1/\RelV p.2 q.2
noncomputable def kV:Key->V
 |.inl i=>.int i|.inr x=>.str x
def fJ (h:Heap)(a:Addr)(items:Array Value):Prop:=∃o,h.get? a=some o/\o.cls = .type "tuple" /\ (∃n,o.data = .seq items n)/\o.dict=none
theorem fJ.t {h:Heap}{a:Addr}{items:Array Value}(p:fJ h a items):IsTup h a items:=let⟨o,h1,h2,h3,_⟩:=p;⟨o,h1,h2,h3⟩
theorem fJ.new (h:Heap)(au:Array Value):fJ (h.push { cls:=.type "tuple",data:=.seq au }) h.objs.size au:=⟨_,aaq _ rfl,rfl,⟨_,rfl⟩,rfl⟩
inductive HO where
 |lst (xs:List V)
 |tup (xs:List V)
 |dK (d6:List (Key×V))|dT (d6:List (List Key×V))
 |set (S:Int->Bool) (n:Nat)
 |ins (C dx:Addr) (fs:List (Str×V))
 |own (x:Addr)
 |xd (fs:List (Str×V))
 |met (f x:Addr)
 |gp (lo hi:Int)
 |mS (o:Obj) (u:HO)
 |bU (p:Pos) (q:Str)
 |iq (q:Str)
 |ext (φ:Heap->Prop)
abbrev Hp:=Addr->Option HO
noncomputable def upd (H:Hp)(a:Addr)(o:HO):Hp:=λb=>if b=a then some o else H b
theorem aR {H:Hp}{a:Addr}{o:HO}:upd H a o a=some o:=by unfold upd;rw[if_pos rfl]
theorem aB {H:Hp}{a b:Addr}{o:HO}(h:b≠a):upd H a o b=H b:=by unfold upd;rw[if_neg h]
theorem qq {H:Hp}{a b:Addr}{o u:HO}(h:H a=some o)(h':H b=some u)(d:o≠u):a≠b:=by intro e;subst e;rw[h]at h';exact d (aa_ h')
theorem aN {H:Hp}{a b:Addr}{o:HO}(h:H a=some o)(h':H b=none):a≠b:=by intro e;subst e;rw[h]at h';cases h'
section
variable (P:aaG)(w:World)
def dj (H:Hp)(h:Heap)(a:Addr):HO->Prop
 |.lst xs=>xs.length<=aax /\ ∃(au:List Value) (n:Nat),Vals xs au/\h.get? a=some { cls:=.type "list",data:=.seq au.toArray n }|.tup xs=>xs.length<=aax /\ ∃au:List Value,Vals xs au/\fJ h a au.toArray|.dK d6=>d6.length<=aax/\(a == adh)=false /\ ∃vs,KV d6 vs/\h.DictOf (eJ P w) a vs
 |.dT d6=>d6.length<=aax/\(a == adh)=false /\ ∃xs:List (List Key×Addr×Value),
  Paired (λ(p:List Key×V) (q:List Key×Addr×Value)=>p.1=q.1/\H q.2.1=some (.tup (p.1.map kV))/\RelV p.2 q.2.2) d6 xs /\
  ∃o es ep,h.get? a=some o/\o.ExactDict/\o.data = .dict es ep/\es.toList=xs.map (entryOfKey (tupleKind (eJ P w)))/\(xs.map (·.1)).Nodup
 |.set S n=>h.SetOf (adN P w) a S n
 |.ins C dx fs=>H dx=some (.own a)/\fs.length<=1000/\dx≠a/\h.get? a=some (PySem.W.instObj C dx) /\
  ∃mA,h.Ns1 dx mA/\(∀f,K6 (fs.lookup f) (mA f))/\PySem.Within mA (fs.map (·.1))
 |.own _=>∃o,h.get? a=some o|.xd fs=>∃mA,h.Ns1 a mA /\ ∀f,K6 (fs.lookup f) (mA f)|.gp lo hi=>∃t u v,h.get? a=some { cls:=.type "range",data:=.fields #[.int lo t,.int hi u,.int 1 v] }|.mS o u=>h.get? a=some o/\dj H h a u|.bU p q=>∃ps:Array Value,h.get? a=some (acK ps)/\TriplesOk ps.toList/\(codeAmong p ps.toList=none \/ ∃c,codeAmong p ps.toList=some (.ref c)/\H c=some (.iq q))|.iq q=>h.CodeRec (.ref a) q|.met f x=>h.get? a=some (afk (.ref f) (.ref x))|.ext φ=>φ h/\(∃o,h.get? a=some o) /\ ∀h1 h2:Heap,φ h1->(∀o,h1.get? a=some o->h2.get? a=some o)->φ h2
def d7 (H:Hp)(h:Heap):Prop:=∀a o,H a=some o->dj P w H h a o
end
section
variable {P:aaG}{w:World}{H H':Hp}{h h':Heap}{a:Addr}{o:HO}
theorem dj.lt (x:dj P w H h a o):a<h.objs.size:=by
 cases o with
 |lst xs=>obtain⟨_,_,_,_,e⟩:=x;exact aas e
 |tup xs=>obtain⟨_,_,_,p⟩:=x;exact p.t.lt
 |dK d6=>obtain⟨_,_,_,_,o,_,_,e,_⟩:=x;exact aas e
 |dT d6=>obtain⟨_,_,_,_,o,_,_,e,_⟩:=x;exact aas e
 |set S n=>obtain⟨o,_,_,_,e,_⟩:=x;exact aas e
 |ins C dx fs=>obtain⟨_,_,_,e,_⟩:=x;exact aas e
 |own y=>obtain⟨_,e⟩:=x;exact aas e
 |xd fs=>obtain⟨_,⟨_,_,_,e,_⟩,_⟩:=x;exact aas e
 |gp lo hi=>obtain⟨_,_,_,e⟩:=x;exact aas e
 |mS ob u=>obtain⟨e,_⟩:=x;exact aas e
 |bU p q=>obtain⟨_,e,_⟩:=x;exact aas e
 |iq q=>obtain⟨_,_,_,_,b,e,_⟩:=x;cases b;exact aas e
 |met f y=>exact aas (show h.get? a=some _ from x)|ext φ=>obtain⟨_,⟨_,e⟩,_⟩:=x;exact aas e
theorem Paired.K7 {c d:Type}{F G:c->d->Prop}:∀{l₁:List c} {l₂:List d},Paired F l₁ l₂->(∀a b,F a b->G a b)->Paired G l₁ l₂
 |_,_,.nil,_=>.nil|_,_,.cons r t,f=>.cons (f _ _ r) (Paired.K7 t f)
theorem dj.cu (x:dj P w H h a o)(k:∀b u,(b=a\/H b=some (.own a))->h.get? b=some u->h'.get? b=some u)
  (A:∀b,H b=some (.own a)->H' b=some (.own a)) (B:∀b xs,H b=some (.tup xs)->H' b=some (.tup xs)) (E:∀b q,H b=some (.iq q)->H' b=some (.iq q)):dj P w H' h' a o:=by
 induction o with
 |lst xs=>obtain⟨z,au,n,r,e⟩:=x;exact⟨z,au,n,r,k _ _ (.inl rfl) e⟩
 |tup xs=>obtain⟨z,au,r,i,e,c⟩:=x;exact⟨z,au,r,i,k _ _ (.inl rfl) e,c⟩
 |dK d6=>obtain⟨z,y,vs,r,i,l,j,e,c⟩:=x;exact⟨z,y,vs,r,i,l,j,k _ _ (.inl rfl) e,c⟩
 |dT d6 =>
  obtain⟨z,y,xs,r,i,l,j,e,c⟩:=x;exact⟨z,y,xs,Paired.K7 r λp q z=>⟨z.1,B _ _ z.2.1,z.2.2⟩,i,l,j,k _ _ (.inl rfl) e,c⟩
 |set S n=>obtain⟨i,l,j,t,e,c⟩:=x;exact⟨i,l,j,t,k _ _ (.inl rfl) e,c⟩
 |ins C dx fs =>
  obtain⟨d,z,ne,e,s,⟨od,l,j,e2,c⟩,r⟩:=x;exact⟨A _ d,z,ne,k _ _ (.inl rfl) e,s,⟨od,l,j,k _ _ (.inr d) e2,c⟩,r⟩
 |own y=>obtain⟨i,e⟩:=x;exact⟨i,k _ _ (.inl rfl) e⟩
 |xd fs=>obtain⟨s,⟨od,l,j,e,c⟩,r⟩:=x;exact⟨s,⟨od,l,j,k _ _ (.inl rfl) e,c⟩,r⟩
 |gp lo hi=>obtain⟨t,u,v,e⟩:=x;exact⟨t,u,v,k _ _ (.inl rfl) e⟩
 |mS i u ih=>obtain⟨e,q⟩:=x;exact⟨k _ _ (.inl rfl) e,ih q⟩
 |bU p q=>obtain⟨ps,e,t,r⟩:=x;exact⟨ps,k _ _ (.inl rfl) e,t,r.imp id λ⟨c,e1,e2⟩=>⟨c,e1,E _ _ e2⟩⟩
 |iq q=>obtain⟨c,i,vs,t,e1,e,r⟩:=x;cases e1;exact⟨_,i,vs,t,rfl,k _ _ (.inl rfl) e,r⟩
 |met f y =>
  have e:h.get? a=some (afk (.ref f) (.ref y)):=x;show h'.get? a=some (afk (.ref f) (.ref y));exact k a _ (.inl rfl) e
 |ext φ=>obtain⟨p,⟨o,e⟩,st⟩:=x;exact⟨st _ _ p λo q=>k _ _ (.inl rfl) q,⟨o,k _ _ (.inl rfl) e⟩,st⟩
theorem d7.lt (x:d7 P w H h)(e:H a=some o):a<h.objs.size:=(x a o e).lt
theorem d7.fresh (x:d7 P w H h)(e:h.objs.size<=a):H a=none:=by
 cases q:H a with
 |none=>rfl|some u=>exact absurd (aaM (x.lt q) e) (abY _)
theorem d7.kept (x:d7 P w H h)(k:∀b u,h.get? b=some u->h'.get? b=some u):d7 P w H h':=λa o e =>
 (x a o e).cu (λb u _ q=>k b u q) (λ_ q=>q) (λ_ _ q=>q) λ_ _ q=>q
theorem d7.laid (x:d7 P w H h)(k:∀b u,h.get? b=some u->h'.get? b=some u)(f:h.objs.size<=a)(new:dj P w (upd H a o) h' a o):d7 P w (upd H a o) h':=λb u e=>by
 have d:=x.fresh f;by_cases hb:b=a
 . subst hb;rw[aR]at e;cases e;exact new
 . rw[aB hb]at e
   exact(x b u e).cu (λc v _ q=>k c v q) (λc q=>by rw[aB (aN q d)];exact q) (λc xs q=>by rw[aB (aN q d)];exact q) λc xs q=>by rw[aB (aN q d)];exact q
end
def Rd (H:Hp)(a:Addr)(u:HO):Prop:=H a=some u \/ ∃o,H a=some (.mS o u)
theorem Rd.ok {P:aaG}{w:World}{H:Hp}{h:Heap}{a:Addr}{u:HO}(r:Rd H a u)(x:d7 P w H h):dj P w H h a u:=by
 rcases r with r|⟨o,r⟩
 . exact x a u r
 . obtain⟨_,q⟩:=x a _ r
   exact q
noncomputable def GH:Option HO->Prop
 |some (.lst _)=>True|some (.dK _)=>True|some (.dT _)=>True|some (.set _ _)=>True|some (.ins _ _ _)=>True|some (.ext _)=>True|_=>False
section
variable {P:aaG}{w:World}{H:Hp}{h h':Heap}{x e:Addr}{o':HO}
theorem d7.write (ok:d7 P w H h)(n:GH (H x))(o:e=x\/H e=some (.own x))(k:∀b u,b≠e->h.get? b=some u->h'.get? b=some u)(p:∃u,h'.get? e=some u)
   (new:dj P w (upd H x o') h' x o'):d7 P w (upd H x o') h':=λb u q=>by
 have f:∀c y,H c=some (.own y)->c≠x:=λc y r z=>by subst z;rw[r]at n;exact n
 have l:∀c xs,H c=some (.tup xs)->c≠x:=λc xs r z=>by subst z;rw[r]at n;exact n
 have j:∀c q,H c=some (.iq q)->c≠x:=λc xs r z=>by subst z;rw[r]at n;exact n
 by_cases hb:b=x
 . subst hb;rw[aR]at q;cases q;exact new
 . rw[aB hb]at q
   by_cases vd:b=e
   . have d:H b=some (.own x):=by
       rcases o with z|z
       . exact absurd (vd.trans z) hb
       . rw[vd];exact z
     rw[q]at d;cases d;obtain⟨v,i⟩:=p;exact⟨v,by rw[vd];exact i⟩
   . refine(ok b u q).cu (λc v a r=>k c v ?_ r) (λc r=>by rw[aB (f c b r)];exact r) (λc xs r=>by rw[aB (l c xs r)];exact r) λc q r=>by rw[aB (j c q r)];exact r
     rcases a with rfl|a
     . exact vd
     . rintro rfl
       rcases o with z|z
       . exact f c b a z
       . rw[a]at z;cases z;exact hb rfl
end
noncomputable def K9:HO->Bool
 |.bU _ _=>true|.iq _=>true|_=>false
structure Un (fs ex:List Addr)(H H':Hp)(h h':Heap):Prop where
 keep:∀b o,h.get? b=some o->H b=none->b ∉ fs->b ∉ ex->h'.get? b=some o
 slot:∀b o,h.get? b=some o->H b=none->b∈fs->b ∉ ex->∃sl,h'.get? b=some { o with slots:=sl }
 free:∀b o,h.get? b=some o->H b=none->b ∉ ex->H' b=none
 there:∀b o,h.get? b=some o->b ∉ ex->∃o',h'.get? b=some o'
 k5:∀b xs,H b=some (.tup xs)->H' b=some (.tup xs)
 jP:∀b o u,H b=some (.mS o u)->H' b=some (.mS o u)
 jQ:∀b u,K9 u=true->H b=some u->H' b=some u
section
variable {fs fs' ex ex':List Addr}{H H1 H2:Hp}{h h1 h2 h':Heap}{a x e:Addr}{o:HO}
theorem Un.any (u:Un fs ex H H1 h h1){b:Addr}{c:Obj}(q:h.get? b=some c)(n:H b=none)(d:b ∉ ex):∃sl,h1.get? b=some { c with slots:=sl }:=by
 by_cases hb:b∈fs
 . exact u.slot b c q n hb d
 . exact⟨c.slots,u.keep b c q n hb d⟩
theorem Un.kept (k:∀b u,h.get? b=some u->h'.get? b=some u):Un fs ex H H h h' :=
 ⟨λb a q _ _ _=>k b a q,λb a q _ _ _=>⟨a.slots,k b a q⟩,λ_ _ _ n _=>n,λb a q _=>⟨a,k b a q⟩,λ_ _ q=>q,λ_ _ _ q=>q,λ_ _ _ q=>q⟩
theorem Un.refl:Un fs ex H H h h:=Un.kept λ_ _ q=>q
theorem Un.laid (k:∀b u,h.get? b=some u->h'.get? b=some u)(d:h.objs.size<=a)(c:H a=none):Un fs ex H (upd H a o) h h' where
 keep:=λb u q _ _ _=>k b u q
 slot:=λb u q _ _ _=>⟨u.slots,k b u q⟩
 free:=λb u q n _=>by rw[aB (aaH (aaM (aas q) d))];exact n
 there:=λb u q _=>⟨u,k b u q⟩
 k5:=λb xs q=>by rw[aB (aN q c)];exact q
 jP:=λb u xs q=>by rw[aB (aN q c)];exact q
 jQ:=λb u _ q=>by rw[aB (aN q c)];exact q
theorem Un.write (d:GH (H x))(f:e=x\/H e=some (.own x))(k:∀b u,b≠e->h.get? b=some u->h'.get? b=some u)(i:∃u,h'.get? e=some u):Un fs ex H (upd H x o) h h':=by
 have a:∀b,H b=none->b≠x:=λb n z=>by subst z;rw[n]at d;exact d
 have c:∀b,H b=none->b≠e:=λb n z=>by
   subst z;rcases f with r|r
   . exact a b n r
   . rw[n]at r;cases r
 have hm:∀b u,H b=some u->¬GH (some u)->b≠x:=λb u q nm z=>by subst z;rw[q]at d;exact nm d
 refine⟨λb u q n _ _=>k b u (c b n) q,λb u q n _ _=>⟨u.slots,k b u (c b n) q⟩,λb u q n _=>by rw[aB (a b n)];exact n,λb u q _=>?_,
   λb xs q=>by rw[aB (hm b _ q λz=>z)];exact q,λb u xs q=>by rw[aB (hm b _ q λz=>z)];exact q,λb v t q=>by rw[aB (hm b _ q λz=>by cases v<;>first|exact z|cases t)];exact q⟩
 by_cases vd:b=e
 . subst vd;exact i
 . exact⟨u,k b u vd q⟩
end
noncomputable def kC (h:Heap)(H:Hp):List Addr:=(aba h.objs.size).filter λa=>(H a).isSome
def lY (h:Heap)(H:Hp):Heap:=PySem.W.hideAll h (kC h H)
theorem Bu (h:Heap)(H:Hp):(lY h H).objs.size=h.objs.size:=PySem.W.hideAll_size _ _
theorem EA {h:Heap}{H:Hp}{b:Addr}{o:Obj}(e:h.get? b=some o)(n:H b=none):(lY h H).get? b=some o :=
 PySem.W.hideAll_get _ e λhm=>by have q:(H b).isSome=true:=(abM.mp hm).2;rw[n]at q;simp at q
theorem IC {h:Heap}{H:Hp}{b:Addr}{o:Obj}(e:(lY h H).get? b=some o):h.get? b=some o/\H b=none:=by
 have a:h.get? b=some o:=PySem.W.of_hideAll (kC h H) e;refine⟨a,?_⟩;cases q:H b with
 |none=>rfl
 |some x =>
  have hm:b∈kC h H:=abM.mpr ⟨agd.mpr (aas a),by simp[q]⟩;have z:(lY h H).get? b=none:=PySem.W.hideAll_none (kC h H) hm;rw[z]at e;cases e
noncomputable def ID (g h:Heap)(L:Addr):List (Addr×Obj):=(aba h.objs.size).filterMap λa=>if a=L\/(g.get? a).isSome=true then none else(h.get? a).map λo=>(a,o)
def rest (g h:Heap)(L d:Addr):List (Addr×Obj):=(ID g h L).filter λp=>decide (p.1≠d)
structure Mod (K:aat)(mg:Str->Option Value)(base:Heap):Prop where
 qr:K.In base
 glob:base.Ns aaZ mg
 blt:∃mb,base.Ns afr mb /\ ∀x:Str,x ≠ "__name__"->mb x=acr x
 nolimit:base.NoLimit
 bm:∃bm ob,BMod base aaZ mg bm ob
structure dS where
 ar:ady
 bd:Expr
 sc:Scope
 qual:Str
 fv:List Str
 ps:List Str
structure Lx where
 tb:List (Addr×Pos×Str)
 lm:Str->Option dS
structure Cx where
 prog:aaG
 w:World
 K:aat
 mg:Str->Option Value
 base:Heap
 A:aaL
 N:List Str
 s₀:aac
 H₀:Hp
 env:Env
 outer:List Env
 stack:List Env
 ex:List Addr
 fn:Str->Bool
 calm:Bool
 pn:List (Addr×Obj)
 xe:Value->aac->Prop
 lx:Lx
noncomputable def kD (l:List Env):List Addr:=l.filterMap (·.frame)
abbrev Cx.fs (X:Cx):List Addr:=kD X.outer
def Bv (sc:Scope)(x:Str):Prop:=sc.names.lookup x=some .local\/sc.names.lookup x=some .cell\/sc.names.lookup x=some .free
def Loc (sc:Scope)(x:Str):Prop:=sc.names.lookup x=some .local\/sc.names.lookup x=some .cell
noncomputable def Look (env:Env)(h:Heap)(m:Str->Option Value)(x:Str)(u:Value):Prop :=
 (env.kindOf x=some .local/\m x=some u)\/((env.kindOf x=some .cell\/env.kindOf x=some .free) /\ ∃c,env.cells.lookup x=some c/\h.IsCell c (some u))
structure Cx.Ok (X:Cx):Prop where
 mod:Mod X.K X.mg X.base
 kind:X.env.scope.kind = .function
 glob:X.env.globals=aaZ
 blt:X.env.builtins=afr
 above:X.s₀.heap.objs.size<=X.env.locals
 inj:∀x y c,X.env.cells.lookup x=some c->X.env.cells.lookup y=some c->x=y
 has:∀x,(X.env.kindOf x=some .cell\/X.env.kindOf x=some .free)->∃c,X.env.cells.lookup x=some c
 yo:∀x c,X.fn x=true->X.env.cells.lookup x=some c->X.s₀.heap.objs.size<=c
 hd:X.calm=true->X.A.handled=none
 frames:X.A.frames=some X.stack
 ve:X.stack=X.outer\/(X.stack=X.env::X.outer/\X.env.frame=some X.env.locals)
 K_:∀b∈X.ex,b≠X.env.locals /\ ∀x c,X.env.cells.lookup x=some c->c≠b
 bs:∀b o,X.base.get? b=some o->X.s₀.heap.get? b=some o/\X.H₀ b=none
 nj:X.base.objs.size<=X.s₀.heap.objs.size
 pP:∀b o,X.base.get? b=some o->b ∉ X.ex
 vf:∀b∈X.ex,b ∉ X.fs
 gU:X.s₀.heap.FunFrames X.base X.outer
 qt:∀b∈X.fs,X.H₀ b=none
structure Inv (X:Cx)(b0:List (Addr×Obj))(σ:List (Option V))(H:Hp)(s:aac):Prop where
 ok:X.Ok
 os:s.os=X.s₀.os
 bare:aer s.gens
 base:Un X.fs X.ex X.H₀ H X.s₀.heap s.heap
 loc:∃m,s.heap.Ns X.env.locals m /\ ∀(i:Nat) (x:Str) (v:V),X.N[i]? = some x->σ[i]? = some (some v)->Bv X.env.scope x->∃u,RelV v u/\Look X.env s.heap m x u
 cell:∀x c,X.env.cells.lookup x=some c->∃v,s.heap.IsCell c v
 free:H X.env.locals=none
 gz:∀x c,X.env.cells.lookup x=some c->H c=none
 pin:∀p∈X.pn++b0,s.heap.get? p.1=some p.2/\H p.1=none/\p.1≠X.env.locals/\p.1 ∉ X.fs /\ ∀v,p.2.data ≠ .cell v
 aU:d7 X.prog X.w H s.heap
 len:σ.length=X.N.length
section
variable {X:Cx}{b0:List (Addr×Obj)}{σ:List (Option V)}{H H':Hp}{s:aac}{h':Heap}
theorem Cx.Ok.UW (ok:X.Ok){b:Addr}{o:Obj}(e:X.base.get? b=some o):b ∉ X.fs:=λa=>by have:=(ok.gU.mem a).1;rw[e]at this;cases this
theorem Inv.bs (I:Inv X b0 σ H s):∀b o,X.base.get? b=some o->s.heap.get? b=some o/\H b=none:=λb o e =>
 ⟨I.base.keep b o (I.ok.bs b o e).1 (I.ok.bs b o e).2 (I.ok.UW e) (I.ok.pP b o e),I.base.free b o (I.ok.bs b o e).1 (I.ok.bs b o e).2 (I.ok.pP b o e)⟩
theorem Inv.bk (I:Inv X b0 σ H s):∀b o,X.base.get? b=some o->s.heap.get? b=some o:=λb o e=>(I.bs b o e).1
theorem Inv.mod (I:Inv X b0 σ H s):Mod X.K X.mg X.base:=I.ok.mod
theorem Inv.gq (I:Inv X b0 σ H s):X.K.In s.heap:=I.ok.mod.qr.keeps I.bk
theorem Inv.lt (I:Inv X b0 σ H s):X.env.locals<s.heap.objs.size:=let⟨_,hn,_⟩:=I.loc;hn.lt
theorem Inv.sz (I:Inv X b0 σ H s):X.s₀.heap.objs.size<=s.heap.objs.size:=aa0 I.ok.above (adp I.lt)
theorem Inv.UX (I:Inv X b0 σ H s){a:Addr}(h:s.heap.objs.size<=a):a ∉ X.fs:=λc=>by obtain⟨_,o,b,_⟩:=I.ok.gU.mem c;exact absurd (aaM (aas b) (aa0 I.sz h)) (abY _)
theorem Inv.sY (I:Inv X b0 σ H s):∀x c,X.env.cells.lookup x=some c->c≠X.env.locals:=λx c e z=>by obtain⟨v,o,a,hd⟩:=I.cell x c e;obtain⟨m,⟨h,f,i,b,d,_⟩,_⟩:=I.loc;rw[z,b]at a;cases a;rw[d]at hd;cases hd
theorem Inv.gU (I:Inv X b0 σ H s):s.heap.FunFrames X.base X.outer:=by
 have all:∀(l:List Env),(∀b∈kD l,b∈X.fs)->X.s₀.heap.FunFrames X.base l->s.heap.FunFrames X.base l:=by
  intro l;induction l with
  |nil=>intro _ _;trivial
  |cons env r ih =>
   intro d h;obtain⟨k,⟨L,o,hf,f,i,hd⟩,j⟩:=h;have c:L∈X.fs:=d L (by unfold kD;rw[ac_,hf];exact aaC);obtain⟨n,e⟩:=I.base.slot L o i (I.ok.qt L c) c λz=>I.ok.vf L z c;exact⟨k,⟨L,_,hf,f,e,hd⟩,ih (λb a=>d b (by unfold kD;rw[ac_,hf];exact aau _ a)) j⟩
 exact all X.outer (λ_ a=>a) I.ok.gU
theorem Inv.stack (I:Inv X b0 σ H s):s.heap.FunFrames X.base X.stack:=by
 rcases I.ok.ve with e|⟨e,hf⟩
 . rw[e];exact I.gU
 . rw[e]
   obtain⟨m,a,_⟩:=I.loc;refine .cons (by rw[I.ok.kind];decide) hf a ?_ I.gU;exact Heap.get?_none_of_le (aa0 I.ok.nj I.ok.above)
theorem Inv.qu (I:Inv X b0 σ H s):∀b∈kD X.stack,b∈X.env.locals::X.fs:=λb a=>by
 rcases I.ok.ve with e|⟨e,hf⟩
 . rw[e]at a;exact aau _ a
 . rw[e]at a
   unfold kD at a;rw[ac_,hf]at a;exact a
theorem Inv.yp (I:Inv X b0 σ H s):∀b∈kD X.stack,H b=none:=λb a=>by
 rcases aah.mp (I.qu b a)with e|a
 . rw[e];exact I.free
 . obtain⟨_,o,c,_⟩:=I.ok.gU.mem a
   exact I.base.free b o c (I.ok.qt b a) λz=>I.ok.vf b z a
theorem Inv.step {g':Array afE}{t':Nat}{d':Drawn}{ch:List Addr}(I:Inv X b0 σ H s)
   (E:∀b∈ch,(b∈X.ex\/X.s₀.heap.objs.size<=b)/\b≠X.env.locals/\(∀x c,X.env.cells.lookup x=some c->c≠b) /\ ∀p∈X.pn++b0,p.1≠b)
   (B:∀b o,b≠X.env.locals->b ∉ X.fs->b ∉ ch->s.heap.get? b=some o->H b=none->h'.get? b=some o)
   (slot:∀b o,b≠X.env.locals->b∈X.fs->b ∉ ch->s.heap.get? b=some o->H b=none->∃sl,h'.get? b=some { o with slots:=sl }) (A:∀b o,b ∉ ch->s.heap.get? b=some o->H b=none->H' b=none)
   (C:∀b o,b ∉ ch->s.heap.get? b=some o->∃o',h'.get? b=some o')
   (J:∀b xs,H b=some (.tup xs)->H' b=some (.tup xs)) (K:∀b o u,H b=some (.mS o u)->H' b=some (.mS o u)) (M:∀b u,K9 u=true->H b=some u->H' b=some u)
   (ns:∀m,s.heap.Ns X.env.locals m->h'.Ns X.env.locals m) (N:d7 X.prog X.w H' h') (L:aer g'):
   Inv X b0 σ H' { s with heap:=h',gens:=g',drawn:=d',toks:=t' }:=by
 have Sa:∀b o,X.s₀.heap.get? b=some o->b≠X.env.locals:=λb o e=>aaH (aaM (aas e) I.ok.above);have GI:∀b o,X.s₀.heap.get? b=some o->b ∉ X.ex->b ∉ ch:=λb o e a h=>by
   rcases (E b h).1 with z|z
   . exact a z
   . exact absurd (aaM (aas e) z) (abY _)
 have cellK:∀x c,X.env.cells.lookup x=some c->∀v,s.heap.IsCell c v->h'.IsCell c v:=λx c e v ⟨o,j,hd⟩=>by
   have y:c ∉ ch:=λz=>(E c z).2.2.1 x c e rfl;by_cases hc:c∈X.fs
   . obtain⟨sl,q⟩:=slot c o (I.sY x c e) hc y j (I.gz x c e)
     exact⟨_,q,hd⟩
   . exact⟨o,B c o (I.sY x c e) hc y j (I.gz x c e),hd⟩
 refine⟨I.ok,I.os,L,⟨λb o e n h a=>?_,λb o e n h a=>?_,λb o e n a=>?_,λb o e a=>?_,λb xs e=>J b xs (I.base.k5 b xs e),λb o xs e=>K b o xs (I.base.jP b o xs e),λb u t e=>M b u t (I.base.jQ b u t e)⟩,?_,λx c e=>?_,?_,λx c e=>?_,λp hp=>?_,N,I.len⟩
 . exact B b o (Sa b o e) h (GI b o e a) (I.base.keep b o e n h a) (I.base.free b o e n a)
 . obtain⟨sl,f⟩:=I.base.slot b o e n h a
   obtain⟨nq,e2⟩:=slot b _ (Sa b o e) h (GI b o e a) f (I.base.free b o e n a);exact⟨nq,e2⟩
 . obtain⟨o',f⟩:=I.base.there b o e a
   exact A b o' (GI b o e a) f (I.base.free b o e n a)
 . obtain⟨o',f⟩:=I.base.there b o e a
   exact C b o' (GI b o e a) f
 . obtain⟨m,hn,hl⟩:=I.loc
   refine⟨m,ns m hn,λi x v f e2 e3=>?_⟩;obtain⟨u,r,l⟩:=hl i x v f e2 e3;refine⟨u,r,?_⟩;rcases l with l|⟨k,c,e,z⟩
   . exact .inl l
   . exact .inr ⟨k,c,e,cellK x c e _ z⟩
 . obtain⟨v,z⟩:=I.cell x c e
   exact⟨v,cellK x c e v z⟩
 . obtain⟨m,⟨o,_,_,j,_⟩,_⟩:=I.loc
   exact A _ o (λz=>(E _ z).2.1 rfl) j I.free
 . obtain⟨v,o,j,hd⟩:=I.cell x c e
   exact A c o (λz=>(E c z).2.2.1 x c e rfl) j (I.gz x c e)
 . obtain⟨e,n,ne,nf,d⟩:=I.pin p hp
   have y:p.1 ∉ ch:=λz=>(E p.1 z).2.2.2 p hp rfl;exact⟨B p.1 p.2 ne nf y e n,A p.1 p.2 y e n,ne,nf,d⟩
theorem Inv.un {t':Nat}(I:Inv X b0 σ H s)(u:Un X.fs [] H H' s.heap h')(x:d7 X.prog X.w H' h'):Inv X b0 σ H' { s with heap:=h',toks:=t' }:=by
 obtain⟨m,⟨o,l,k,d,r⟩,_⟩:=id I.loc;obtain⟨q,j⟩:=u.any d I.free (by simp);exact I.step (g':=s.gens) (d':=s.drawn) (ch:=[]) (λ_ z=>nomatch z) (λb o _ a _ e n=>u.keep b o e n a (by simp)) (λb o _ a _ e n=>u.slot b o e n a (by simp)) (λb o _ e n=>u.free b o e n (by simp)) (λb o _ e=>u.there b o e (by simp)) u.k5 u.jP u.jQ (λv hm=>by obtain⟨p,i,h,c,f⟩:=hm;rw[d]at c;cases c;exact⟨_,i,h,j,f⟩) x I.bare
theorem Inv.call {g':Array afE}{t':Nat}{d':Drawn}{ch:List Addr}(I:Inv X b0 σ H s)(u:Un (kD X.stack) ch H H' s.heap h')(C:d7 X.prog X.w H' h')(B:aer g')
  (A:∀b∈ch,(b∈X.ex\/X.s₀.heap.objs.size<=b)/\b≠X.env.locals/\(∀x c,X.env.cells.lookup x=some c->c≠b) /\ ∀p∈X.pn++b0,p.1≠b):
  Inv X b0 σ H' { s with heap:=h',gens:=g',drawn:=d',toks:=t' }:=by
 obtain⟨m,⟨o,v,q,h,r⟩,_⟩:=id I.loc;obtain⟨sl,d⟩:=u.any h I.free λz=>(A _ z).2.1 rfl;exact I.step (ch:=ch) A (λb o d k a e n=>u.keep b o e n (λz=>(aah.mp (I.qu b z)).elim d k) a) (λb o _ _ a e n=>u.any e n a) (λb o a e n=>u.free b o e n a) (λb o a e=>u.there b o e a) u.k5 u.jP u.jQ (λm' hm=>by obtain⟨y,l,j,f,i⟩:=hm;rw[h]at f;cases f;exact⟨_,l,j,d,i⟩) C B
theorem Inv.turned {t':Nat}{it:Addr}(I:Inv X b0 σ H s)(k:∀b o,b≠it->s.heap.get? b=some o->h'.get? b=some o)(C:H it=none)(l:it≠X.env.locals)
   (y:it∈X.ex\/X.s₀.heap.objs.size<=it) (A:∀x c,X.env.cells.lookup x=some c->c≠it) (B:∀p∈X.pn++b0,p.1≠it):Inv X b0 σ H { s with heap:=h',toks:=t' }:=by
 have d:∀b u,H b=some u->b≠it:=λb u e z=>by rw[z,C]at e;cases e
 refine I.step (g':=s.gens) (d':=s.drawn) (ch:=[it]) (λb i=>?_) (λb o _ _ a e _=>k b o (λz=>a (by simp[z])) e) (λb o _ _ a e _=>⟨o.slots,k b o (λz=>a (by simp[z])) e⟩) (λ_ _ _ _ n=>n)
   (λb o a e=>⟨o,k b o (λz=>a (by simp[z])) e⟩) (λ_ _ e=>e) (λ_ _ _ e=>e) (λ_ _ _ e=>e) (λm hm=>?_) (λb u e=>?_) I.bare
 . have e:b=it:=by simpa using i
   subst e;exact⟨y,l,A,B⟩
 . obtain⟨o,h,f,j,r⟩:=hm
   exact⟨o,h,f,k _ o (aaN l) j,r⟩
 . refine(I.aU b u e).cu (λc v a q=>k c v ?_ q) (λ_ q=>q) (λ_ _ q=>q) λ_ _ q=>q
   rcases a with z|z
   . rw[z];exact d b u e
   . exact d c _ z
theorem Inv.tok (I:Inv X b0 σ H s)(t:Nat):Inv X b0 σ H { s with toks:=t }:=I.un (h':=s.heap) (t':=t) Un.refl I.aU
theorem Inv.kept {t':Nat}(I:Inv X b0 σ H s)(k:∀b u,s.heap.get? b=some u->h'.get? b=some u):Inv X b0 σ H { s with heap:=h',toks:=t' }:=I.un (Un.kept k) (I.aU.kept k)
theorem Inv.laid {a:Addr}{o:HO}{t':Nat}(I:Inv X b0 σ H s)(k:∀b u,s.heap.get? b=some u->h'.get? b=some u)(c:s.heap.objs.size<=a)(new:dj X.prog X.w (upd H a o) h' a o):
 Inv X b0 σ (upd H a o) { s with heap:=h',toks:=t' }:=I.un (Un.laid k c (I.aU.fresh c)) (I.aU.laid k c new)
theorem Inv.write {x e:Addr}{o:HO}{t':Nat}(I:Inv X b0 σ H s)(a:GH (H x))(c:e=x\/H e=some (.own x))(k:∀b u,b≠e->s.heap.get? b=some u->h'.get? b=some u)(d:∃u,h'.get? e=some u)
 (new:dj X.prog X.w (upd H x o) h' x o):Inv X b0 σ (upd H x o) { s with heap:=h',toks:=t' }:=I.un (Un.write a c k d) (I.aU.write a c k d new)
theorem Inv.yq {b:List (Addr×Obj)}(I:Inv X b0 σ H s)(h:∀p∈b,s.heap.get? p.1=some p.2/\H p.1=none/\p.1≠X.env.locals/\p.1 ∉ X.fs /\ ∀v,p.2.data ≠ .cell v):Inv X b σ H s :=
 ⟨I.ok,I.os,I.bare,I.base,I.loc,I.cell,I.free,I.gz,λp a=>(aao.mp a).elim (λz=>I.pin p (aew _ z)) (h p),I.aU,I.len⟩
theorem vh {N:List Str}(h:N.Nodup){i j:Nat}{x:Str}(a:N[i]? = some x)(b:N[j]? = some x):i=j:=by obtain⟨f,c⟩:=aab.mp a;obtain⟨e,d⟩:=aab.mp b;exact(afF h).mp (c.trans d.symm)
theorem sZ {M:Model}{A:aaL}{E:Value->aac->Prop}{i:Nat}{x:Str}{v:V}{u:Value}{Q:Unit->aac->Prop}(I:Inv X b0 σ H s)(J:X.N.Nodup)(C:X.N[i]? = some x)(B:Loc X.env.scope x)(r:RelV v u)
   (h:∀s',Inv X b0 (σ.set i (some v)) H s'->(∃a,acN a s.heap s'.heap/\(a=X.env.locals\/X.env.cells.lookup x=some a))->Q () s') (K:X.fn x=true\/X.env.scope.names.lookup x=some .local):wpAny M A (storeName X.env x u) Q E s:=by
 obtain⟨m,hn,hl⟩:=id I.loc;have UY:(X.env.scope.kind == .class||(X.env.scope.kind == .module&&X.env.locals != X.env.globals))=false:=by rw[I.ok.kind];rfl
 have ab:i < σ.length:=by rw[I.len];exact(aab.mp C).1
 have sY:=I.sY;have tracked:∀{a:Addr} {h':Heap},(∃o,s.heap.get? a=some o/\H a=none)->acN a s.heap h'->d7 X.prog X.w H h':=fun {a h'} ha f b ob e=>by
   obtain⟨_,_,qv⟩:=ha;refine(I.aU b ob e).cu (λc w' hc q=>(f.2 c ?_).trans q) (λ_ q=>q) (λ_ _ q=>q) λ_ _ q=>q;rintro rfl;rcases hc with rfl|hc
   . rw[qv]at e;cases e
   . rw[qv]at hc;cases hc
 rcases B with hk|hk
 . refine wpAny_storeName_local hk hn (λh' Yv f=>?_) UY
   obtain⟨oL,_,_,By,_⟩:=id hn;refine h _ ⟨I.ok,I.os,I.bare,⟨λb o e n hb B=>?_,λb o e n hb B=>?_,I.base.free,λb o e B=>?_,I.base.k5,I.base.jP,I.base.jQ⟩,⟨_,Yv,λj y v' l e2 e3=>?_⟩,λy c e=>?_,I.free,I.gz,λp hp=>?_,tracked ⟨oL,By,I.free⟩ f,by simpa using I.len⟩ ⟨_,f,.inl rfl⟩
   . exact(f.2 b (aaH (aaM (aas e) I.ok.above))).trans (I.base.keep b o e n hb B)
   . obtain⟨sl,l⟩:=I.base.slot b o e n hb B
     exact⟨sl,(f.2 b (aaH (aaM (aas e) I.ok.above))).trans l⟩
   . obtain⟨o',l⟩:=I.base.there b o e B
     exact⟨o',(f.2 b (aaH (aaM (aas e) I.ok.above))).trans l⟩
   . by_cases hj:j=i
     . subst hj
       rw[C]at l;cases l;rw[aav ab]at e2;cases e2;exact⟨u,r,.inl ⟨hk,by simp⟩⟩
     . rw[aam (aaN hj)]at e2
       obtain⟨u',r',q⟩:=hl j y v' l e2 e3;refine⟨u',r',?_⟩;rcases q with⟨k,e⟩|⟨k,c,e,z⟩
       . refine .inl ⟨k,?_⟩
         have:y≠x:=λe=>hj (vh J l (e ▸ C));simp[this,e]
       . exact .inr ⟨k,c,e,z.sameBut f (sY y c e)⟩
   . obtain⟨w',z⟩:=I.cell y c e
     exact⟨w',z.sameBut f (sY y c e)⟩
   . obtain⟨e,n,ne,nf,d⟩:=I.pin p hp
     exact⟨(f.2 p.1 ne).trans e,n,ne,nf,d⟩
 . have pb:X.fn x=true:=by
     rcases K with z|z
     . exact z
     . rw[z]at hk;cases hk
   obtain⟨c,hc⟩:=I.ok.has x (.inl hk);obtain⟨w',z⟩:=I.cell x c hc;refine wpAny_storeName_cell I.ok.kind hk hc z (λh' GK f=>?_);obtain⟨oc,Sb,UZ⟩:=id z;refine h { s with heap:=h' } ⟨I.ok,I.os,I.bare,⟨λb o e n hb B=>?_,λb o e n hb B=>?_,I.base.free,λb o e B=>?_,I.base.k5,I.base.jP,I.base.jQ⟩,⟨m,hn.sameBut f (aaN (sY x c hc)),λj y v' l e2 e3=>?_⟩,λy c' e=>?_,I.free,I.gz,λp hp=>?_,tracked ⟨oc,Sb,I.gz x c hc⟩ f,by simpa using I.len⟩ ⟨c,f,.inr hc⟩
   . exact(f.2 b (aaH (aaM (aas e) (I.ok.yo x c pb hc)))).trans (I.base.keep b o e n hb B)
   . obtain⟨sl,l⟩:=I.base.slot b o e n hb B
     exact⟨sl,(f.2 b (aaH (aaM (aas e) (I.ok.yo x c pb hc)))).trans l⟩
   . obtain⟨o',l⟩:=I.base.there b o e B
     exact⟨o',(f.2 b (aaH (aaM (aas e) (I.ok.yo x c pb hc)))).trans l⟩
   . by_cases hj:j=i
     . subst hj
       rw[C]at l;cases l;rw[aav ab]at e2;cases e2;exact⟨u,r,.inr ⟨.inl hk,c,hc,GK⟩⟩
     . rw[aam (aaN hj)]at e2
       obtain⟨u',r',q⟩:=hl j y v' l e2 e3;refine⟨u',r',?_⟩;rcases q with q|⟨k,c',e,z'⟩
       . exact .inl q
       . refine .inr ⟨k,c',e,z'.sameBut f ?_⟩
         rintro rfl;exact hj (vh J l (I.ok.inj _ _ _ e hc ▸ C))
   . by_cases yr:c'=c
     . subst yr;exact⟨_,GK⟩
     . obtain⟨w2,z2⟩:=I.cell y c' e
       exact⟨w2,z2.sameBut f yr⟩
   . obtain⟨e,n,ne,nf,d⟩:=I.pin p hp
     refine⟨(f.2 p.1 ?_).trans e,n,ne,nf,d⟩;intro q;rw[q,Sb]at e;have q':oc=p.2:=aa_ e;exact d w' (by rw[<- q'];exact UZ)
theorem jR {M:Model}{A:aaL}{E:Value->aac->Prop}{i:Nat}{x:Str}{v:V}{u:Value}{Q:Unit->aac->Prop}(I:Inv X b0 σ H s)(e:X.N.Nodup)(b:X.N[i]? = some x)(d:Loc X.env.scope x)(r:RelV v u)
  (h:∀s',Inv X b0 (σ.set i (some v)) H s'->Q () s') (c:X.fn x=true\/X.env.scope.names.lookup x=some .local):wpAny M A (storeName X.env x u) Q E s :=
 sZ I e b d r (λs' a _=>h s' a) c
theorem Inv.Qh {s':aac}{ch:List Addr}(I:Inv X b0 σ H s)(f:s'.os=s.os)(u:Un (kD X.stack) ch H H' s.heap s'.heap)(j:d7 X.prog X.w H' s'.heap)(h:aer s'.gens)
  (i:∀b∈ch,(b∈X.ex\/X.s₀.heap.objs.size<=b)/\b≠X.env.locals/\(∀x c,X.env.cells.lookup x=some c->c≠b) /\ ∀p∈X.pn++b0,p.1≠b):Inv X b0 σ H' s':=by
 obtain⟨d,g',d',t',a⟩:=s';have e:a=s.os:=f;subst e;exact I.call (g':=g') (t':=t') (d':=d') u j h i
end
abbrev XK:=Value->Option Addr->Hp->Prop
abbrev St:=List (Option V)
abbrev VK:=V->Hp->Prop
abbrev TE:=St->Hp->VK->Prop
abbrev TT:=St->Hp->(Bool->Hp->Prop)->Prop
abbrev TA:=St->Hp->(List V->Hp->Prop)->Prop
structure Ends where
 nx:St->Hp->Prop
 rt:VK
 bk:St->Hp->Prop:=λ_ _=>False
 ct:St->Hp->Prop:=λ_ _=>False
abbrev TS:=Ends->St->Hp->Prop
def EP (X:Cx)(b0:List (Addr×Obj))(σ:St)(Q:VK)(u:Value)(a:aac):Prop:=∃v H',Inv X b0 σ H' a/\RelV v u/\Q v H'
def TP (X:Cx)(b0:List (Addr×Obj))(σ:St)(Q:Bool->Hp->Prop)(b:Bool)(a:aac):Prop:=∃H',Inv X b0 σ H' a/\Q b H'
def AP (X:Cx)(b0:List (Addr×Obj))(σ:St)(Q:List V->Hp->Prop)(us:List Value)(a:aac):Prop:=∃vs H',Inv X b0 σ H' a/\Vals vs us/\Q vs H'
def SP (X:Cx)(b0:List (Addr×Obj))(D:Ends)(f:Flow)(a:aac):Prop :=
 match f with
 |.next=>∃σ' H',Inv X b0 σ' H' a/\D.nx σ' H'|.brk=>∃σ' H',Inv X b0 σ' H' a/\D.bk σ' H'|.cont=>∃σ' H',Inv X b0 σ' H' a/\D.ct σ' H'|.ret u=>∃v σ' H',Inv X b0 σ' H' a/\RelV v u/\D.rt v H'
noncomputable def PE (X:Cx)(e:Expr)(t:TE):Prop :=
 ∀(b0:List (Addr×Obj)) (s:aac) (σ:St) (H:Hp) (Q:VK),Inv X b0 σ H s->t σ H Q->wpAny (model X.prog X.w) X.A (eval e X.env) (EP X b0 σ Q) X.xe s
noncomputable def PT (X:Cx)(e:Expr)(t:TT):Prop :=
 ∀(b0:List (Addr×Obj)) (s:aac) (σ:St) (H:Hp) (Q:Bool->Hp->Prop),Inv X b0 σ H s->t σ H Q->wpAny (model X.prog X.w) X.A (isTrue e X.env (eval e X.env)) (TP X b0 σ Q) X.xe s
noncomputable def PW (X:Cx)(e:Expr)(t:TT):Prop :=
 ∀(whole:Sem Value) (b0:List (Addr×Obj)) (s:aac) (σ:St) (H:Hp) (Q:Bool->Hp->Prop),Inv X b0 σ H s->t σ H Q->wpAny (model X.prog X.w) X.A (isTrue e X.env whole) (TP X b0 σ Q) X.xe s
theorem PW.pt {X:Cx}{e:Expr}{t:TT}(h:PW X e t):PT X e t:=h _
noncomputable def PA (X:Cx)(es:List Expr)(t:TA):Prop :=
 ∀(pos:Pos) (b0:List (Addr×Obj)) (s:aac) (σ:St) (H:Hp) (Q:List V->Hp->Prop),Inv X b0 σ H s->t σ H Q->wpAny (model X.prog X.w) X.A (spliced (acm pos (aay es X.env))) (AP X b0 σ Q) X.xe s
def PS (X:Cx)(a:Stmt)(t:TS):Prop :=
 ∀(b0:List (Addr×Obj)) (s:aac) (σ:St) (H:Hp) (D:Ends),Inv X b0 σ H s->t D σ H->wpAny (model X.prog X.w) X.A (exec a X.env) (SP X b0 D) X.xe s
def gW (X:Cx)(a:List Stmt)(t:TS):Prop :=
 ∀(b0:List (Addr×Obj)) (s:aac) (σ:St) (H:Hp) (D:Ends),Inv X b0 σ H s->t D σ H->wpAny (model X.prog X.w) X.A (execs a X.env) (SP X b0 D) X.xe s
theorem aY {b:Type}{t:Sem b}{Q c:b->aac->Prop}{M:Model}{A:aaL}{E:Value->aac->Prop}{s:aac}(h:wpAny M A t Q E s)(d:∀a s,Q a s->c a s):wpAny M A t c E s:=aex h d λ_ _ x=>x
section
variable {X:Cx}
noncomputable def U0 (i:Nat):TE:=λσ H Q=>∃v,σ[i]? = some (some v)/\Q v H
noncomputable def tC (v:V):TE:=λ_ H Q=>Q v H
theorem Lb {i:Nat}{x:Str}{d:Pos}(j:X.N[i]? = some x)(k:Bv X.env.scope x)(f:(x == ("__debug__":Str))=false)(n:(x == ("__classdict__":Str))=false):PE X (.Name x d) (U0 i):=by
 intro b0 s σ H Q I h;obtain⟨v,e,h⟩:=h;obtain⟨m,a,b⟩:=I.loc;obtain⟨u,r,l⟩:=b i x v j e k;have fin:EP X b0 σ Q u s:=⟨v,H,I,r,h⟩
 rcases l with⟨hk,hm⟩|⟨hk,c,hc,fU⟩
 . exact aey (aez I.ok.kind hk a hm fin) f
 . rcases hk with hk|hk
   . exact aey (aeN I.ok.kind hk hc fU fin) f
   . exact aey (agG I.ok.kind hk hc fU fin n) f
theorem Lc {i j a}:PE X (.Constant (.int i) j a) (tC (.int i)):=λ_ _ _ H _ I h=>wpAny_Constant_int ⟨.int i,H,I.tok _,⟨_,rfl⟩,h⟩
theorem Qi {b j a}:PE X (.Constant (.bool b) j a) (tC (.bl b)):=λ_ _ _ H _ I h=>Constant_bool ⟨.bl b,H,I,rfl,h⟩
theorem Ld {j a}:PE X (.Constant .none j a) (tC .ax):=λ_ _ _ H _ I h=>Constant_none ⟨.ax,H,I,rfl,h⟩
theorem Le {x j a}:PE X (.Constant (.str x) j a) (tC (.str x)):=λ_ _ _ H _ I h=>agR ⟨.str x,H,I.tok _,⟨_,rfl⟩,h⟩
def Gl (X:Cx)(x:Str):Prop:=X.env.kindOf x=some .globalImplicit
theorem oA {E:Value->aac->Prop}{b0:List (Addr×Obj)}{s:aac}{σ:St}{H:Hp}{x:Str}{u:Value}{a:Pos}{Q:Value->aac->Prop}(I:Inv X b0 σ H s)(b:Gl X x)(d:X.mg x=some u)(h:Q u s)
  (c:(x == ("__debug__":Str))=false):wpAny (model X.prog X.w) X.A (eval (.Name x a) X.env) Q E s :=
 afd I.ok.kind b (Calls.loadGlobal_global (by rw[I.ok.glob];exact I.mod.glob.keeps I.bk) d h) c
theorem gX {E:Value->aac->Prop}{b0:List (Addr×Obj)}{s:aac}{σ:St}{H:Hp}{x:Str}{u:Value}{d:Pos}{Q:Value->aac->Prop}(I:Inv X b0 σ H s)(e:Gl X x)(k:X.mg x=none)(i:acr x=some u)(h:Q u s)
  (f:x ≠ "__name__") (j:(x == ("__debug__":Str))=false):wpAny (model X.prog X.w) X.A (eval (.Name x d) X.env) Q E s:=by
 obtain⟨c,b,a⟩:=I.mod.blt;exact afd I.ok.kind e (Calls.loadGlobal_builtin (by rw[I.ok.glob];exact I.mod.glob.keeps I.bk) k (by rw[I.ok.blt];exact b.keeps I.bk) ((a x f).trans i) h) j
theorem rP {x:Str}{v:V}{u:Value}{a:Pos}(b:Gl X x)(d:X.mg x=some u)(r:RelV v u)(c:(x == ("__debug__":Str))=false):PE X (.Name x a) (tC v):=
 λ_ _ _ H _ I h=>oA I b d ⟨v,H,I,r,h⟩ c
theorem IE {x:Str}{v:V}{u:Value}{a:Pos}(b:Gl X x)(f:X.mg x=none)(d:acr x=some u)(r:RelV v u)(c:x ≠ "__name__")(e:(x == ("__debug__":Str))=false):PE X (.Name x a) (tC v):=
 λ_ _ _ H _ I h=>gX I b f d ⟨v,H,I,r,h⟩ c e
variable {a b:Expr}{ta tb:TE}{pos:Pos}
noncomputable def tB (t:TE):TT:=λσ H Q=>t σ H λx H1=>∃c,x = .bl c/\Q c H1
variable {tA GL:TT}{rest:List Expr}
noncomputable def U1 (t u:TT):TT:=λσ H Q=>t σ H λc H1=>if c=true then u σ H1 Q else Q false H1
noncomputable def Yw (t u:TT):TT:=λσ H Q=>t σ H λc H1=>if c=true then Q true H1 else u σ H1 Q
noncomputable def U2 (t:TT):TT:=λσ H Q=>t σ H λc H1=>Q (!c) H1
theorem IF (d:PT X a tA):PW X (.BoolOp .And [a] pos) tA:=by
 intro b b0 s σ H Q I h;refine isTrue_and (aY (d b0 s σ H Q I h) λc s1 e=>?_);cases c with
 |true=>exact isTrue_and_nil e|false=>exact e
theorem Lf (d:PT X a tA):PW X (.BoolOp .Or [a] pos) tA:=by
 intro b b0 s σ H Q I h;refine isTrue_or (aY (d b0 s σ H Q I h) λc s1 e=>?_);cases c with
 |false=>exact isTrue_or_nil e|true=>exact e
theorem Lg (j:PT X a tA)(i:PW X (.BoolOp .And (b::rest) pos) GL):PW X (.BoolOp .And (a::b::rest) pos) (U1 tA GL):=by
 intro f b0 s σ H Q I h;refine isTrue_and (aY (j b0 s σ H _ I h) λc s1 ⟨H1,d,e⟩=>?_);cases c with
 |true=>exact i f b0 s1 σ H1 Q d e|false=>exact⟨H1,d,e⟩
theorem Qj (j:PT X a tA)(i:PW X (.BoolOp .Or (b::rest) pos) GL):PW X (.BoolOp .Or (a::b::rest) pos) (Yw tA GL):=by
 intro f b0 s σ H Q I h;refine isTrue_or (aY (j b0 s σ H _ I h) λc s1 ⟨H1,d,e⟩=>?_);cases c with
 |true=>exact⟨H1,d,e⟩|false=>exact i f b0 s1 σ H1 Q d e
theorem Lh (d:PT X a tA):PT X (.UnaryOp .Not a pos) (U2 tA):=by intro b0 s σ H Q I h;exact isTrue_not (d b0 s σ H (λc H1=>Q (!c) H1) I h)
noncomputable def Qk (ta tb:TE):TE:=λσ H Q=>ta σ H λx H1=>∃c,x = .bl c/\if c=true then tb σ H1 Q else Q (.bl false) H1
noncomputable def U3 (ta tb:TE):TE:=λσ H Q=>ta σ H λx H1=>∃c,x = .bl c/\if c=true then Q (.bl true) H1 else tb σ H1 Q
theorem Li {op}{t:TE}(h:PE X a t):PE X (.BoolOp op [a] pos) t:=λb0 s σ H Q I hw=>BoolOp_one (h b0 s σ H Q I hw)
theorem Lj (j:PE X a ta)(i:PE X (.BoolOp .And (b::rest) pos) tb):PE X (.BoolOp .And (a::b::rest) pos) (Qk ta tb):=by
 intro b0 s σ H Q I h;refine BoolOp_and (aY (j b0 s σ H _ I h) λv s1 ⟨x,H1,e,f,d⟩=>?_);obtain⟨c,rfl,d⟩:=d;cases f;refine acG ?_;cases c with
 |true=>exact i b0 s1 σ H1 Q e d|false=>exact⟨.bl false,H1,e,rfl,d⟩
theorem Ql (j:PE X a ta)(i:PE X (.BoolOp .Or (b::rest) pos) tb):PE X (.BoolOp .Or (a::b::rest) pos) (U3 ta tb):=by
 intro b0 s σ H Q I h;refine BoolOp_or (aY (j b0 s σ H _ I h) λv s1 ⟨x,H1,e,f,d⟩=>?_);obtain⟨c,rfl,d⟩:=d;cases f;refine acG ?_;cases c with
 |false=>exact i b0 s1 σ H1 Q e d|true=>exact⟨.bl true,H1,e,rfl,d⟩
noncomputable def Yx (t:TT)(ta tb:TE):TE:=λσ H Q=>t σ H λc H1=>if c=true then ta σ H1 Q else tb σ H1 Q
theorem EB {c:Expr}(j:PT X c tA)(k:PE X a ta)(i:PE X b tb):PE X (.IfExp c a b pos) (Yx tA ta tb):=by
 intro b0 s σ H Q I h;refine wpAny_IfExp (aY (j b0 s σ H _ I h) λd s1 ⟨H1,e,f⟩=>?_);cases d with
 |true=>exact k b0 s1 σ H1 Q e f|false=>exact i b0 s1 σ H1 Q e f
end
def cS (K:aat)(H:Hp)(a:Addr)(xs:List V):Prop :=
 Rd H a (.lst xs) \/
  ∃(o:Obj) (au:Array Value) (n:Nat),K.lookup a=some o/\o.cls = .type "list" /\ o.dict=none/\o.data = .seq au n/\au.size<=aax/\Vals xs au.toList
def eS (K:aat)(H:Hp)(a:Addr)(xs:List V):Prop :=
 Rd H a (.tup xs) \/
  ∃(o:Obj) (au:Array Value) (n:Nat),K.lookup a=some o/\o.cls = .type "tuple" /\ o.dict=none/\o.data = .seq au n/\au.size<=aax/\Vals xs au.toList
noncomputable def U4:Value->Option V
 |.none=>some .ax|.bool b=>some (.bl b)|.int i _=>some (.int i)|.str x _=>some (.str x)|.bytes b _=>some (.Bs b)|.float b _=>some (.gS b)|.ref a=>some (.ref a)|.type n=>some (.ty n)|_=>none
theorem RelV.abs {x:V}{u:Value}(r:RelV x u):U4 u=some x:=by
 cases x with
 |ax=>cases r;rfl|bl _=>cases r;rfl|int _=>obtain⟨t,rfl⟩:=r;rfl
 |str _=>obtain⟨t,rfl⟩:=r;rfl
 |Bs _=>obtain⟨t,rfl⟩:=r;rfl
 |gS _=>obtain⟨t,rfl⟩:=r;rfl
 |ref _=>cases r;rfl|ty _=>cases r;rfl
theorem RelV.inj {x y:V}{u:Value}(r:RelV x u)(q:RelV y u):x=y:=aa_ (r.abs.symm.trans q.abs)
theorem Vals.inj:∀{xs ys:List V} {us:List Value},Vals xs us->Vals ys us->xs=ys
 |_,_,_,.nil,.nil=>rfl|_,_,_,.cons r t,.cons r' t'=>by rw[r.inj r',Vals.inj t t']
section
variable {X:Cx}{b0:List (Addr×Obj)}{σ:St}{H:Hp}{s:aac}{a:Addr}{xs ys:List V}
theorem cS.of {K:aat}(h:H a=some (.lst xs)):cS K H a xs:=.inl (.inl h)
theorem Inv.list (I:Inv X b0 σ H s)(h:cS X.K H a xs):∃au:List Value,Vals xs au/\PlainL s.heap a au.toArray/\xs.length<=aax:=by
 rcases h with h|⟨o,au,n,hk,hc,hd,hs,hz,r⟩
 . obtain⟨z,au,n,r,e⟩:=h.ok I.aU
   exact⟨au,r,⟨_,n,e,rfl,rfl,rfl⟩,z⟩
 . refine⟨au.toList,r,⟨o,n,I.gq a o hk,hc,hd,by simpa using hs⟩,?_⟩
   have e:=r.length;simp only[adQ]at e;omega
theorem Inv.Ll (I:Inv X b0 σ H s)(h:eS X.K H a xs):∃au:List Value,Vals xs au/\fJ s.heap a au.toArray/\xs.length<=aax:=by
 rcases h with h|⟨o,au,n,hk,hc,hd,hs,hz,r⟩
 . obtain⟨z,au,r,p⟩:=h.ok I.aU
   exact⟨au,r,p,z⟩
 . refine⟨au.toList,r,⟨o,I.gq a o hk,hc,⟨n,by simpa using hs⟩,hd⟩,?_⟩
   have e:=r.length;simp only[adQ]at e;omega
theorem Inv.tuple (I:Inv X b0 σ H s)(h:eS X.K H a xs):∃au:List Value,Vals xs au/\IsTup s.heap a au.toArray/\xs.length<=aax :=
 let⟨au,r,p,z⟩:=I.Ll h
 ⟨au,r,p.t,z⟩
theorem Inv.lZ (I:Inv X b0 σ H s)(h:cS X.K H a xs)(h':cS X.K H a ys):xs=ys:=by
 obtain⟨i,r,⟨o,n,e,_,_,d⟩,_⟩:=I.list h;obtain⟨its',f,⟨k,j,c,_,_,b⟩,_⟩:=I.list h';rw[e]at c;cases c;rw[d]at b;injection b with d1 _
 have:i=its':=by simpa using congrArg Array.toList d1
 subst this;exact r.inj f
theorem Inv.nt (I:Inv X b0 σ H s)(h:eS X.K H a xs)(h':eS X.K H a ys):xs=ys:=by
 obtain⟨i,r,⟨o,e,_,n,d⟩,_⟩:=I.tuple h;obtain⟨its',f,⟨k,c,_,j,b⟩,_⟩:=I.tuple h';rw[e]at c;cases c;rw[d]at b;injection b with d1 _
 have:i=its':=by simpa using congrArg Array.toList d1
 subst this;exact r.inj f
end
noncomputable abbrev Cx.k6 (X:Cx)(E:Value->aac->Prop):Cx:={ X with xe:=E }
abbrev Cx.vi (X:Cx):Cx:=X.k6 λ_ _=>False
theorem Cx.Ok.k6 {X:Cx}(ok:X.Ok)(E:Value->aac->Prop):(X.k6 E).Ok :=
 ⟨ok.mod,ok.kind,ok.glob,ok.blt,ok.above,ok.inj,ok.has,ok.yo,ok.hd,ok.frames,ok.ve,ok.K_,ok.bs,ok.nj,ok.pP,ok.vf,ok.gU,ok.qt⟩
theorem Cx.Ok.iW {X:Cx}{E:Value->aac->Prop}(ok:(X.k6 E).Ok):X.Ok :=
 ⟨ok.mod,ok.kind,ok.glob,ok.blt,ok.above,ok.inj,ok.has,ok.yo,ok.hd,ok.frames,ok.ve,ok.K_,ok.bs,ok.nj,ok.pP,ok.vf,ok.gU,ok.qt⟩
section
variable {X:Cx}{b0:List (Addr×Obj)}{σ:St}{H:Hp}{s:aac}{E:Value->aac->Prop}
theorem Inv.k6 (I:Inv X b0 σ H s)(E:Value->aac->Prop):Inv (X.k6 E) b0 σ H s:=⟨I.ok.k6 E,I.os,I.bare,I.base,I.loc,I.cell,I.free,I.gz,I.pin,I.aU,I.len⟩
theorem Inv.iW (I:Inv (X.k6 E) b0 σ H s):Inv X b0 σ H s:=⟨I.ok.iW,I.os,I.bare,I.base,I.loc,I.cell,I.free,I.gz,I.pin,I.aU,I.len⟩
theorem SP.iW {D:Ends}{f:Flow}{s':aac}(h:SP (X.k6 E) b0 D f s'):SP X b0 D f s':=by
 cases f with
 |next=>obtain⟨b,a,I,q⟩:=h;exact⟨b,a,I.iW,q⟩
 |brk=>obtain⟨b,a,I,q⟩:=h;exact⟨b,a,I.iW,q⟩
 |cont=>obtain⟨b,a,I,q⟩:=h;exact⟨b,a,I.iW,q⟩
 |ret u=>obtain⟨v,b,a,I,r,q⟩:=h;exact⟨v,b,a,I.iW,r,q⟩
theorem gW.vi {a:List Stmt}{t:TS}(h:gW X.vi a t):gW X a t:=λb0 s σ H D I hw =>
 aex (h b0 s σ H D (I.k6 _) hw) (λ_ _ q=>q.iW) λ_ _ z=>ab6 z
end
section
variable {X:Cx}{st:Stmt}{rest:List Stmt}{t u:TS}{e:Expr}{te:TE}{pos:Pos}
noncomputable def zW:TS:=λD σ H=>D.nx σ H
noncomputable def U5 (t u:TS):TS:=λD σ H=>t { D with nx:=u D } σ H
theorem IG:gW X [] zW:=λ_ _ σ H _ I h=>aeA ⟨σ,H,I,h⟩
theorem EC (i:PS X st t)(d:gW X rest u):gW X (st::rest) (U5 t u):=by
 intro b0 s σ H D I h;refine wpAny_execs_cons (aY (i b0 s σ H { D with nx:=u D } I h) λf s1 q=>?_);cases f with
 |next =>
  obtain⟨b,a,c,q⟩:=q;exact d b0 s1 b a D c q
 |ret v=>exact q|brk=>exact q|cont=>exact q
theorem IH (a:PS X st t):gW X [st] t:=by
 intro b0 s σ H D I h;refine wpAny_execs_cons (aY (a b0 s σ H D I h) λf s1 q=>?_);cases f with
 |next=>exact aeA q|ret v=>exact q|brk=>exact q|cont=>exact q
theorem II:PS X (.Pass pos) zW:=λ_ _ σ H _ I h=>wpAny_Pass ⟨σ,H,I,h⟩
theorem Inv.quiet {b0:List (Addr×Obj)}{σ:St}{H:Hp}{s:aac}(I:Inv X b0 σ H s):interactive X.env=false:=by simp[interactive,I.ok.kind]
theorem Lm {x j pos a}:PS X (.Expr (.Constant (.str x) j pos) a) zW:=λ_ s σ H _ I h=>wpAny_Expr (agR (show SP X _ _ .next { s with toks:=s.toks+1 } from⟨σ,H,I.tok _,h⟩)) I.quiet
noncomputable def Qm (te:TE):TS:=λD σ H=>te σ H λ_ H1=>D.nx σ H1
theorem IJ (d:PE X e te)(f:adz e none pos.line X.env=pure false):PS X (.Expr e pos) (Qm te):=by intro b0 s σ H D I h;exact wpAny_Expr_any (aY (d b0 s σ H _ I h) λv s1 ⟨x,H1,a,c,b⟩=>⟨σ,H1,a,b⟩) I.quiet f
noncomputable def U6 (te:TE):TS:=λD σ H=>te σ H D.rt
theorem Ln (d:PE X e te):PS X (.Return (some e) pos) (U6 te):=by intro b0 s σ H D I h;exact wpAny_Return_some (aY (d b0 s σ H _ I h) λv s1 ⟨x,H1,a,b,c⟩=>⟨x,σ,H1,a,b,c⟩)
noncomputable def U7 (c:TT)(t u:TS):TS:=λD σ H=>c σ H λb H1=>if b=true then t D σ H1 else u D σ H1
theorem Qn {c:Expr}{a b:List Stmt}{i:TT}(k:PT X c i)(j:gW X a t)(l:gW X b u):PS X (.If c a b pos) (U7 i t u):=by
 intro b0 s σ H D I h;refine wpAny_If (aY (k b0 s σ H _ I h) λd s1 ⟨H1,e,f⟩=>?_);cases d with
 |true=>exact j b0 s1 σ H1 D e f|false=>exact l b0 s1 σ H1 D e f
end
abbrev TG:=V->St->Hp->(St->Hp->Prop)->Prop
abbrev s_:=List V->St->Hp->(St->Hp->Prop)->Prop
def PG (X:Cx)(b:Expr)(t:TG):Prop :=
 ∀(b0:List (Addr×Obj)) (s:aac) (σ:St) (H:Hp) (v:V) (u:Value) (Q:St->Hp->Prop),Inv X b0 σ H s->RelV v u->t v σ H Q ->
  wpAny (model X.prog X.w) X.A (adG b X.env u) (λ_ a=>∃σ' H',Inv X b0 σ' H' a/\Q σ' H') X.xe s
def pd (X:Cx)(b:List Expr)(t:s_):Prop :=
 ∀(b0:List (Addr×Obj)) (s:aac) (σ:St) (H:Hp) (vs:List V) (us:List Value) (Q:St->Hp->Prop),Inv X b0 σ H s->Vals vs us->t vs σ H Q ->
  wpAny (model X.prog X.w) X.A (agC ((ab7 b X.env).map (·.2)) us) (λ_ a=>∃σ' H',Inv X b0 σ' H' a/\Q σ' H') X.xe s
abbrev ED:=V->V->V->Hp->(Hp->Prop)->Prop
def EE (X:Cx)(t:ED):Prop :=
 ∀(b0:List (Addr×Obj)) (s:aac) (σ:St) (H:Hp) (o i v:V) (ov iv u:Value) (Q:Hp->Prop),Inv X b0 σ H s->RelV o ov->RelV i iv->RelV v u->t o i v H Q ->
  wpAny (model X.prog X.w) X.A (ag7 ov iv u) (λ_ a=>∃H',Inv X b0 σ H' a/\Q H') X.xe s
abbrev GN:=V->V->Hp->VK->Prop
def GO (X:Cx)(op:adT)(t:GN):Prop :=
 ∀(b0:List (Addr×Obj)) (s:aac) (σ:St) (H:Hp) (x y:V) (v u:Value) (Q:VK),Inv X b0 σ H s->RelV x v->RelV y u->t x y H Q ->
  wpAny (model X.prog X.w) X.A (inplaceOp op v u) (EP X b0 σ Q) X.xe s
section
variable {X:Cx}{pos:Pos}
noncomputable def GP (i:Nat):TG:=λv σ H Q=>Q (σ.set i (some v)) H
theorem IK {i:Nat}{x:Str}(f:X.N.Nodup)(c:X.N[i]? = some x)(e:Loc X.env.scope x)(d:X.fn x=true\/X.env.scope.names.lookup x=some .local):PG X (.Name x pos) (GP i):=by intro b0 s σ H v u Q I r h;exact wpAny_assign_Name (jR I f c e r (λb a=>⟨_,H,a,h⟩) d)
noncomputable def U8:s_:=λa σ H Q=>a = []/\Q σ H
noncomputable def Qo (t:TG)(u:s_):s_:=λc σ H Q=>∃v r,c=v::r/\t v σ H λb a=>u r b a Q
theorem IL:pd X [] U8:=by intro b0 s σ H a us Q I r h;obtain⟨e,h⟩:=h;subst e;cases r;exact assignInOrder_nil ⟨σ,H,I,h⟩
theorem EF {e:Expr}{es:List Expr}{t:TG}{u:s_}(j:PG X e t)(k:pd X es u)
  (l:(ab7 (e::es) X.env).map (·.2)=adG e X.env::(ab7 es X.env).map (·.2)):pd X (e::es) (Qo t u):=by
 intro b0 s σ H f us Q I r h;obtain⟨v,i,b,h⟩:=h;subst b;cases r with
 |cons r rr =>
  rw[l];refine ae2 (aY (j b0 s σ H _ _ _ I r h) λ_ s1 ⟨a,H1,d,c⟩=>?_);exact k b0 s1 a H1 _ _ Q d rr c
def U9 (K:aat)(n:Nat)(t:s_):TG:=λv σ H Q=>∃a xs,v = .ref a/\eS K H a xs/\xs.length=n/\t xs σ H Q
theorem Lp {es:List Expr}{k:Nat}{t:s_}{n:Nat}(z:X.calm=true)(h:pd X es t)
  (B:(ab7 es X.env).length=n) (A:(ab7 es X.env).findIdx? (·.1)=none):PG X (.Tuple es k pos) (U9 X.K n t):=by
 intro b0 s σ H v u Q I r hw;obtain⟨a,xs,d,j,i,hw⟩:=hw;subst d;cases r;obtain⟨x,c,f,y⟩:=I.tuple j;refine assign_Tuple_tuple (I.ok.hd z) f (by simp[B,<- i,c.length]) A λl q=>?_;have p:Inv X b0 σ H { s with heap:=l }:=I.kept (t':=s.toks) λb o e=>q b o (aaH (aas e)) e;exact h b0 _ σ H xs _ Q p (by simpa using c) hw
noncomputable def U_ (d c:TE)(t:ED):TG:=λv σ H Q=>d σ H λo H1=>c σ H1 λi b=>t o i v b λa=>Q σ a
theorem Lq {o i:Expr}{p q:TE}{t:ED}(A:PE X o p)(z:PE X i q)(C:EE X t)
  (B:∀v,adG (.Subscript o i pos) X.env v=(do
   let ov <- ac1 [v] (eval o X.env);let iv <- ac1 [v,ov] (eval i X.env)
   age pos
   ac1 [v,ov,iv] (ag7 ov iv v)
   release [v,ov,iv] [])):PG X (.Subscript o i pos) (U_ p q t):=by
 intro b0 s σ H v u Q I r h;rw[B];refine aaa (aaW (aY (A b0 s σ H _ I h) λov s1 ⟨x,H1,l,a,j⟩=>?_));refine aaa (aaW (aY (z b0 s1 σ H1 _ l j) λiv s2 ⟨y,n,b,d,k⟩=>?_));refine aaa (aei (aaa (aaW (aY (C b0 s2 σ n x y v ov iv u _ b a d r k) λ_ s3 ⟨e,f,c⟩=>?_))));exact wpAny_release ⟨σ,e,f,c⟩
noncomputable def EG (a:TE)(g:TG):TS:=λD σ H=>a σ H λx H1=>g x σ H1 D.nx
theorem Lr {tg e:Expr}{d:TE}{g:TG}(i:PE X e d)(j:PG X tg g)(k:adH [tg] e pos.line X.env=pure false)(hw:adf [tg] e X.env=pure none)
  (f:(ab7 [tg] X.env).map (·.2)= [adG tg X.env]):PS X (.Assign [tg] e pos) (EG d g):=by
 intro b0 s σ H D I h;refine wpAny_Assign_stores (aY (i b0 s σ H _ I h) λv s1 ⟨x,H1,a,b,c⟩=>?_) k hw;rw[f];exact aY (j b0 s1 σ H1 x v _ a b c) λ_ s2 q=>q
theorem Ls {i:Nat}{x:Str}{e:Expr}{j:TE}{f:Pos}(q:X.N.Nodup)(k:X.N[i]? = some x)(p:Loc X.env.scope x)(l:PE X e j)(o:adz e (some (.Name x f)) pos.line X.env=pure false)(n:X.fn x=true\/X.env.scope.names.lookup x=some .local):
  PS X (.Assign [.Name x f] e pos) (EG j (GP i)):=by
 intro b0 s σ H D I h;refine wpAny_Assign_Name (aY (l b0 s σ H _ I h) λv s1 ⟨y,H1,a,b,d⟩=>?_) o;exact jR a q k p b (λs2 c=>⟨_,H1,c,d⟩) n
noncomputable def Va (i j:Nat)(b:TA):TS:=λD σ H=>b σ H λa H1=>∃v w,a = [v,w]/\D.nx ((σ.set i (some v)).set j (some w)) H1
theorem Lu {i j:Nat}{x y:Str}{a b:Expr}{K:TA}{px B pt:Pos}{kt k2 pt2}(M:X.calm=true)(J:X.N.Nodup)(L:X.N[i]? = some x)(O:X.N[j]? = some y)(P:i≠j)
  (C:X.env.scope.names.lookup x=some .local) (E:X.env.scope.names.lookup y=some .local) (Q:PA X [a,b] K)
  (hw:adf [.Tuple [.Name x px,.Name y B] kt pt] (.Tuple [a,b] k2 pt2) X.env=pure (some [x,y]))
  (R:adH [.Tuple [.Name x px,.Name y B] kt pt] (.Tuple [a,b] k2 pt2) pos.line X.env=pure false):
  PS X (.Assign [.Tuple [.Name x px,.Name y B] kt pt] (.Tuple [a,b] k2 pt2) pos) (Va i j K):=by
 intro b0 s σ H D I h;rw[exec_Assign_arm];refine aaa (aei ?_);rw[R];refine aaa (aad ?_);rw[if_neg (by decide)];refine aaa (Tuple_ (aY (Q _ b0 s σ H _ I h) λus s1 ⟨vs,H1,I1,l,d⟩=>?_));obtain⟨v,w,k,d⟩:=d;subst k;obtain⟨c,u2,rfl,rv,z⟩:∃c u2,us = [c,u2]/\RelV v c/\RelV w u2:=by
  cases l with
  |cons p q =>
   cases q with
   |cons p' q' =>
    cases q';exact⟨_,_,rfl,p,p'⟩
 refine abH ?_ (by show 2<=aax;decide);have n:Inv X b0 σ H1 { s1 with heap:=s1.heap.push { cls:=.type "tuple",data:=.seq [c,u2].toArray } }:=I1.kept (t':=s1.toks) λb o e=>aaf _ e;rw[hw];refine aaa (aad ?_);show wpAny (model X.prog X.w) X.A (do rule "assign.swapped-stores";let items <- unpackItems (.ref s1.heap.objs.size) 2 none;agC [λv=>bindName X.env y v,λv=>bindName X.env x v] items.reverse;pure Flow.next) _ _ _;refine aaa (ab8 (aaa (unpackItems_tuple (items:=#[c,u2]) (I.ok.hd M) (IsTup.new s1.heap _) λh' qw=>?_)));have u:=n.kept (h':=h') (t':=s1.toks) λb o e=>qw b o (aaH (aas e)) e;show wpAny _ _ (agC [λv=>bindName X.env y v,λv=>bindName X.env x v] [u2,c] >>= λ_=>pure Flow.next) _ _ _;refine aaa (ae2 (wpAny_bindName (jR u J O (.inl E) z (λs2 r=>?_) (.inr E))));refine ae2 (wpAny_bindName (jR r J L (.inl C) rv (λs3 f=>assignInOrder_nil (aad ?_)) (.inr C)));rw[List.set_comm _ _ (aaN P)]at f;exact⟨_,H1,f,d⟩
noncomputable def Vb (i:Nat)(c:TE)(b:GN):TS:=λD σ H=>∃x,σ[i]? = some (some x)/\c σ H λy H1=>b x y H1 λz a=>D.nx (σ.set i (some z)) a
theorem Lv {i:Nat}{x:Str}{e:Expr}{K:TE}{op:adT}{J:GN}{B:Pos}(P:X.N.Nodup)(E:X.N[i]? = some x)(C:Loc X.env.scope x)(L:PE X e K)(M:GO X op J)(O:X.fn x=true\/X.env.scope.names.lookup x=some .local):
   PS X (.AugAssign (.Name x B) op e pos) (Vb i K J):=by
 intro b0 s σ H D I h;obtain⟨v,a,h⟩:=h;obtain⟨m,p,q⟩:=I.loc;have f:Bv X.env.scope x:=by rcases C with k|k;exact .inl k;exact .inr (.inl k)
 obtain⟨u,r,l⟩:=q i x v E a f;refine wpAny_AugAssign_Name ?_;have go:wpAny (model X.prog X.w) X.A (eval e X.env) (λw n=>wpAny (model X.prog X.w) X.A (inplaceOp op u w) (λr j=>wpAny (model X.prog X.w) X.A (storeName X.env x r) (λ_=>SP X b0 D .next) X.xe j) X.xe n) X.xe s:=by refine aY (L b0 s σ H _ I h) λw s1 ⟨y,H1,I1,b,q1⟩=>?_;refine aY (M b0 s1 σ H1 v y u w _ I1 r b q1) λz s2 ⟨zv,H2,d,o,q2⟩=>?_;exact jR d P E C o (λs3 I3=>⟨_,H2,I3,q2⟩) O
 rcases l with⟨hk,hm⟩|⟨hk,c,hc,fU⟩
 . exact aez I.ok.kind hk p hm go
 . rcases hk with hk|hk
   . exact aeN I.ok.kind hk hc fU go
   . rcases C with k|k
     . have:X.env.scope.names.lookup x=some .free:=hk
       rw[k]at this;cases this
     . have:X.env.scope.names.lookup x=some .free:=hk
       rw[k]at this;cases this
noncomputable def Lw (f:Int->Int->Int):GN:=λx y H Q=>∃i j,x = .int i/\y = .int j/\Q (.int (f i j)) H
theorem Ly:GO X .Add (Lw λi j=>i+j):=by intro b0 s σ H x y v u Q I b d h;obtain⟨i,j,a,c,q⟩:=h;subst a;subst c;obtain⟨t,rfl⟩:=b;obtain⟨e,rfl⟩:=d;exact iadd_int ⟨.int _,H,I.tok _,⟨_,rfl⟩,q⟩
theorem Lz:GO X .Sub (Lw λi j=>i-j):=by intro b0 s σ H x y v u Q I b d h;obtain⟨i,j,a,c,q⟩:=h;subst a;subst c;obtain⟨t,rfl⟩:=b;obtain⟨e,rfl⟩:=d;exact isub_int ⟨.int _,H,I.tok _,⟨_,rfl⟩,q⟩
end
section
variable {X:Cx}{pos:Pos}
noncomputable def LA (c:TT)(tb:TS):TS:=λD σ H=>∃W:Nat->St->Hp->Prop,(∃m,W m σ H) /\ ∀m σ H,W m σ H ->
 c σ H λb H1=>if b=true then ∃N:St->Hp->Prop,(∀σ' H',N σ' H'->∃m',m' < m/\W m' σ' H')/\tb { D with nx:=N,ct:=N,bk:=D.nx } σ H1 else D.nx σ H1
theorem EH {c:Expr}{body:List Stmt}{B:TT}{tb:TS}(z:aes (model X.prog X.w) X.A X.env X.xe)(C:PT X c B)(E:gW X body tb):PS X (.While c body [] pos) (LA B tb):=by
 intro b0 s σ H D I h;obtain⟨W,⟨m0,x⟩,turn⟩:=h;refine wpAny_While (codeAny_whileLoop (λn u=>∃σ' H',Inv X b0 σ' H' u/\W n σ' H') ?_ m0 ⟨σ,H,I,x⟩);rintro n s1 ⟨e,H1,y,w1⟩;refine acP z (aY (C b0 s1 e H1 _ y (turn n e H1 w1)) λb s2 ⟨r,p,j⟩=>?_);cases b with
 |true =>
  obtain⟨N,q,j⟩:=j;rw[if_pos rfl];refine acP z (aY (E b0 s2 e r _ p j) λf s3 i=>?_);cases f with
  |next =>
   obtain⟨a,d,k,l⟩:=i;obtain⟨o,hm,w3⟩:=q a d l;exact⟨o,hm,a,d,k,w3⟩
  |cont =>
   obtain⟨a,d,k,l⟩:=i;obtain⟨o,hm,w3⟩:=q a d l;exact⟨o,hm,a,d,k,w3⟩
  |brk=>exact i|ret v=>exact i
 |false =>
  rw[if_neg abK];exact aeA ⟨e,r,p,j⟩
end
structure It where
 go:Nat->Hp->Prop
 yt:Nat->Hp->V->Hp->Prop
 stop:Nat->Hp->Prop
def fK (X:Cx)(b0:List (Addr×Obj))(H:Hp)(b:Addr):Prop :=
 H b=none/\b≠X.env.locals/\b ∉ X.fs/\(b∈X.ex\/X.s₀.heap.objs.size<=b)/\(∀x c,X.env.cells.lookup x=some c->c≠b) /\ ∀p∈X.pn++b0,p.1≠b
theorem Inv.nu {X:Cx}{b0:List (Addr×Obj)}{σ:St}{H H':Hp}{s:aac}{b:Addr}(I:Inv X b0 σ H s)(d:s.heap.objs.size<=b)(f:H' b=none):fK X b0 H' b:=by
 refine⟨f,aeB (aaM I.lt d),I.UX d,.inr (aa0 I.sz d),λx c e z=>?_,λp a z=>?_⟩
 . obtain⟨v,q⟩:=I.cell x c e
   exact absurd (aaM q.lt (by rw[z];exact d)) (abY _)
 . exact absurd (aaM (aas (I.pin p a).1) (by rw[z];exact d)) (abY _)
structure Turn (P:aaG)(w:World)(K:aat)(tg:Expr)(J:It)(fp:List Addr)(it:Addr)(tn:Nat->Heap->Prop):Prop where
 mem:it∈fp
 obj:∀i h,tn i h->∀b∈fp,∃o,h.get? b=some o /\ ∀v,o.data ≠ .cell v
 keep:∀i h h',tn i h->(∀b∈fp,∀o,h.get? b=some o->h'.get? b=some o)->tn i h'
 item:∀(X:Cx),X.prog=P->X.w=w->X.K=K->X.calm=true->∀(i:Nat) (b0:List (Addr×Obj)) (s:aac) (σ:St) (H:Hp) (E:Value->aac->Prop),Inv X b0 σ H s->(∀b∈fp,fK X b0 H b)->tn i s.heap->J.go i H ->
  wpAny (model P w) X.A (adq (.ref it)) (λr s1=>∃u,r=some u /\
   wpAny (model P w) X.A (afY tg (.ref it) u) (λ_ s2=>∃x H',Inv X b0 σ H' s2/\RelV x u/\J.yt i H x H'/\tn (i+1) s2.heap /\ ∀b∈fp,H' b=none) E s1) E s
 done:∀(X:Cx),X.prog=P->X.w=w->X.K=K->X.calm=true->∀(i:Nat) (b0:List (Addr×Obj)) (s:aac) (σ:St) (H:Hp) (E:Value->aac->Prop),Inv X b0 σ H s->(∀b∈fp,fK X b0 H b)->tn i s.heap->J.stop i H ->
  wpAny (model P w) X.A (adq (.ref it)) (λr s1=>r=none/\Inv X b0 σ H s1) E s
 self:∀(A:aaL) (i:Nat) (s:aac) (Q:Value->aac->Prop) (E:Value->aac->Prop),tn i s.heap->Q (.ref it) s->wpAny (model P w) A (agf (.ref it)) Q E s
abbrev TI:=St->Hp->(It->Hp->Prop)->Prop
def Sd (X:Cx)(b0:List (Addr×Obj))(σ:St)(tg:Expr)(R:It->Hp->Prop)(c:Value)(a:aac):Prop :=
 ∃(it:Addr) (fp:List Addr) (tn:Nat->Heap->Prop) (J:It) (H':Hp),c = .ref it/\Inv X b0 σ H' a/\Turn X.prog X.w X.K tg J fp it tn/\tn 0 a.heap/\(∀b∈fp,fK X b0 H' b)/\R J H'
def PI (X:Cx)(tg iter:Expr)(a:TI):Prop :=
 ∀(b0:List (Addr×Obj)) (s:aac) (σ:St) (H:Hp) (R:It->Hp->Prop),Inv X b0 σ H s->a σ H R ->
  wpAny (model X.prog X.w) X.A (eval iter X.env) (λv s1=>wpAny (model X.prog X.w) X.A (agf v) (Sd X b0 σ tg R) X.xe s1) X.xe s
theorem zX {M : Model} {A : aaL} {E : Value -> aac -> Prop} {s : aac} {tg : Expr} {b : Addr} {u : Value} {o : Obj} {n : String} {vs : Array Value} {Q : Unit -> aac -> Prop} (c : s.heap.get? b = some o) (d : o.cls = .type n) (e : o.data = .fields vs)
   (f : ["enumerate", "zip", "dict_itemiterator", "dict_reverseitemiterator", "odict_iterator", "itertools.zip_longest", "itertools.pairwise"].contains n = false) (a : Q () s): wpAny M A (afY tg (.ref b) u) Q E s := by
 unfold afY;cases tg <;> first
   |exact aad a
   | (cases u <;> first
       |exact aad a
       | (refine aaa (wpAny_load c ?_)
          rw[d, e];show wpAny M A (if (["enumerate", "zip", "dict_itemiterator", "dict_reverseitemiterator", "odict_iterator", "itertools.zip_longest", "itertools.pairwise"].contains n && vs[0]? == some (ac3 _))= true then _ else _) Q E s;rw[if_neg (by intro h; rw[f, aeQ]at h; cases h)];exact aad a))
noncomputable def GQ (K:aat)(a:Addr):It :=
 ⟨λi H=>∃xs x,cS K H a xs/\xs[i]? = some x,λi H x b=>b=H /\ ∀xs,cS K H a xs->xs[i]? = some x,λi H=>∃xs,cS K H a xs/\xs.length<=i⟩
noncomputable def LC (K:aat)(a:Addr):It :=
 ⟨λi H=>∃xs x,eS K H a xs/\xs[i]? = some x,λi H x b=>b=H /\ ∀xs,eS K H a xs->xs[i]? = some x,λi H=>∃xs,eS K H a xs/\xs.length<=i⟩
noncomputable def BA (b:Int)(n:Nat):It:=⟨λi _=>i<n,λi H x a=>a=H/\x = .int (b+i),λi _=>n<=i⟩
theorem BB {P:aaG}{w:World}{K:aat}{tg:Expr}(a it:Addr):Turn P w K tg (GQ K a) [it] it (λi h=>h.IsListIter it a i) where
 mem:=by simp
 obj:=λi h st b f=>by
  have e:b=it:=by simpa using f
  subst e;obtain⟨o,e,c,d⟩:=st;exact⟨o,e,λv z=>by rw[d]at z;cases z⟩
 keep:=λi h l st k=>st.at λo e=>k it (by simp) o e
 item:=by intro X n hw hK hc i b0 s σ H E I hf st y;subst n hw hK;obtain⟨xs,x,j,hx⟩:=y;obtain⟨au,rv,p,hz⟩:=I.list j;obtain⟨u,hu,ru⟩:=rv.get hx;obtain⟨f0,f1,f2,q,f4,r⟩:=hf it (by simp);refine af6 st p.isList (x:=u) (by simpa using hu) λl kE sb=>?_;have I1:Inv X b0 σ H { s with heap:=l }:=I.turned (t':=s.toks) (λb o f e=>(sb.2 b f).trans e) f0 f1 q f4 r;obtain⟨o,e,c,d⟩:=id kE;exact⟨u,rfl,zX (s:={ s with heap:=l }) e c d (by decide) ⟨x,H,I1,ru,⟨rfl,λys hy=>by rw[I.lZ hy j];exact hx⟩,kE,λb f=>(hf b f).1⟩⟩
 done:=by intro X n hw hK hc i b0 s σ H E I hf st y;subst n hw hK;obtain⟨xs,j,hx⟩:=y;obtain⟨au,rv,p,hz⟩:=I.list j;obtain⟨f0,f1,f2,q,f4,r⟩:=hf it (by simp);have hl:=rv.length;exact agg (I.ok.hd hc) st p.isList (by simp;omega) λl eb=>⟨rfl,I.turned (t':=s.toks) (λb o f e=>eb b o f e) f0 f1 q f4 r⟩
 self:=λ_ _ _ _ _ st h=>wpAny_pyIter_listiter st h
theorem zY {P:aaG}{w:World}{K:aat}{tg:Expr}(a it:Addr):Turn P w K tg (LC K a) [it] it (λi h=>h.IsTupleIter it a i) where
 mem:=by simp
 obj:=λi h st b f=>by
  have e:b=it:=by simpa using f
  subst e;obtain⟨o,e,c,d⟩:=st;exact⟨o,e,λv z=>by rw[d]at z;cases z⟩
 keep:=λi h l st k=>st.at λo e=>k it (by simp) o e
 item:=by intro X n hw hK hc i b0 s σ H E I hf st y;subst n hw hK;obtain⟨xs,x,j,hx⟩:=y;obtain⟨au,rv,p,hz⟩:=I.tuple j;obtain⟨u,hu,ru⟩:=rv.get hx;obtain⟨f0,f1,f2,q,f4,r⟩:=hf it (by simp);refine wpAny_pyNext_tuple_item st (show s.heap.IsTuple a au.toArray from p) (x:=u) (by simpa using hu) λl kE sb=>?_;have I1:Inv X b0 σ H { s with heap:=l }:=I.turned (t':=s.toks) (λb o f e=>(sb.2 b f).trans e) f0 f1 q f4 r;obtain⟨o,e,c,d⟩:=id kE;exact⟨u,rfl,zX (s:={ s with heap:=l }) e c d (by decide) ⟨x,H,I1,ru,⟨rfl,λys hy=>by rw[I.nt hy j];exact hx⟩,kE,λb f=>(hf b f).1⟩⟩
 done:=by intro X n hw hK hc i b0 s σ H E I hf st y;subst n hw hK;obtain⟨xs,j,hx⟩:=y;obtain⟨au,rv,p,hz⟩:=I.tuple j;obtain⟨f0,f1,f2,q,f4,r⟩:=hf it (by simp);have hl:=rv.length;exact wpAny_pyNext_tuple_end (I.ok.hd hc) st (show s.heap.IsTuple a au.toArray from p) (by simp;omega) λl eb=>⟨rfl,I.turned (t':=s.toks) (λb o f e=>eb b o f e) f0 f1 q f4 r⟩
 self:=λ_ _ _ _ _ st h=>wpAny_pyIter_tupleiter st h
theorem zZ {P:aaG}{w:World}{K:aat}{tg:Expr}(it:Addr)(A:Int)(n:Nat):Turn P w K tg (BA A n) [it] it (λi h=>IsRangeIter h it (A+(i:Nat)*1) ((n:Int)-(i:Nat)) 1) where
 mem:=by simp
 obj:=λi h st b a=>by
  have e:b=it:=by simpa using a
  subst e;exact⟨_,st,λv z=>by have z':Data.fields _=ae3 v:=z;cases z'⟩
 keep:=λi h c st k=>k it (by simp) _ st
 item:=by intro X d hw q f i b0 s σ H E I hf st p;subst d hw q;obtain⟨f0,f1,f2,j,f4,l⟩:=hf it (by simp);have W:=Walks.range (prog:=X.prog) (w:=X.w) (I.ok.hd f) it A 1 n;refine W.item i s _ _ p st λv c u y r kk=>?_;obtain⟨t,rfl⟩:=y;have I1:Inv X b0 σ H { s with heap:=c,toks:=u }:=I.turned (λb o a e=>kk b o (by simpa using a) e) f0 f1 j f4 l;refine⟨_,rfl,zX (s:={ s with heap:=c,toks:=u }) (n:="range_iterator") r rfl rfl (by decide) ⟨.int (A+i),H,I1,⟨t,?_⟩,⟨rfl,rfl⟩,r,λb a=>(hf b a).1⟩⟩;rw[Int.mul_one]
 done:=by intro X d hw q f i b0 s σ H E I hf st p;subst d hw q;obtain⟨f0,f1,f2,j,f4,l⟩:=hf it (by simp);exact wpAny_pyNext_range_end (I.ok.hd f) st (by have:n<=i:=p;omega) λc x=>⟨rfl,I.turned (t':=s.toks) (λb o a e=>x b o a e) f0 f1 j f4 l⟩
 self:=λ_ _ _ _ _ st h=>wpAny_pyIter_rangeiter st h
section
variable {X:Cx}{tg:Expr}
def Qp (K:aat)(b:TE):TI:=λσ H R=>b σ H λx H1=>∃a,x = .ref a/\(∃xs,cS K H1 a xs)/\R (GQ K a) H1
def Vc (K:aat)(b:TE):TI:=λσ H R=>b σ H λx H1=>∃a,x = .ref a/\(∃xs,eS K H1 a xs)/\R (LC K a) H1
theorem yu {l:Expr}{u:TE}(y:PE X l u):PI X tg l (Qp X.K u):=by
 intro b0 s σ H R I h;refine aY (y b0 s σ H _ I h) λv s1 ⟨x,H1,c,d,i⟩=>?_;obtain⟨a,e,⟨xs,j⟩,q⟩:=i;subst e;cases d;obtain⟨k,r,p,n⟩:=c.list j;refine ad_ p.isList ?_;refine⟨s1.heap.objs.size,[s1.heap.objs.size],_,_,H1,rfl,c.kept (t':=s1.toks) λb o e=>aaf _ e,BB a _,⟨_,aaq _ rfl,rfl,rfl⟩,λb f=>?_,q⟩;have e:b=s1.heap.objs.size:=by simpa using f
 subst e;exact c.nu (aal _) (c.aU.fresh (aal _))
theorem LD {l:Expr}{u:TE}(y:PE X l u):PI X tg l (Vc X.K u):=by
 intro b0 s σ H R I h;refine aY (y b0 s σ H _ I h) λv s1 ⟨x,H1,c,d,i⟩=>?_;obtain⟨a,e,⟨xs,j⟩,q⟩:=i;subst e;cases d;obtain⟨k,r,p,n⟩:=c.tuple j;refine wpAny_pyIter_tuple (show s1.heap.IsTuple a k.toArray from p) ?_;refine⟨s1.heap.objs.size,[s1.heap.objs.size],_,_,H1,rfl,c.kept (t':=s1.toks) λb o e=>aaf _ e,zY a _,⟨_,aaq _ rfl,rfl,rfl⟩,λb f=>?_,q⟩;have e:b=s1.heap.objs.size:=by simpa using f
 subst e;exact c.nu (aal _) (c.aU.fresh (aal _))
theorem vj {b0:List (Addr×Obj)}{σ:St}{H:Hp}{s:aac}{R:It->Hp->Prop}{E:Value->aac->Prop}{lo h:Int}{t u v:Tok}{tk:Nat}(I:Inv X b0 σ H s)(i:-(2 ^ 62)<=lo)(j:lo<2 ^ 62)(k:-(2 ^ 62)<=h)(l:h<2 ^ 62)
   (q:R (BA lo (h-lo).toNat) H):wpAny (model X.prog X.w) X.A (agf (.ref s.heap.objs.size)) (Sd X b0 σ tg R) E { s with heap:=s.heap.push { cls:=.type "range",data:=.fields #[.int lo t,.int h u,.int 1 v] },toks:=tk }:=by
 refine wpAny_pyIter_range (IsRange.new ..) (small_one i j k l) ?_;have a:Inv X b0 σ H { s with heap:=s.heap.push { cls:=.type "range",data:=.fields #[.int lo t,.int h u,.int 1 v] },toks:=tk }:=I.kept λb o e=>aaf _ e;refine⟨(s.heap.push { cls:=.type "range",data:=.fields #[.int lo t,.int h u,.int 1 v] }).objs.size,[(s.heap.push { cls:=.type "range",data:=.fields #[.int lo t,.int h u,.int 1 v] }).objs.size],_,_,H,rfl,
   a.kept (t':=tk) λb o e=>aaf _ e,zZ _ lo (h-lo).toNat,?_,λb d=>?_,q⟩
 . have c:lo+((0:Nat):Int)*1=lo:=by simp
   have f:(((h-lo).toNat:Nat):Int)-((0:Nat):Int)=Builtin.Range.rangeSize lo h 1:=by rw[rangeSize_one];split<;>omega
   show IsRangeIter _ _ (lo+((0:Nat):Int)*1) ((((h-lo).toNat:Nat):Int)-((0:Nat):Int)) 1;rw[c,f];exact aaq _ rfl
 . have e:b=(s.heap.push { cls:=.type "range",data:=.fields #[.int lo t,.int h u,.int 1 v] }).objs.size:=by simpa using d
   subst e;exact a.nu (aal _) (a.aU.fresh (aal _))
def Qq (b:TA):TI:=λσ H R=>b σ H λa H1=>∃j:Int,a = [.int j] /\ -(2 ^ 62)<=j/\j<2 ^ 62/\R (BA 0 j.toNat) H1
def Qr (b:TA):TI:=λσ H R=>b σ H λa H1=>∃i j:Int,a = [.int i,.int j]/\(-(2 ^ 62)<=i/\i<2 ^ 62 /\ -(2 ^ 62)<=j/\j<2 ^ 62)/\R (BA i (j-i).toNat) H1
theorem BC {a:Expr}{l:TA}{p k:Pos}(n:Gl X "range")(v:X.mg "range" = none)(o:PA X [a] l)(u:aay [a] X.env = [(false,eval a X.env)]):PI X tg (.Call (.Name "range" p) [a] [] k) (Qq l):=by
 intro b0 s σ H R I h;refine Call_ (gX I n v boot_range (ab2 (aY (o k b0 s σ H _ I h) λus s1 ⟨i,H1,f,c,b⟩=>?_) u rfl) (by decide) (by decide));obtain⟨j,e,b,d,q⟩:=b;subst e;cases c with
 |cons r rr =>
  cases rr;obtain⟨t,rfl⟩:=r;exact call_range_1 (vj f (by omega) (by omega) b d (by simpa using q))
theorem BD {a b:Expr}{x:TA}{p v:Pos}(z:Gl X "range")(C:X.mg "range" = none)(A:PA X [a,b] x)(B:aay [a,b] X.env = [(false,eval a X.env),(false,eval b X.env)])(y:aay [b] X.env = [(false,eval b X.env)]):
  PI X tg (.Call (.Name "range" p) [a,b] [] v) (Qr x):=by
 intro b0 s σ H R I h;refine Call_ (gX I z C boot_range (ab2 (aY (A v b0 s σ H _ I h) λus s1 ⟨u,H1,n,d,c⟩=>?_) (by rw[B,y]) (by rw[y];rfl)) (by decide) (by decide));obtain⟨i,j,e,⟨c,l,k,f⟩,q⟩:=c;subst e;cases d with
 |cons r rr =>
  cases rr with
  |cons r' rr =>
   cases rr;obtain⟨t,rfl⟩:=r;obtain⟨o,rfl⟩:=r';exact call_range_2 (vj n c l k f q)
noncomputable def Vd (c:TI)(g:TG)(tb:TS):TS:=λD σ H=>c σ H λJ H1=>∃W:Nat->Nat->St->Hp->Prop,(∃m,W 0 m σ H1) /\ ∀i m σ H,W i m σ H ->
 (J.stop i H/\D.nx σ H)\/(J.go i H /\ ∃N:St->Hp->Prop,(∀σ' H',N σ' H'->∃m',m' < m/\W (i+1) m' σ' H') /\ ∀x H',J.yt i H x H'->g x σ H' λb a=>tb { D with nx:=N,ct:=N,bk:=D.nx } b a)
noncomputable def ny (fp:List Addr)(h:Heap):List (Addr×Obj):=fp.filterMap λb=>(h.get? b).map λo=>(b,o)
theorem jw {fp:List Addr}{h:Heap}{b:Addr}{o:Obj}(a:b∈fp)(e:h.get? b=some o):(b,o)∈ny fp h:=ab3.mpr ⟨b,a,by rw[e];rfl⟩
theorem BE {fp:List Addr}{h:Heap}{p:Addr×Obj}(d:p∈ny fp h):p.1∈fp/\h.get? p.1=some p.2:=by
 obtain⟨b,c,e⟩:=ab3.mp d;cases q:h.get? b with
 |none=>rw[q]at e;cases e
 |some o =>
  rw[q]at e;have a:(b,o)=p:=aa_ e;subst a;exact⟨c,q⟩
theorem Inv.pinned {b0:List (Addr×Obj)}{σ:St}{H:Hp}{s:aac}{fp:List Addr}(I:Inv X b0 σ H s)(i:∀b∈fp,fK X b0 H b)(h:∀b∈fp,∃o,s.heap.get? b=some o /\ ∀v,o.data ≠ .cell v):Inv X (b0++ny fp s.heap) σ H s :=
 I.yq λp f=>(aao.mp f).elim (λz=>I.pin p (abf _ z)) λz=>by obtain⟨a,e⟩:=BE z;obtain⟨f0,f1,f2,_⟩:=i p.1 a;obtain⟨o,c,d⟩:=h p.1 a;rw[e]at c;cases c;exact⟨e,f0,f1,f2,d⟩
theorem Inv.l6 {b0 b:List (Addr×Obj)}{σ:St}{H:Hp}{s:aac}(I:Inv X (b0++b) σ H s):Inv X b0 σ H s:=I.yq λp a=>I.pin p (abf _ (aew _ a))
theorem BF {iter:Expr}{body:List Stmt}{K:TI}{g:TG}{tb:TS}{E:Pos}(C:aes (model X.prog X.w) X.A X.env X.xe)(L:X.calm=true)(M:PI X tg iter K)(O:PG X tg g)(B:gW X body tb)
   (P:∀x,aa7 iter X.env x=pure x):PS X (.For tg iter body [] E) (Vd K g tb):=by
 intro b0 s σ H D I h;refine wpAny_For (aY (M b0 s σ H _ I h) λv s1 h1=>aY h1 λLB s2 h2=>?_) P;obtain⟨it,q,tn,J,H2,e,I2,T,LF,f2,W,⟨m0,w0⟩,turn⟩:=h2;subst e;have pQ:∀{H':Hp},(∀b∈q,H' b=none)->∀b∈q,fK X b0 H' b:=λhn b B=>⟨hn b B,(f2 b B).2⟩
 refine codeAny_forLoop_any (λn s'=>∃i σ' H',Inv X b0 σ' H' s'/\tn i s'.heap/\(∀b∈q,H' b=none)/\W i n σ' H') ?_ m0 ⟨0,σ,H2,I2,LF,λb B=>(f2 b B).1,w0⟩;rintro n s3 ⟨i,p,y,I3,Se,Sf,w3⟩;rcases turn i n p y w3 with⟨stop,qn⟩|⟨go,N,hN,step⟩
 . refine acP C (aY (T.done X rfl rfl rfl L i b0 s3 p y X.xe I3 (pQ Sf) Se stop) λr s4 ⟨hr,I4⟩=>?_)
   subst hr;exact aeA ⟨p,y,I4,qn⟩
 . refine acP C (aY (T.item X rfl rfl rfl L i b0 s3 p y X.xe I3 (pQ Sf) Se go) λr s4 ⟨u,hr,h4⟩=>?_)
   subst hr;refine acP C (aY h4 λ_ s5 ⟨x,H5,I5,r5,y5,LG,LH⟩=>?_);have z:=I5.pinned (pQ LH) (T.obj _ _ LG);refine acP C (aY (O _ s5 p H5 x u _ z r5 (step x H5 y5)) λ_ s6 ⟨σ6,H6,I6,q6⟩=>?_);refine acP C (aY (B _ s6 σ6 H6 _ I6 q6) λf s7 k=>?_);have again:∀{j:St} {a:Hp},Inv X (b0++ny q s5.heap) j a s7->N j a->∃m,m<n /\ ∃i σ' H',Inv X b0 σ' H' s7/\tn i s7.heap/\(∀b∈q,H' b=none)/\W i m σ' H':=fun {j a} c l=>by obtain⟨m',hm,w7⟩:=hN j a l;refine⟨m',hm,i+1,j,a,c.l6,T.keep _ _ _ LG λb B o e=>(c.pin (b,o) (abf _ (abf _ (jw B e)))).1,λb B=>?_,w7⟩;obtain⟨o,e,d⟩:=T.obj _ _ LG b B;exact(c.pin (b,o) (abf _ (abf _ (jw B e)))).2.1
   cases f with
   |next=>obtain⟨j,a,c,l⟩:=k;exact again c l
   |cont=>obtain⟨j,a,c,l⟩:=k;exact again c l
   |brk=>obtain⟨j,a,c,k⟩:=k;exact⟨j,a,c.l6,k⟩
   |ret v=>obtain⟨x7,j,a,c,r7,k⟩:=k;exact⟨x7,j,a,c.l6,r7,k⟩
end
abbrev R2:=V->V->Hp->VK->Prop
def bq (X:Cx)(f:Value->Value->Sem Value)(r:R2):Prop :=
 ∀(b0:List (Addr×Obj)) (s:aac) (σ:St) (H:Hp) (x y:V) (v u:Value) (Q:VK),Inv X b0 σ H s->RelV x v->RelV y u->r x y H Q ->
  wpAny (model X.prog X.w) X.A (f v u) (EP X b0 σ Q) X.xe s
def BG (X:Cx)(f:Value->Sem Value)(r:V->Hp->VK->Prop):Prop :=
 ∀(b0:List (Addr×Obj)) (s:aac) (σ:St) (H:Hp) (x:V) (v:Value) (Q:VK),Inv X b0 σ H s->RelV x v->r x H Q ->
  wpAny (model X.prog X.w) X.A (f v) (EP X b0 σ Q) X.xe s
def dk (X:Cx)(f:Value)(r:List V->Hp->VK->Prop):Prop :=
 ∀(b0:List (Addr×Obj)) (s:aac) (σ:St) (H:Hp) (xs:List V) (us:List Value) (Q:VK),Inv X b0 σ H s->Vals xs us->r xs H Q ->
  wpAny (model X.prog X.w) X.A (call f us) (EP X b0 σ Q) X.xe s
def Ve (X:Cx)(r:V->Hp->(Bool->Hp->Prop)->Prop):Prop :=
 ∀(b0:List (Addr×Obj)) (s:aac) (σ:St) (H:Hp) (x:V) (v:Value) (Q:Bool->Hp->Prop),Inv X b0 σ H s->RelV x v->r x H Q ->
  wpAny (model X.prog X.w) X.A (truthy v) (TP X b0 σ Q) X.xe s
noncomputable def BH (r:R2)(b tb:TE):TE:=λσ H Q=>b σ H λx H1=>tb σ H1 λy a=>r x y a Q
noncomputable def Yz (r:V->Hp->VK->Prop)(a:TE):TE:=λσ H Q=>a σ H λx H1=>r x H1 Q
noncomputable def rI (C:Int->Int->Prop)(g:Int->Int->V):R2:=λx y H Q=>∃i j,x = .int i/\y = .int j/\C i j/\Q (g i j) H
noncomputable def pe (g:Int->Int->V):R2:=λx y H Q=>∃i j,x = .int i/\y = .int j/\Q (g i j) H
noncomputable def rU (g:Int->V):V->Hp->VK->Prop:=λx H Q=>∃i,x = .int i/\Q (g i) H
section
variable {X:Cx}{a b c:Expr}{ta tb tc:TE}{pos:Pos}
theorem EI (l:PE X a ta)(o:PE X b tb){b0:List (Addr×Obj)}{s:aac}{σ:St}{H:Hp}{R:V->V->Hp->Prop}(I:Inv X b0 σ H s)
  (h:ta σ H λx H1=>tb σ H1 λy H2=>R x y H2) {Q:Value->aac->Prop} {f:Value->Value->Sem Value}
  (n:∀v u s2 x y H2,Inv X b0 σ H2 s2->RelV x v->RelV y u->R x y H2->wpAny (model X.prog X.w) X.A (f v u) Q X.xe s2):
  wpAny (model X.prog X.w) X.A (eval a X.env) (λv s₁=>wpAny (model X.prog X.w) X.A (eval b X.env) (λu s₂=>wpAny (model X.prog X.w) X.A (f v u) Q X.xe s₂) X.xe s₁) X.xe s:=by
 refine aY (l b0 s σ H _ I h) λv s1 ⟨x,H1,c,d,j⟩=>?_;refine aY (o b0 s1 σ H1 _ c j) λu s2 ⟨y,H2,e,i,k⟩=>?_;exact n v u s2 x y H2 e d i k
theorem Qs {op:adT}{r:R2}(i:bq X (abJ op) r)(j:PE X a ta)(k:PE X b tb):PE X (.BinOp a op b pos) (BH r ta tb):=by intro b0 s σ H Q I h;exact wpAny_BinOp (EI j k I h λv u s2 x y f c d e q=>i b0 s2 σ f x y v u Q c d e q)
theorem Qt {op:UnaryOp}{r:V->Hp->VK->Prop}(e:BG X (unaryOp op) r)(f:PE X a ta):PE X (.UnaryOp op a pos) (Yz r ta):=by intro b0 s σ H Q I h;exact UnaryOp_ (aY (f b0 s σ H _ I h) λv s1 ⟨x,H1,b,c,d⟩=>e b0 s1 σ H1 x v Q b c d)
theorem GR {f:Value->Value->Sem Value}{C:Int->Int->Prop}{g:Int->Int->Int}
  (e:∀(i j:Int) (t u:Tok) (s:aac) (Q:Value->aac->Prop) (E:Value->aac->Prop),C i j->Q (.int (g i j) s.toks) { s with toks:=s.toks+1 }->wpAny (model X.prog X.w) X.A (f (.int i t) (.int j u)) Q E s):
  bq X f (rI C λi j=>.int (g i j)):=by
 intro b0 s σ H x y v u Q I c d h;obtain⟨i,j,rfl,rfl,a,q⟩:=h;obtain⟨t,rfl⟩:=c;obtain⟨b,rfl⟩:=d;exact e i j t b s _ _ a ⟨.int (g i j),H,I.tok _,⟨_,rfl⟩,q⟩
theorem LI {f:Value->Value->Sem Value}{g:Int->Int->Int}
  (d:∀(i j:Int) (t u:Tok) (s:aac) (Q:Value->aac->Prop) (E:Value->aac->Prop),Q (.int (g i j) s.toks) { s with toks:=s.toks+1 }->wpAny (model X.prog X.w) X.A (f (.int i t) (.int j u)) Q E s):
  bq X f (pe λi j=>.int (g i j)):=by
 intro b0 s σ H x y v u Q I b c h;obtain⟨i,j,rfl,rfl,q⟩:=h;obtain⟨t,rfl⟩:=b;obtain⟨a,rfl⟩:=c;exact d i j t a s _ _ ⟨.int (g i j),H,I.tok _,⟨_,rfl⟩,q⟩
theorem z9 {f:Value->Value->Sem Value}{g:Int->Int->Bool}
  (d:∀(i j:Int) (t u:Tok) (s:aac) (Q:Value->aac->Prop) (E:Value->aac->Prop),Q (.bool (g i j)) s->wpAny (model X.prog X.w) X.A (f (.int i t) (.int j u)) Q E s):
  bq X f (pe λi j=>.bl (g i j)):=by
 intro b0 s σ H x y v u Q I b c h;obtain⟨i,j,rfl,rfl,q⟩:=h;obtain⟨t,rfl⟩:=b;obtain⟨a,rfl⟩:=c;exact d i j t a s _ _ ⟨.bl (g i j),H,I,rfl,q⟩
def Vf (i j:Int):Prop:=0<j/\j<1073741824
def Vg (i j:Int):Prop:=0<=j/\j<=1000000/\i.natAbs<2 ^ 64
def EJ (i j:Int):Prop:=(-(2 ^ 64)<i/\i<2 ^ 64)\/(-(2 ^ 64)<j/\j<2 ^ 64)
theorem EJ.ok {i j:Int}(h:EJ i j):IntMulOk i j:=by
 rcases h with⟨h1,h2⟩|⟨h1,h2⟩
 . exact .of_left (intBits_le_64 h1 h2)
 . exact .of_right (intBits_le_64 h1 h2)
theorem LJ:bq X (abJ .Add) (pe λi j=>.int (i+j)):=LI λ_ _ _ _ _ _ _ q=>add_int q
theorem LK:bq X (abJ .Sub) (pe λi j=>.int (i-j)):=LI λ_ _ _ _ _ _ _ q=>sub_int q
theorem LL:bq X (abJ .Mult) (rI EJ λi j=>.int (i*j)):=GR λ_ _ _ _ _ _ _ a q=>mul_int q a.ok
theorem IM:bq X (abJ .FloorDiv) (rI Vf λi j=>.int (i / j)):=GR λi j _ _ _ _ _ a q=>by have b:(0:Int)<j:=a.1;have c:j<1073741824:=a.2;exact floordiv_int (by omega) (by rw[Int.fdiv_eq_ediv_of_nonneg i (by omega)];exact q) (.inl (PyProof.noPylong_small (by omega)))
theorem LM:bq X (abJ .Mod) (rI (λ_ j=>0<j) λi j=>.int (i % j)):=GR λi j _ _ _ _ _ a q=>by have b:(0:Int)<j:=a;exact mod_int' (by omega) (by rw[Int.fmod_eq_emod_of_nonneg i (by omega)];exact q)
theorem LN:bq X (abJ .Pow) (rI Vg λi j=>.int (i ^ j.toNat)):=GR λ_ _ _ _ _ _ _ a q=>pow_int_small a.1 a.2.1 a.2.2 q
theorem YA {f:Value->Sem Value}{g:Int->Int}
  (d:∀(i:Int) (t:Tok) (s:aac) (Q:Value->aac->Prop) (E:Value->aac->Prop),Q (.int (g i) s.toks) { s with toks:=s.toks+1 }->wpAny (model X.prog X.w) X.A (f (.int i t)) Q E s):
  BG X f (rU λi=>.int (g i)):=by
 intro b0 s σ H x v Q I a h;obtain⟨i,rfl,q⟩:=h;obtain⟨t,rfl⟩:=a;exact d i t s _ _ ⟨.int (g i),H,I.tok _,⟨_,rfl⟩,q⟩
theorem LO:BG X (unaryOp .USub) (rU λi=>.int (-i)):=YA λ_ _ _ _ _ q=>neg_int q
end
section
variable {X:Cx}{a b c:Expr}{ta tb tc:TE}{pos:Pos}
theorem BI {b0:List (Addr×Obj)}{σ:St}{H:Hp}{s:aac}{Q:VK}{k d:Bool}(I:Inv X b0 σ H s)(q:Q (.bl k) H)(e:k=d):EP X b0 σ Q (.bool d) s:=by subst e;exact⟨.bl k,H,I,rfl,q⟩
theorem Qu:bq X (abm .Lt) (pe λi j=>.bl (decide (i<j))):=z9 λ_ _ _ _ _ _ _ q=>lt_int q
theorem Qv:bq X (abm .LtE) (pe λi j=>.bl (decide (i<=j))):=z9 λ_ _ _ _ _ _ _ q=>le_int q
theorem Qw:bq X (abm .Gt) (pe λi j=>.bl (decide (j<i))):=z9 λ_ _ _ _ _ _ _ q=>gt_int q
theorem Qx:bq X (abm .GtE) (pe λi j=>.bl (decide (j<=i))):=z9 λ_ _ _ _ _ _ _ q=>ge_int q
theorem LP:bq X (abm .Is) (λx y H Q=>y = .ax/\Q (.bl (decide (x = .ax))) H):=by
 intro b0 s σ H x y v u Q I a b h;obtain⟨rfl,q⟩:=h;cases b;refine is_none_gen (BI I q ?_);cases x<;>first
  | (cases a;rfl)
  | (obtain⟨t,rfl⟩:=a;rfl)
theorem IP:bq X (abm .IsNot) (λx y H Q=>y = .ax/\Q (.bl (!decide (x = .ax))) H):=by
 intro b0 s σ H x y v u Q I a b h;obtain⟨rfl,q⟩:=h;cases b;refine isnot_none_gen (BI I q ?_);cases x<;>first
  | (cases a;rfl)
  | (obtain⟨t,rfl⟩:=a;rfl)
theorem IQ {op:CmpOp}{r:R2}(i:bq X (abm op) r)(j:PE X a ta)(k:PE X b tb)(l:aej op b=false):PE X (.Compare a [op] [b] pos) (BH r ta tb):=by intro b0 s σ H Q I h;exact wpAny_Compare1 (EI j k I h λv u s2 x y f c d e q=>i b0 s2 σ f x y v u Q c d e q) l
noncomputable def uI (t:TE):TT:=λσ H Q=>t σ H λx a=>∃k,x = .bl k/\Q k a
theorem IS {op:CmpOp}{r:R2}(A:bq X (abm op) r)(B:PE X a ta)(C:PE X b tb)(E:aej op b=false):PT X (.Compare a [op] [b] pos) (uI (BH r ta tb)):=by
 intro b0 s σ H Q I h;refine wpAny_isTrue_Compare1 (aY (B b0 s σ H _ I h) λv s1 ⟨x,H1,I1,d,p⟩=>aY (C b0 s1 σ H1 _ I1 p) λu s2 ⟨y,H2,f,j,q⟩=>
  aY (A b0 s2 σ H2 x y v u _ f d j q) λc s3 ⟨z,l,o,n,k,e,i⟩=>?_) E
 subst e;cases n;exact acG ⟨l,o,i⟩
def EK (K:aat)(x:V)(H:Hp)(k:Bool):Prop :=
 match x with
 |.ax=>k=false|.bl b=>k=b|.int i=>k=(i != 0)|.str y=>y.length<=aax/\k=((y.length:Int) != 0)|.Bs y=>y.size<=aax/\k=((y.size:Int) != 0)|.ref p=>(∃xs,cS K H p xs/\k = !xs.isEmpty)\/(∃xs,eS K H p xs/\k = !xs.isEmpty) \/ ∃d6,H p=some (.dK d6)/\k = !d6.isEmpty|_=>False
theorem z_ {e:Type}{d:List (e×V)}{vs:List (e×Value)}(r:KV d vs):(!vs.isEmpty)= !d.isEmpty:=by cases r<;>rfl
theorem qx {xs:List V}{d:List Value}(r:Vals xs d):(!d.toArray.isEmpty)= !xs.isEmpty:=by cases r<;>simp
theorem lu:(aax:Nat)<2 ^ 63:=by rw[ac0];decide
theorem BJ:Ve X (λx H Q=>∃k,EK X.K x H k/\Q k H):=by
 intro b0 s σ H x v Q I c h;obtain⟨k,e,q⟩:=h;have o:=lu;have u:aax=16777216:=ac0;cases x with
 |ax =>
  cases c;have a:k=false:=e;subst a;exact truthy_none ⟨H,I,q⟩
 |bl b =>
  cases c;have a:k=b:=e;subst a;exact acG ⟨H,I,q⟩
 |int i =>
  obtain⟨t,rfl⟩:=c;have a:k=(i != 0):=e;subst a;exact PySem.P.truthy_int ⟨H,I,q⟩
 |str y =>
  obtain⟨t,rfl⟩:=c;obtain⟨j,a⟩:y.length<=aax/\k=((y.length:Int) != 0):=e;subst a;exact PySem.P.truthy_str (by omega) ⟨H,I.tok _,q⟩
 |Bs y =>
  obtain⟨t,rfl⟩:=c;obtain⟨j,a⟩:y.size<=aax/\k=((y.size:Int) != 0):=e;subst a;exact PySem.W.truthy_bytes (by omega) ⟨H,I.tok _,q⟩
 |ref p =>
  cases c;have a:(∃xs,cS X.K H p xs/\k = !xs.isEmpty)\/(∃xs,eS X.K H p xs/\k = !xs.isEmpty) \/ ∃d6,H p=some (.dK d6)/\k = !d6.isEmpty:=e;rcases a with⟨xs,hx,a⟩|⟨xs,hx,a⟩|⟨d6,hx,a⟩
  . subst a
    obtain⟨n,r,d,f⟩:=I.list hx;have hlen:=r.length;exact wpAny_truthy_list d.isList (by simp only[aar];omega) ⟨H,I.tok _,by rw[qx r];exact q⟩
  . subst a
    obtain⟨n,r,d,f⟩:=I.tuple hx;have hlen:=r.length;exact truthy_tuple d (by simp only[aar];omega) ⟨H,I.tok _,by rw[qx r];exact q⟩
  . subst a
    obtain⟨f,l,vs,r,m⟩:d6.length<=aax/\(p == adh)=false /\ ∃vs,KV d6 vs/\s.heap.DictOf (eJ X.prog X.w) p vs:=I.aU p _ hx;have hlen:d6.length=vs.length:=Paired.length r;exact wpAny_truthy_dict l m (by omega) ⟨H,I.tok _,by rw[z_ r];exact q⟩
 |_=>exact(show False from e).elim
theorem EL (f:PE X a ta)(e:∀whole,isTrue a X.env whole=(do let v <- whole;age a.pos;ac1 [v] (truthy v))):
  PT X a (λσ H Q=>ta σ H λx H'=>∃k,EK X.K x H' k/\Q k H'):=by
 intro b0 s σ H Q I h;exact isTrue_plain (aY (f b0 s σ H _ I h) λv s1 ⟨x,H1,b,c,d⟩=>BJ b0 s1 σ H1 x v Q b c d) (e _)
theorem Aa:bq X (abJ .Add) (λx y H Q=>∃i j,x = .str i/\y = .str j/\i.length+j.length<=aax/\Q (.str (i++j)) H):=by intro b0 s σ H x y v u Q I b d h;obtain⟨i,j,rfl,rfl,c,q⟩:=h;obtain⟨t,rfl⟩:=b;obtain⟨a,rfl⟩:=d;exact add_str (λa e=>⟨.str (i++j),H,I.tok _,⟨_,rfl⟩,q⟩) c
theorem vals1 {x:V}{us:List Value}(r:Vals [x] us):∃u,us = [u]/\RelV x u:=by
 cases r with
 |cons r1 r2=>cases r2;exact⟨_,rfl,r1⟩
theorem vals2 {x y:V}{us:List Value}(r:Vals [x,y] us):∃u w',us = [u,w']/\RelV x u/\RelV y w':=by
 cases r with
 |cons r1 r2 =>
  cases r2 with
  |cons r3 r4=>cases r4;exact⟨_,_,rfl,r1,r3⟩
theorem BK (e:X.calm=true):dk X (.builtin "min") (λxs H Q=>∃i j,xs = [.int i,.int j]/\Q (.int (if j<i then j else i)) H):=by
 intro b0 s σ H xs us Q I r h;obtain⟨i,j,rfl,q⟩:=h;obtain⟨u,c,rfl,⟨t,rfl⟩,⟨a,rfl⟩⟩:=vals2 r;refine min_two_ints (I.ok.hd e) λd b k=>⟨_,H,I.kept k,?_,q⟩
 by_cases hj:j<i
 . rw[if_pos hj,if_pos hj];exact⟨_,rfl⟩
 . rw[if_neg hj,if_neg hj];exact⟨_,rfl⟩
theorem tm:dk X (.type "int") (λxs H Q=>(∃i,xs = [.int i]/\Q (.int i) H) \/ ∃k,xs = [.bl k]/\Q (.int (if k then 1 else 0)) H):=by
 intro b0 s σ H xs us Q I r h;rcases h with⟨i,rfl,q⟩|⟨k,rfl,q⟩
 . obtain⟨u,rfl,t,rfl⟩:=vals1 r
   exact call_int_int ⟨.int i,H,I,⟨_,rfl⟩,q⟩
 . obtain⟨u,rfl,a⟩:=vals1 r
   cases a;exact call_int_bool ⟨.int (if k then 1 else 0),H,I.tok _,⟨_,rfl⟩,q⟩
end
structure cX (k:Nat)(A:aaL):Prop where
 hd:A.handled=none
 dp:A.depth+3*k+5<recursionLimit
 un:A.units+16*k+200<cLine
 gd:A.guards=some []
theorem cX.deeper {k:Nat}{A:aaL}(r:cX (k+1) A)(env:Env):cX k (A.deeper env):=
 ⟨r.hd,by have:=r.dp;show A.depth+1+3*k+5<_;omega,by have:=r.un;show A.units+3+16*k+200<_;omega,by first|exact r.gd| (simp[Around.deeper];exact r.gd)⟩
theorem cX.depth {k:Nat}{A:aaL}(r:cX k A):A.depth<recursionLimit:=by have:=r.dp;omega
theorem cX.units {k:Nat}{A:aaL}(r:cX k A):A.units+64<cLine:=by have:=r.un;omega
noncomputable def LR:TA:=λ_ H Q=>Q [] H
noncomputable def Qy (b:TE)(tr:TA):TA:=λσ H Q=>b σ H λx H1=>tr σ H1 λxs a=>Q (x::xs) a
section
variable {X:Cx}{e:Expr}{es:List Expr}{te:TE}{t:TA}{pos:Pos}
theorem jS:PA X [] LR:=λ_ _ _ _ H Q I h=>aha ⟨[],H,I,.nil,h⟩
theorem fV (k:PE X e te)(n:PA X es t)(l:aay (e::es) X.env=(false,eval e X.env)::aay es X.env):PA X (e::es) (Qy te t):=by intro pos b0 s σ H Q I h;rw[l];show wpAny _ _ (spliced ((false,eval e X.env)::acm pos (aay es X.env))) _ _ s;refine ae4 (aY (k b0 s σ H _ I h) λu s1 ⟨x,H1,i,a,d⟩=>?_);exact aY (n pos b0 s1 σ H1 _ i d) λus s2 ⟨xs,j,b,c,f⟩=>⟨x::xs,j,b,.cons a c,f⟩
def Vh (t:TA):TE:=λσ H Q=>t σ H λxs H1=>xs.length<=aax /\ ∀p,H1 p=none->Q (.ref p) (upd H1 p (.tup xs))
def Vi (t:TA):TE:=λσ H Q=>t σ H λxs H1=>xs.length<=aax /\ ∀p,H1 p=none->Q (.ref p) (upd H1 p (.lst xs))
theorem LS {d}(h:PA X es t):PE X (.Tuple es d pos) (Vh t):=by intro b0 s σ H Q I c;refine wpAny_Tuple_spliced (aY (h pos b0 s σ H _ I c) λus s1 ⟨xs,H1,a,r,z,q⟩=>⟨by rw[<- r.length];exact z,?_⟩);have hf:H1 s1.heap.objs.size=none:=a.aU.fresh (aal _);refine⟨.ref s1.heap.objs.size,upd H1 s1.heap.objs.size (.tup xs),a.laid (t':=s1.toks) (λb u e=>aaf _ e) (aal _) ?_,rfl,q _ hf⟩;exact⟨z,us,r,⟨_,aaq _ rfl,rfl,⟨_,rfl⟩,rfl⟩⟩
theorem BL (h:PA X es t):PE X (.List es pos) (Vi t):=by intro b0 s σ H Q I c;refine wpAny_List_spliced (aY (h pos b0 s σ H _ I c) λus s1 ⟨xs,H1,a,r,z,q⟩=>⟨by rw[<- r.length];exact z,?_⟩);have hf:H1 s1.heap.objs.size=none:=a.aU.fresh (aal _);refine⟨.ref s1.heap.objs.size,upd H1 s1.heap.objs.size (.lst xs),a.laid (t':=s1.toks) (λb u e=>aaf _ e) (aal _) ?_,rfl,q _ hf⟩;exact⟨z,us,0,r,aaq _ rfl⟩
end
abbrev Sp:=List V->Hp->VK->XK->Prop
abbrev nz:=List Env->Hp->aac->XK->Value->aac->Prop
structure pR (P:aaG)(w:World)(K:aat)(mg:Str->Option Value)(base:Heap)(A:aaL)(outer:List Env)(s:aac)(H:Hp):Prop where
 frames:A.frames=some outer
 mod:Mod K mg base
 bs:∀b o,base.get? b=some o->s.heap.get? b=some o/\H b=none
 nj:base.objs.size<=s.heap.objs.size
 gU:s.heap.FunFrames base outer
 qt:∀b∈kD outer,H b=none
 aU:d7 P w H s.heap
 bare:aer s.gens
def CE (a:List Env)(P:aaG)(w:World)(H:Hp)(s:aac)(Q:VK)(u:Value)(b:aac):Prop :=
 ∃v H',b.os=s.os/\aer b.gens/\Un (kD a) [] H H' s.heap b.heap/\d7 P w H' b.heap/\RelV v u/\Q v H'
def CR (CX:nz)(a:List Env)(P:aaG)(w:World)(H:Hp)(s:aac)(Q:VK)(E:XK)(r:Result)(b:aac):Prop :=
 match r with
 |.ok (.ret u)=>CE a P w H s Q u b|.ok _=>False|.error e=>CX a H s E e b
structure dU (P:aaG)(w:World)(K:aat)(mg:Str->Option Value)(base:Heap)(CX:nz)(k:Nat)(f:Addr)(fd:abN)(ps:List Str)(sp:Sp):Prop where
 len:∀vs H Q E,sp vs H Q E->vs.length=ps.length
 run:∀(A:aaL) (outer:List Env) (s:aac) (H:Hp) (args:Args) (us:List Value) (vs:List V) (Q:VK) (E:XK),cX k A->pR P w K mg base A outer s H->ag8 s fd args (ps.zip us)->Vals vs us->sp vs H Q E ->
  adO (model P w) A (.call (.ref f) args) (CR CX outer P w H s Q E) s
theorem dU.imp {P:aaG}{w:World}{K:aat}{mg:Str->Option Value}{base:Heap}{CX:nz}{k:Nat}{f:Addr}{e:abN}{ps:List Str}{sp Si:Sp}(F:dU P w K mg base CX k f e ps sp)
  (h:∀vs H Q E,Si vs H Q E->sp vs H Q E):dU P w K mg base CX k f e ps Si :=
 ⟨λvs H Q E q=>F.len vs H Q E (h _ _ _ _ q),λA outer s H args us vs Q E b he d a c=>F.run A outer s H args us vs Q E b he d a (h _ _ _ _ c)⟩
section
variable {X:Cx}{b0:List (Addr×Obj)}{σ:St}{H:Hp}{s s':aac}
theorem Inv.EM (I:Inv X b0 σ H s):pR X.prog X.w X.K X.mg X.base X.A X.stack s H :=
 ⟨I.ok.frames,I.ok.mod,I.bs,aa0 I.ok.nj I.sz,I.stack,I.yp,I.aU,I.bare⟩
theorem Inv.after {Q:VK}{u:Value}(I:Inv X b0 σ H s)(h:CE X.stack X.prog X.w H s Q u s'):EP X b0 σ Q u s':=by obtain⟨v,c,os,bare,un,a,r,q⟩:=h;obtain⟨f,g,d,t,e⟩:=s';obtain rfl:e=s.os:=os;exact⟨v,c,I.call (h':=f) (g':=g) (d':=d) (t':=t) (ch:=[]) un a bare (λb z=>absurd z (by simp)),r,q⟩
end
noncomputable def uJ (sp:Sp)(b:List V)(E:XK)(t:TA):TE:=λσ H Q=>t σ H λa H1=>sp (a++b) H1 Q E
noncomputable def Binds (K:aat)(a:abN)(ps:List Str)(ds:List Value):Prop :=
 ∀(s:aac) (us:List Value),K.In s.heap->(us++ds).length=ps.length->ag8 s a ⟨us,[]⟩ (ps.zip (us++ds))
theorem Binds.all {K:aat}{b:abN}{ps:List Str}(h:∀us:List Value,us.length=ps.length->aeR b ⟨us,[]⟩=pure (ps.zip us)):Binds K b ps []:=λs us _ a=>by rw[abb]at a ⊢;exact .of_eq (h us a)
def Passes (CX:nz)(X:Cx)(E:XK):Prop:=∀(b0:List (Addr×Obj)) (σ:St) (H:Hp) (s:aac) (e:Value) (s':aac),Inv X b0 σ H s->CX X.stack H s E e s'->X.xe e s'
section
variable {X:Cx}{CX:nz}{k:Nat}{f C:Addr}{fd:abN}{ps:List Str}{sp:Sp}{pf:List V}{ds:List Value}{E:XK}{x m:Str}{p pos apos:Pos}{e o:Expr}{es:List Expr}{ta:TE}{t:TA}
theorem vk {b0:List (Addr×Obj)}{σ:St}{H:Hp}{s:aac}{Q:VK}{us:List Value}{vs:List V}(F:dU X.prog X.w X.K X.mg X.base CX k f fd ps sp)(i:cX k X.A)(j:Binds X.K fd ps ds)(n:Vals pf ds)(l:Passes CX X E)
  (I:Inv X b0 σ H s) (r:Vals vs us) (h:sp (vs++pf) H Q E):wpAny (model X.prog X.w) X.A (call (.ref f) us) (EP X b0 σ Q) X.xe s:=by
 have b:Vals (vs++pf) (us++ds):=r.append n;have c:(us++ds).length=ps.length:=by rw[<- b.length];exact F.len _ _ _ _ h
 refine agq (ads (F.run X.A X.stack s H ⟨us,[]⟩ (us++ds) (vs++pf) Q E i I.EM (j s us I.gq c) b h) λr d a=>?_);cases r with
 |error e=>exact l b0 σ H s e d I a
 |ok fl =>
  cases fl with
  |ret u=>exact I.after a|next=>exact ab6 a|brk=>exact ab6 a|cont=>exact ab6 a
theorem IT (F:dU X.prog X.w X.K X.mg X.base CX k f fd ps sp)(c:cX k X.A)(l:Gl X x)(B:X.mg x=some (.ref f))(j:ach X.K (.ref f)=true)(y:Binds X.K fd ps ds)(v:Vals pf ds)(u:Passes CX X E)
  (n:PA X (e::es) t) (z:(x == ("__debug__":Str))=false) (i:aay (e::es) X.env=(false,eval e X.env)::aay es X.env) (d:(acm pos (aay es X.env)).any (·.1)=false):
  PE X (.Call (.Name x p) (e::es) [] pos) (uJ sp pf E t):=by
 intro b0 s σ H Q I h;refine ab4 (oA I l B ?_ z);refine ae5 (h₀:=X.base) I.ok.mod.qr j (aY (n pos b0 s σ H _ I h) λus s1 ⟨b,H1,a,r,q⟩=>⟨a.gq,?_⟩) i d;exact vk F c y v u a r q
theorem EN (F:dU X.prog X.w X.K X.mg X.base CX k f fd ps sp)(a:cX k X.A)(c:Gl X x)(n:X.mg x=some (.ref f))(b:ach X.K (.ref f)=true)(j:Binds X.K fd ps ds)(i:Vals pf ds)(d:Passes CX X E)
  (l:(x == ("__debug__":Str))=false):PE X (.Call (.Name x p) [] [] pos) (uJ sp pf E LR):=by
 intro b0 s σ H Q I h;refine ab4 (oA I c n ?_ l);exact PySem.W.callWith_K0 I.gq b (vk (us:=[]) F a j i d I .nil h)
end
structure jI (N P:List Str)(sc:Scope):Prop where
 kind:sc.kind = .function
 co:sc.isCoroutine=false
 gen:sc.isGenerator=false
 nd:N.Nodup
 pre:N.take P.length=P
 par:∀x∈P,sc.names.lookup x=some .local\/sc.names.lookup x=some .cell
 LU:∀y∈sc.names,y.2 ≠ .free
theorem tv {a:Str->Option acw}{x:Str}:∀{binds:List (Str×Value)} {m:Str->Option Value},(∀v,(x,v) ∉ binds)->bindL a binds m x=m x
 | [],_,_=>rfl
 | (n,v)::r,m,h=>by
  unfold bindL;rw[tv λw hw=>h w (aau _ hw)];split
  . have:x≠n:=by rintro rfl;exact h v aaC
    simp[this]
  . rfl
theorem tw {a:Str->Option acw}{x:Str}:∀{binds:List (Str×Value)} {m:Str->Option Value},(∀v,(x,v) ∉ binds)->bindC a binds m x=m x
 | [],_,_=>rfl
 | (n,v)::r,m,h=>by
  unfold bindC;rw[tw λw hw=>h w (aau _ hw)];split
  . rfl
  . have:x≠n:=by rintro rfl;exact h v aaC
    simp[this]
theorem tx {b:Str->Option acw}{x:Str}{v:Value}:∀{P:List Str} {vs:List Value} {i:Nat} {m:Str->Option Value},P.Nodup->P[i]? = some x->vs[i]? = some v->b x=some .local ->
  bindL b (P.zip vs) m x=some v
 | [],_,_,_,_,h,_,_=>by simp at h|_::_,[],_,_,_,_,h,_=>by simp at h|p::P,w::vs,0,m,nd,h1,h2,hk=>by simp at h1 h2;subst h1;subst h2;show bindL b ((p,w)::P.zip vs) m p=_;unfold bindL;rw[tv λv a=>(aaS.mp nd).1 (adR a).1,if_pos hk];simp|p::P,w::vs,i+1,m,nd,h1,h2,hk=>by show bindL b ((p,w)::P.zip vs) m x=_;unfold bindL;exact tx (i:=i) (aaS.mp nd).2 (by simpa using h1) (by simpa using h2) hk
theorem tE {b:Str->Option acw}{x:Str}{v:Value}:∀{P:List Str} {vs:List Value} {i:Nat} {m:Str->Option Value},P.Nodup->P[i]? = some x->vs[i]? = some v->b x≠some .local ->
  bindC b (P.zip vs) m x=some v
 | [],_,_,_,_,h,_,_=>by simp at h|_::_,[],_,_,_,_,h,_=>by simp at h|p::P,w::vs,0,m,nd,h1,h2,hk=>by simp at h1 h2;subst h1;subst h2;show bindC b ((p,w)::P.zip vs) m p=_;unfold bindC;rw[tw λv a=>(aaS.mp nd).1 (adR a).1,if_neg hk];simp|p::P,w::vs,i+1,m,nd,h1,h2,hk=>by show bindC b ((p,w)::P.zip vs) m x=_;unfold bindC;exact tE (i:=i) (aaS.mp nd).2 (by simpa using h1) (by simpa using h2) hk
noncomputable def start (N:List Str)(vs:List V):St:=vs.map some++aap (N.length-vs.length) none
noncomputable def l7 (lx:Lx)(CX:nz)(P:aaG)(w:World)(K:aat)(mg:Str->Option Value)(base:Heap)(N:List Str)(d:Str)(scope:Scope)(f:Addr)(h:Value)(A:aaL)(outer:List Env)(s:aac)(H:Hp)(E:XK):Cx where
 prog:=P
 w:=w
 K:=K
 mg:=mg
 base:=base
 A:=A.deeper (aeC d scope s.heap.objs.size f h)
 N:=N
 s₀:=s
 H₀:=H
 env:=aeC d scope s.heap.objs.size f h
 outer:=outer
 stack:=aeC d scope s.heap.objs.size f h::outer
 ex:=[]
 calm:=true
 fn:=λ_=>true
 pn:=[]
 lx:=lx
 xe:=λe c=>wpAny (model P w) (A.deeper (aeC d scope s.heap.objs.size f h)) (leaving (aeC d scope s.heap.objs.size f h) e) (λ_ a=>CX outer H s E e a) (λb a=>CX outer H s E b a) c
theorem vn {sc:Scope}{n:Nat}{x:Str}(h:sc.names.lookup x=some .cell):∃c,(abQ n sc.names []).lookup x=some c:=by have q:=af7 sc.names n [] (.inl h);exact adU.mp q
theorem BN {lx:Lx}{CX:nz}{P:aaG}{w:World}{K:aat}{mg:Str->Option Value}{base:Heap}{N ps:List Str}{C:Str}{scope:Scope}{f:Addr}{J:Value}{A:aaL}{B:List Env}{s s1:aac}{H:Hp}{E:XK}{us:List Value}{vs:List V}
   (S:jI N ps scope) (L:A.handled=none) (I:pR P w K mg base A B s H) (M:vs.length=ps.length) (r:Vals vs us)
   (x:InCallC s s.heap.objs.size (bindL (aeC C scope s.heap.objs.size f J).kindOf (ps.zip us) λ_=>none) (abQ (s.heap.objs.size+1) scope.names []) (bindC (aeC C scope s.heap.objs.size f J).kindOf (ps.zip us) λ_=>none) s1):
   Inv (l7 lx CX P w K mg base N C scope f J A B s H E) [] (start N vs) H s1:=by
 have eK:ps.length<=N.length:=by have:=congrArg ahn S.pre;rw[aa2]at this;omega
 obtain⟨o,tk,rfl,hk⟩:=x.done;have qy:∀b:Addr,b ∉ (l7 lx CX P w K mg base N C scope f J A B s H E).ex:=λb z=>absurd (show b∈([]:List Addr) from z) (by simp);refine⟨⟨I.mod,S.kind,rfl,rfl,aal _,λy z c o d=>?_,λy j=>?_,λy c _ h=>?_,λ_=>L,agr I.frames,.inr ⟨rfl,rfl⟩,λb z=>absurd z (qy b),I.bs,I.nj,λb _ _=>qy b,λb z=>absurd z (qy b),I.gU,I.qt⟩,
   rfl,I.bare,Un.kept hk,⟨_,x.toInCall.ns,λi y v o d h3=>?_⟩,λy c h=>⟨_,x.cell y c h⟩,I.aU.fresh (aal _),λy c h=>?_,λp l=>absurd (show p∈([]:List (Addr×Obj)) from l) (by simp),I.aU.kept hk,?_⟩
 . exact name_of_addr x.apart (aaT o) (aaT d)
 . have j:scope.names.lookup y=some .cell\/scope.names.lookup y=some .free:=j
   rcases j with j|j
   . exact vn j
   . exact absurd rfl (S.LU _ (aaT j))
 . exact adp (x.above y c (aaT h))
 . have hi:i<vs.length:=by
     unfold start at d;by_cases hi:i<vs.length
     . exact hi
     . rw[aaJ (by simpa using hi)]at d
       rw[afR]at d;split at d<;>cases d
   have ha:vs[i]? = some v:=by
     unfold start at d;rw[aan (by simpa using hi),aaP]at d;cases e:vs[i]? with
     |none=>rw[e]at d;cases d|some a=>rw[e]at d;cases d;rfl
   obtain⟨u,hu,rv⟩:=r.get ha;have l:ps[i]? = some y:=by rw[<- S.pre,aaK (by omega)];exact o
   have Sj:ps.Nodup:=by rw[<- S.pre];exact S.nd.sublist (afl _ _)
   refine⟨u,rv,?_⟩;rcases S.par y (aaO l)with k|k
   . exact .inl ⟨k,tx Sj l hu k⟩
   . obtain⟨c,e⟩:=vn (n:=s.heap.objs.size+1) k
     refine .inr ⟨.inl k,c,e,?_⟩;have q:=x.cell y c e;rw[tE Sj l hu (by show scope.names.lookup y≠_;rw[k];decide)]at q;exact q
 . exact I.aU.fresh (adp (x.above y c (aaT h)))
 . unfold start
   show _=N.length;rw[aai,aaI,acy];omega
theorem Qz {lx:Lx}{CX:nz}{P:aaG}{w:World}{K:aat}{mg:Str->Option Value}{base:Heap}{k:Nat}{f:Addr}{name B:Str}{C:ady}{body:List Stmt}{scope:Scope}{T kV M R L ct X:Value}{O od:Option Addr}
  {Y:Array (Option Value)} {N ps:List Str} {sp:Sp} (lk:K.lookup f=some ⟨X,od,.func (acs name B C body scope T kV M R O L ct),Y⟩) (U:ad2 K L B=true) (S:jI N ps scope)
  (len:∀vs H Q E,sp vs H Q E->vs.length=ps.length)
  (Z:∀(A:aaL) (outer:List Env) (s:aac) (H:Hp) (vs:List V) (Q:VK) (E:XK),cX k (A.deeper (aeC B scope s.heap.objs.size f L))->sp vs H Q E ->
    ∃t,gW (l7 lx CX P w K mg base N B scope f L A outer s H E) body t/\t { nx:=λ_ H'=>Q .ax H',rt:=Q } (start N vs) H):
  dU P w K mg base CX (k+1) f (acs name B C body scope T kV M R O L ct) ps sp:=by
 refine⟨len,λA outer s H args us vs Q E i c hb r l=>?_⟩;have hl:=len _ _ _ _ l;have j:K.In s.heap:=c.mod.qr.keeps λb o e=>(c.bs b o e).1;have lim:s.heap.NoLimit:=c.mod.nolimit.keeps λb o e=>(c.bs b o e).1;have p:∀y∈ps.zip us,scope.names.lookup y.1=some .local\/(scope.names.lookup y.1=some .cell/\((abQ (s.heap.objs.size+1) scope.names []).lookup y.1).isSome=true):=λ⟨n,v⟩ z=>by
  rcases S.par n (adR z).1 with q|q
  . exact .inl q
  . exact .inr ⟨q,af7 _ _ _ (.inl q)⟩
 refine codeAny_call_function i.depth (j _ _ lk) rfl S.co S.gen rfl (PySem.W.codeRec_of j U) (hb _ _ _ _ ?_);refine wpAny_newFunctionEnv_cells S.kind p λenv he s1 x=>?_;subst he;refine⟨lim.keeps x.toInCall.keep,codeAny_func ?_⟩;obtain⟨t,ht,hq⟩:=Z A outer s H vs Q E (i.deeper _) l;have I:Inv (l7 lx CX P w K mg base N B scope f L A outer s H E) [] (start N vs) H s1:=BN S i.hd c hl r x;refine aex (ht [] s1 (start N vs) H _ I hq) (λfl s' a=>?_) λe s' a=>a;have fin:∀{d:St} {H':Hp} {v:V} {u:Value},Inv (l7 lx CX P w K mg base N B scope f L A outer s H E) [] d H' s'->RelV v u->Q v H'->CE outer P w H s Q u s' :=
  fun {d H' v u} J h q=>⟨v,H',J.os,J.bare,J.base,J.aU,h,q⟩
 cases fl with
 |ret u =>
  obtain⟨v,d,H',J,h,q⟩:=a;exact fin J h q
 |next =>
  obtain⟨d,H',J,q⟩:=a;exact fin (v:=V.ax) (u:=acg) J rfl q
 |brk =>
  obtain⟨_,_,_,q⟩:=a;exact ab6 q
 |cont =>
  obtain⟨_,_,_,q⟩:=a;exact ab6 q
section
variable {X:Cx}{x:Str}{p pos:Pos}{e:Expr}{es:List Expr}{t:TA}{id T:String}{r:List V->Hp->VK->Prop}
noncomputable def Sk (r:List V->Hp->VK->Prop)(t:TA):TE:=λσ H Q=>t σ H λa H1=>r a H1 Q
theorem vp (k:dk X (.builtin id) r)(j:Gl X x)(q:X.mg x=none)(n:acr x=some (.builtin id))(l:PA X (e::es) t)(u:x ≠ "__name__")(o:(x == ("__debug__":Str))=false)
  (i:aay (e::es) X.env=(false,eval e X.env)::aay es X.env) (f:(acm pos (aay es X.env)).any (·.1)=false):PE X (.Call (.Name x p) (e::es) [] pos) (Sk r t):=by
 intro b0 s σ H Q I h;refine ab4 (gX I j q n ?_ u o);exact aeD (aY (l pos b0 s σ H _ I h) λus s1 ⟨d,H1,a,b,c⟩=>k b0 s1 σ H1 d us Q a b c) i f
theorem BO (k:dk X (.type T) r)(j:Gl X x)(q:X.mg x=none)(n:acr x=some (.type T))(l:PA X (e::es) t)(u:x ≠ "__name__")(o:(x == ("__debug__":Str))=false)
  (i:aay (e::es) X.env=(false,eval e X.env)::aay es X.env) (f:(acm pos (aay es X.env)).any (·.1)=false):PE X (.Call (.Name x p) (e::es) [] pos) (Sk r t):=by
 intro b0 s σ H Q I h;refine ab4 (gX I j q n ?_ u o);exact ab2 (aY (l pos b0 s σ H _ I h) λus s1 ⟨d,H1,a,b,c⟩=>k b0 s1 σ H1 d us Q a b c) i f
end
end L2
namespace HT
open PyProof.Rows
section
open PySem.SeqAt
open PySem.AutoSeq1 (wpAny_loadPart')
open PySem.MeetsSeq PySem.MeetsSeq2 PySem.MeetsSeq3
end
section
variable {prog:aaG}{w:World}{A:aaL}{E:Value->aac->Prop}{s:aac}
theorem IU {t b:Addr}{vs p:List Value}{Q:Value->aac->Prop}(v:IsTup s.heap t vs.toArray)(x:IsTup s.heap b p.toArray)(q:vs ≠ [])
   (r:p = []->Q (.ref t) s) (u:p ≠ []->Q (.ref s.heap.objs.size) { s with heap:=s.heap.push { cls:=.type "tuple",data:=.seq (vs++p).toArray } })
   (y:vs.length+p.length<=aax):wpAny (model prog w) A (abJ .Add (.ref t) (.ref b)) Q E s:=by
 obtain⟨⟨cls,h,data,f⟩,c,l,n,hd⟩:=id v;obtain⟨⟨o,k,data2,d⟩,a,i,j,hd2⟩:=id x;simp only at l hd i hd2;subst l hd i hd2;have e:vs.toArray++p.toArray=(vs++p).toArray:=by simp
 by_cases hw:p = []
 . exact afG ⟨_,c,rfl⟩ ⟨_,a,rfl⟩ afH agD aed ad8 (adV _ _)
    (tuple_addW1 t b vs.toArray p.toArray n j h k f d (by simpa using q) (by simp[hw])) ⟨c,a,r hw⟩
 . refine afG ⟨_,c,rfl⟩ ⟨_,a,rfl⟩ afH agD aed ad8 (adV _ _)
    (tuple_addW2 t b vs.toArray p.toArray n j h k f d (by simpa using q) (by simpa using hw) (by rw[aar,aar];exact y)) ⟨c,a,?_⟩
   rw[e];exact u hw
noncomputable def bf (n d:Nat):Option Int->Nat
 |none=>d|some v=>if v<0 then(v+(n:Int)).toNat else min v.toNat n
theorem l8 (n d:Nat):bf n d none=d:=rfl
theorem yw (n d k:Nat):bf n d (some (k:Int))=min k n:=by show(if(k:Int)<0 then((k:Int)+(n:Int)).toNat else min (k:Int).toNat n)=min k n;rw[if_neg (by omega),abi]
theorem LV (n d:Nat)(a:d<=n)(o:Option Int):bf n d o<=n:=by
 cases o with
 |none=>exact a
 |some v =>
  show(if v<0 then(v+(n:Int)).toNat else min v.toNat n)<=n;by_cases hv:v<0
  . rw[if_pos hv];omega
  . rw[if_neg hv];exact Nat.min_le_right _ _
theorem yx (v:Int)(n d:Nat):(if v<0 then max (v+(n:Int)) 0 else min v (n:Int))=((bf n d (some v):Nat):Int):=by
 show(if v<0 then max (v+(n:Int)) 0 else min v (n:Int))=(((if v<0 then(v+(n:Int)).toNat else min v.toNat n):Nat):Int);by_cases hv:v<0
 . simp only[if_pos hv];omega
 . simp only[if_neg hv];omega
theorem Ac (c b:Option Int)(n:Nat):adS c b 1 (n:Int)=(((bf n 0 c:Nat):Int),((bf n n b:Nat):Int)):=by
 have a:¬((1:Int)<0):=by omega
 unfold adS;simp only[a,if_false];refine Prod.ext ?_ ?_
 . cases c with
   |none=>rfl|some v=>exact yx v n 0
 . cases b with
   |none=>rfl|some v=>exact yx v n n
theorem Ad (i j:Nat):acV (i:Int) (j:Int) 1=j-i:=by
 unfold acV;have a:(1:Int)>0:=by omega
 simp only[a,if_true,Int.ediv_one];split<;>omega
theorem qz {v:Value}{o:Option Int}{Q:Option Int->aac->Prop}(p:aeE v o)(h:Q o s):wpAny (model prog w) A (Builtin.Slice.slicePartIndex v) Q E s:=by
 cases p with
 |none=>exact slicePart_none h|int i t=>exact slicePart_int h
theorem jU {j:Addr}{f i:Value}{d e:Option Int}{n:Nat}{Q:Int×Int×Nat->aac->Prop}(l:s.heap.IsSliceOf j f i .none)(o:aeE f d)(k:aeE i e)
  (h:Q (((bf n 0 d:Nat):Int),1,bf n n e-bf n 0 d) s):wpAny (model prog w) A (afe (.ref j) (pure (n:Int))) Q E s:=by
 obtain⟨os,a,c,b⟩:=id l;unfold afe Builtin.Slice.sliceFields;refine aaa (aaa (ab1 a b (x:=f) rfl (aaa (ab1 a b (x:=i) rfl (aaa (ab1 a b (x:=.none) rfl (aad ?_)))))));refine aaa (slicePart_none ?_);show wpAny _ _ (if((1:Int)== 0)=true then _ else _) _ _ s;rw[if_neg (by decide)];refine aaa (qz o (aaa (qz k (aaa (aad ?_)))));show wpAny _ _ (match adS d e 1 (n:Int)with| (d,e)=>pure (d,(1:Int),acV d e 1)) _ _ s;rw[Ac d e n];show wpAny _ _ (pure (((bf n 0 d:Nat):Int),(1:Int),acV ((bf n 0 d:Nat):Int) ((bf n n e:Nat):Int) 1)) _ _ s;rw[Ad];exact aad h
theorem ER (xs:Array Value)(i k:Nat):((aba k).filterMap λ(m:Nat)=>xs[((i:Int)+(m:Int)*1).toNat]?).toArray=((xs.toList.drop i).take k).toArray:=by
 have e:(λ(m:Nat)=>xs[((i:Int)+(m:Int)*1).toNat]?)=λm=>xs[i+m]?:=by
  funext m;have:((i:Int)+(m:Int)*1).toNat=i+m:=by omega
  rw[this]
 rw[e];have:=pick_run xs i k;rw[List.filterMap_map]at this;have a:((λx=>xs[x]?) ∘ λx=>i+x)=λm=>xs[i+m]?:=rfl;rw[a]at this;rw[this]
theorem oY {t p:Addr}{items:Array Value}{r u:Value}{l n:Option Int}{Q:Value->aac->Prop}(o:IsTup s.heap t items)(v:s.heap.IsSliceOf p r u .none)(y:aeE r l)(x:aeE u n)
  (hw:¬(bf items.size 0 l=0/\bf items.size items.size n=items.size))
  (h:Q (.ref s.heap.objs.size) { s with heap:=s.heap.push { cls:=.type "tuple",data:=.seq ((items.toList.drop (bf items.size 0 l)).take (bf items.size items.size n-bf items.size 0 l)).toArray } })
  (z:items.size<=aax):wpAny (model prog w) A (aeS (.ref t) (.ref p)) Q E s:=by
 have a:sizeOk (.seq ((items.toList.drop (bf items.size 0 l)).take (bf items.size items.size n-bf items.size 0 l)).toArray):=by show((items.toList.drop (bf items.size 0 l)).take (bf items.size items.size n-bf items.size 0 l)).toArray.size<=aax;rw[aar,aa2,afI,adQ];omega
 have f:bf items.size items.size n<=items.size:=LV _ _ (aal _) n;obtain⟨os,e,c,i⟩:=id v;have b:s.TypeIs (.ref p) "slice":=⟨os,e,c⟩
 unfold aeS;try with_reducible refine aaW ?_
 first|refine aaa (aad ?_)|skip
 refine aaa (aea o.typeIs (by decide) ?_);refine aaa (abh (name:=aaD "__getitem__") o.typeIs abI
  (aa6 abI o.typeIs agH ?_ (args_tuple_getitem _ _)))
 show wpAny _ _ (adI (.ref t) >>= _) _ _ s;refine aaa (tupleItemsOf_ o ?_);refine aaa (adt b ?_);rw[if_pos (by decide)];refine aaa (jU v y x ?_);have d:¬((((bf items.size 0 l:Nat):Int)== 0&&(1:Int)== 1&&(bf items.size items.size n-bf items.size 0 l)== items.size)=true):=by intro q;rw[aae,aae]at q;have k:((bf items.size 0 l:Nat):Int)=0:=eq_of_beq q.1.1;have j:bf items.size items.size n-bf items.size 0 l=items.size:=eq_of_beq q.2;exact hw ⟨by omega,by omega⟩
 show wpAny _ _ (if(((bf items.size 0 l:Nat):Int)== 0&&(1:Int)== 1&&(bf items.size items.size n-bf items.size 0 l)== items.size)=true then _ else _) _ _ s;rw[if_neg d,ER];first
  |exact aaa (m:=ac4 _) (abH (aad ⟨_,rfl,aad h⟩) a)
  |exact aaa (m:=ac4 _) (abH (aaa (aad (aad ⟨_,rfl,aad h⟩))) a)
  |exact aaa (aaa (m:=ac4 _) (abH (aad (aad ⟨_,rfl,aad h⟩)) a))
  |exact aaa (aaa (m:=ac4 _) (abH (aad ⟨_,rfl,aad h⟩) a))
end
end HT
namespace L2
open PyProof.Rows
abbrev TO:=St->Hp->(Option Int->Hp->Prop)->Prop
noncomputable def PO (X:Cx)(e:Option Expr)(t:TO):Prop :=
 ∀(b0:List (Addr×Obj)) (s:aac) (σ:St) (H:Hp) (Q:Option Int->Hp->Prop),Inv X b0 σ H s->t σ H Q ->
  wpAny (model X.prog X.w) X.A (evalPart e X.env) (λu a=>∃o H',Inv X b0 σ H' a/\aeE u o/\Q o H') X.xe s
noncomputable def IV:TO:=λ_ H Q=>Q none H
noncomputable def QA (t:TE):TO:=λσ H Q=>t σ H λx H1=>∃i,x = .int i/\Q (some i) H1
section
variable {X:Cx}{e:Expr}{te:TE}{lo hi:Option Expr}{tl th:TO}{pos p2:Pos}
theorem IW:PO X none IV:=by intro b0 s σ H Q I h;rw[evalPart_none];exact aad ⟨none,H,I,.none,h⟩
theorem IX (h:PE X e te):PO X (some e) (QA te):=by intro b0 s σ H Q I hw;rw[evalPart_some];refine aY (h b0 s σ H _ I hw) λu s1 ⟨x,H1,a,b,c⟩=>?_;obtain⟨i,rfl,q⟩:=c;obtain⟨t,rfl⟩:=b;exact⟨some i,H1,a,.int i t,q⟩
def pj (X:Cx)(r:V->Option Int->Option Int->Hp->VK->Prop):Prop :=
 ∀(b0:List (Addr×Obj)) (s:aac) (σ:St) (H:Hp) (x:V) (v vl vu:Value) (lo hi:Option Int) (sl:Addr) (Q:VK),Inv X b0 σ H s->RelV x v->s.heap.IsSliceOf sl vl vu .none->aeE vl lo->aeE vu hi->r x lo hi H Q ->
  ∃T id,typeLookup (.type T) "__getitem__" = pure (some (.builtin id))/\s.TypeIs v T/\wpAny (model X.prog X.w) X.A (aeS v (.ref sl)) (EP X b0 σ Q) X.xe s
theorem pj.or {r i:V->Option Int->Option Int->Hp->VK->Prop}(h:pj X r)(h':pj X i):pj X (λx lo hi H Q=>r x lo hi H Q\/i x lo hi H Q):=by
 intro b0 s σ H x v b f lo hi e Q I c a d pu q;rcases q with q|q
 . exact h b0 s σ H x v b f lo hi e Q I c a d pu q
 . exact h' b0 s σ H x v b f lo hi e Q I c a d pu q
noncomputable def YB (r:V->Option Int->Option Int->Hp->VK->Prop)(te:TE)(tl th:TO):TE:=λσ H Q=>te σ H λx H1=>tl σ H1 λl b=>th σ b λu a=>r x l u a Q
theorem ES {r:V->Option Int->Option Int->Hp->VK->Prop}(B:pj X r)(C:PE X e te)(E:PO X lo tl)(hu:PO X hi th):PE X (.Subscript e (.Slice lo hi none p2) pos) (YB r te tl th):=by intro b0 s σ H Q I h;refine Subscript_ (aY (C b0 s σ H _ I h) λv s1 ⟨x,H1,I1,f,p⟩=>?_);refine wpAny_Slice (aY (E b0 s1 σ H1 _ I1 p) λc s2 ⟨l,H2,i,pl,q2⟩=>aY (hu b0 s2 σ H2 _ i q2) λa s3 ⟨u,d,o,pu,j⟩=>?_);rw[evalPart_none];refine aad ?_;have n:Inv X b0 σ d { s3 with heap:=s3.heap.push { cls:=.type "slice",data:=.fields #[c,a,.none] } }:=o.kept (t':=s3.toks) λb ob q=>aaf _ q;obtain⟨T,id,y,k,z⟩:=B b0 { s3 with heap:=s3.heap.push { cls:=.type "slice",data:=.fields #[c,a,.none] } } σ d x v c a l u s3.heap.objs.size Q n f (Heap.IsSliceOf.new ..) pl pu j;show wpAny (model X.prog X.w) X.A (subscriptTail e (.Slice lo hi none p2) v (.ref s3.heap.objs.size)) (EP X b0 σ Q) X.xe { s3 with heap:=s3.heap.push { cls:=.type "slice",data:=.fields #[c,a,.none] } };exact tail_any (ops:=[.ref s3.heap.objs.size,v]) k y z (by with_unfolding_all rfl)
def nA (xs:List V)(lo hi:Option Int):List V:=(xs.drop (HT.bf xs.length 0 lo)).take (HT.bf xs.length xs.length hi-HT.bf xs.length 0 lo)
theorem pq (xs:List V)(lo hi:Option Int):(nA xs lo hi).length<=xs.length:=by unfold nA;rw[aa2,afI];omega
def LX (K:aat):V->Option Int->Option Int->Hp->VK->Prop:=λx lo b H Q=>∃a xs,x = .ref a/\eS K H a xs /\
 ¬(HT.bf xs.length 0 lo=0/\HT.bf xs.length xs.length b=xs.length) /\ ∀p,H p=none->Q (.ref p) (upd H p (.tup (nA xs lo b)))
theorem LY:pj X (LX X.K):=by
 intro b0 s σ H x v y n lo c p Q I f i l pu h;obtain⟨a,xs,rfl,k,hw,q⟩:=h;cases f;obtain⟨j,r,d,e⟩:=I.tuple k;have hlen:j.toArray.size=xs.length:=by rw[aar];exact r.length.symm
 refine⟨"tuple",_,abI.lookup,d.typeIs,?_⟩;refine HT.oY d i l pu (by rw[hlen];exact hw) ?_ (by rw[hlen];exact e);rw[hlen];refine⟨.ref s.heap.objs.size,_,I.laid (t':=s.toks) (o:=.tup (nA xs lo c)) (λb u q=>aaf _ q) (aal _) ?_,rfl,q _ (I.aU.fresh (aal _))⟩;exact⟨aa0 (pq xs lo c) e,_,(r.drop (HT.bf xs.length 0 lo)).take (HT.bf xs.length xs.length c-HT.bf xs.length 0 lo),fJ.new _ _⟩
def QB (K:aat):R2:=λx y H Q=>∃a b xs ys,x = .ref a/\y = .ref b/\eS K H a xs/\eS K H b ys/\xs ≠ []/\xs.length+ys.length<=aax /\
 (ys = []->Q (.ref a) H)/\(ys ≠ []->∀p,H p=none->Q (.ref p) (upd H p (.tup (xs++ys))))
theorem Vals.rQ {xs:List V}{us:List Value}(r:Vals xs us):us = []↔ xs = []:=by
 cases r with
 |nil=>simp|cons _ _=>simp
theorem IY:bq X (abJ .Add) (QB X.K):=by intro b0 s σ H x y v u Q I j ry h;obtain⟨a,b,xs,n,rfl,rfl,f,k,hx,e,l,p⟩:=h;cases j;cases ry;obtain⟨au,d,r,_⟩:=I.tuple f;obtain⟨fL,c,i,_⟩:=I.tuple k;refine HT.IU r i (λz=>hx (d.rQ.mp z)) (λz=>⟨.ref a,H,I,rfl,l (c.rQ.mp z)⟩) (λz=>?_) (by rw[<- d.length,<- c.length];exact e);refine⟨.ref s.heap.objs.size,_,I.laid (t':=s.toks) (o:=.tup (xs++n)) (λb ob q=>aaf _ q) (aal _) ?_,rfl,p (λw=>z (c.rQ.mpr w)) _ (I.aU.fresh (aal _))⟩;exact⟨by rw[aai];exact e,_,d.append c,fJ.new _ _⟩
end
noncomputable def iu (n:Nat)(i:Int):Option Nat:=if 0<=i then(if i<n then some i.toNat else none)else if -(n:Int)<=i then some (i+n).toNat else none
def bJ {α:Type}(xs:List α)(i:Int):Option α:=(iu xs.length i).bind λj=>xs[j]?
theorem yy {n:Nat}{i:Int}{j:Nat}(h:iu n i=some j):seqIndex? i n=some j/\j<n /\ -(n:Int)<=i/\i<n:=by
 unfold iu at h;by_cases h0:0<=i
 . rw[if_pos h0]at h
   by_cases h1:i<n
   . rw[if_pos h1]at h
     have e:i.toNat=j:=aa_ h;exact⟨by rw[aho h0 h1,e],by omega,by omega,h1⟩
   . rw[if_neg h1]at h;cases h
 . rw[if_neg h0]at h
   by_cases h1:-(n:Int)<=i
   . rw[if_pos h1]at h
     have e:(i+n).toNat=j:=aa_ h;exact⟨by rw[seqIndex_neg (by omega) h1,e],by omega,h1,by omega⟩
   . rw[if_neg h1]at h;cases h
theorem rR {f:Type}{xs:List f}{i:Int}{v:f}(h:bJ xs i=some v):∃j,seqIndex? i xs.length=some j/\xs[j]? = some v/\j<xs.length /\ -(xs.length:Int)<=i/\i<xs.length:=by
 unfold bJ at h;cases e:iu xs.length i with
 |none=>rw[e]at h;cases h
 |some j =>
  rw[e]at h;obtain⟨d,c,a,b⟩:=yy e;exact⟨j,d,h,c,a,b⟩
theorem fW {b:Type}{xs:List b}{j:Nat}{v:b}(h:xs[j]? = some v):bJ xs (j:Int)=some v:=by
 have a:j<xs.length:=(aab.mp h).1;have e:iu xs.length (j:Int)=some j:=by unfold iu;rw[if_pos (by omega),if_pos (by omega)];simp
 unfold bJ;rw[e];exact h
theorem ET {b:Type}(xs:List b)(v:b):bJ (xs ++ [v]) (-1)=some v:=by
 have a:(xs ++ [v]).length=xs.length+1:=by simp
 have e:iu (xs ++ [v]).length (-1)=some xs.length:=by unfold iu;rw[a,if_neg (by decide),if_pos (by omega)];congr 1;omega
 unfold bJ;rw[e];show(xs ++ [v])[xs.length]? = some v;simp
def oB (b:Expr):Prop:=∀o i,subscripted b false o i=operate [o,i] (aeS o i)
def mT (X:Cx)(r:R2):Prop :=
 ∀(value slice:Expr) (b0:List (Addr×Obj)) (s:aac) (σ:St) (H:Hp) (x y:V) (v u:Value) (Q:VK),Inv X b0 σ H s->RelV x v->RelV y u->r x y H Q ->
  subscripted slice false v u=operate [v,u] (aeS v u)->wpAny (model X.prog X.w) X.A (subscriptTail value slice v u) (EP X b0 σ Q) X.xe s
def LZ (X:Cx)(id:String)(r:V->List V->Hp->VK->Prop):Prop :=
 ∀(b0:List (Addr×Obj)) (s:aac) (σ:St) (H:Hp) (x:V) (xs:List V) (v:Value) (us:List Value) (Q:VK),Inv X b0 σ H s->RelV x v->Vals xs us->r x xs H Q ->
  wpAny (model X.prog X.w) X.A (call (.builtin id) (v::us)) (EP X b0 σ Q) X.xe s
section
variable {X:Cx}{a b:Expr}{ta tb:TE}{pos:Pos}
theorem mT.or {r d:R2}(h:mT X r)(h':mT X d):mT X (λx y H Q=>r x y H Q\/d x y H Q):=by
 intro value slice b0 s σ H x y v u Q I b c q a;rcases q with q|q
 . exact h value slice b0 s σ H x y v u Q I b c q a
 . exact h' value slice b0 s σ H x y v u Q I b c q a
theorem GU {r:R2}(i:mT X r)(k:PE X a ta)(l:PE X b tb)(j:oB b):PE X (.Subscript a b pos) (BH r ta tb):=by intro b0 s σ H Q I h;exact Subscript_ (EI k l I h λv u s2 x y f c d e q=>i a b b0 s2 σ f x y v u Q c d e q (j _ _))
def L4 (K:aat):R2:=λx y H Q=>∃p xs i v,x = .ref p/\y = .int i/\cS K H p xs/\bJ xs i=some v/\Q v H
def L5 (K:aat):R2:=λx y H Q=>∃p xs i v,x = .ref p/\y = .int i/\eS K H p xs/\bJ xs i=some v/\Q v H
def L6:R2:=λx y H Q=>∃z i c,x = .str z/\y = .int i/\z.length<=aax/\bJ z.cps.toList i=some c/\Q (.str ⟨#[c]⟩) H
theorem IZ:mT X (L4 X.K):=by
 intro value slice b0 s σ H x y v u Q I f ry h d;obtain⟨p,xs,i,z,rfl,rfl,o,he,q⟩:=h;cases f;obtain⟨t,rfl⟩:=ry;obtain⟨au,r,c,hz⟩:=I.list o;obtain⟨j,a,h2,h3,h4,h5⟩:=rR he;obtain⟨w,e,n⟩:=r.get h2;have k:=r.length;have hn:=lu;have fin:EP X b0 σ Q w s:=⟨z,H,I,n,q⟩
 by_cases h0:0<=i
 . have b:i.toNat=j:=by
    rw[aho h0 h5]at a;exact aa_ a
   exact item_listR c.isList h0 (by omega) (by rw[b];simpa using e) fin d
 . have b:(i+(au.toArray.size:Int)).toNat=j:=by
    rw[seqIndex_neg (by omega) h4]at a;rw[aar,<- k];exact aa_ a
   exact adk (x:=w) c.isList.typeIs slot_list_getitem.lookup
    (wpAny_getItem_list_neg (Q:=λr l=>r=w/\EP X b0 σ Q r l) c.isList (by omega) (by rw[aar]<;>omega) (by omega) (by rw[b];simpa using e) ⟨rfl,fin⟩) d
theorem L7:mT X (L5 X.K):=by
 intro value slice b0 s σ H x y v u Q I c o h f;obtain⟨p,xs,i,z,rfl,rfl,l,he,q⟩:=h;cases c;obtain⟨t,rfl⟩:=o;obtain⟨au,r,a,hz⟩:=I.tuple l;obtain⟨j,b,h2,h3,h4,h5⟩:=rR he;obtain⟨w,n,k⟩:=r.get h2;have d:=r.length;have hn:=lu;have fin:EP X b0 σ Q w s:=⟨z,H,I,k,q⟩
 exact adk (x:=w) a.typeIs abI.lookup
  (getItem_tuple (j:=j) (Q:=λr e=>r=w/\EP X b0 σ Q r e) a (by omega) (by omega) (by rw[aar,<- d];exact b) (by simpa using n) ⟨rfl,fin⟩) f
theorem L8:mT X L6:=by
 intro value slice b0 s σ H x y v u Q I e n h k;obtain⟨z,i,c,rfl,rfl,hz,he,q⟩:=h;obtain⟨t,rfl⟩:=e;obtain⟨r,rfl⟩:=n;obtain⟨j,a,p,h3,l,o⟩:=rR he;have f:z.cps.toList.length=z.length:=by simp[Str.length]
 rw[f]at a l o;have hn:=lu;exact tail_any (typeIs_str s z t) slot_str_getitem.lookup (getItem_str (c:=c) (by have b:decide (i < -(2 ^ 63:Int))=false:=decide_eq_false (by omega);have d:decide (i>=2 ^ 63)=false:=decide_eq_false (by omega);rw[b,d,adJ]) (by rw[a];simpa using p) ⟨.str ⟨#[c]⟩,H,I.tok _,⟨_,rfl⟩,q⟩) k
def YC (K:aat):R2:=λx y H Q=>L4 K x y H Q\/L5 K x y H Q\/L6 x y H Q
theorem BQ:mT X (YC X.K):=IZ.or (L7.or L8)
theorem Ae (c:List Value)(n j:Nat)(u:Value):acW (·.setIfInBounds j u) { cls:=.type "list",data:=.seq c.toArray n }={ cls:=.type "list",data:=.seq (c.set j u).toArray n }:=by simp[acW]
theorem Inv.lst {b0:List (Addr×Obj)}{σ:St}{H:Hp}{s:aac}{p:Addr}{xs:List V}(I:Inv X b0 σ H s)(h:H p=some (.lst xs)):
  ∃(au:List Value) (n:Nat),Vals xs au/\s.heap.get? p=some { cls:=.type "list",data:=.seq au.toArray n }/\xs.length<=aax:=by
 obtain⟨z,au,n,r,e⟩:=I.aU p _ h;exact⟨au,n,r,e,z⟩
theorem Inv.L9 {b0:List (Addr×Obj)}{σ:St}{H:Hp}{s:aac}{p:Addr}{xs ys:List V}{i its':List Value}{n c:Nat}{f:Obj->Obj}(I:Inv X b0 σ H s)(h:H p=some (.lst xs))
  (j:s.heap.get? p=some { cls:=.type "list",data:=.seq i.toArray n }) (d:f { cls:=.type "list",data:=.seq i.toArray n }={ cls:=.type "list",data:=.seq its'.toArray c }) (r:Vals ys its') (hz:ys.length<=aax) (t:Nat):
  Inv X b0 σ (upd H p (.lst ys)) { s with heap:=s.heap.update p f,toks:=t }:=by
 have e:(s.heap.update p f).get? p=some { cls:=.type "list",data:=.seq its'.toArray c }:=by rw[abO f j (by rw[d]<;>rfl),d]
 refine I.write (x:=p) (e:=p) (by rw[h];trivial) (.inl rfl) (λb u a q=>(acu _ _ (aaN a)).trans q) ⟨_,e⟩ ?_;exact⟨hz,its',c,r,e⟩
def QC:V->V->V->Hp->(Hp->Prop)->Prop:=λo i v H Q=>∃p xs k j,o = .ref p/\i = .int k/\H p=some (.lst xs)/\iu xs.length k=some j/\Q (upd H p (.lst (xs.set j v)))
theorem set_list:EE X QC:=by
 intro b0 s σ H o i v ov iv u Q I ro z rv h;obtain⟨p,xs,k,j,rfl,rfl,y,hj,q⟩:=h;cases ro;obtain⟨t,rfl⟩:=z;obtain⟨x,n,r,c,hz⟩:=I.lst y;obtain⟨a,h2,f,l⟩:=yy hj;have b:=r.length;have hn:=lu
 have e:Inv X b0 σ (upd H p (.lst (xs.set j v))) { s with heap:=s.heap.update p (acW (·.setIfInBounds j u)) }:=
   I.L9 y c (Ae x n j u) (r.set rv j) (by rw[acB];exact hz) s.toks
 by_cases h0:0<=k
 . have d:k.toNat=j:=by
    rw[aho h0 l]at a;exact aa_ a
   exact PySem.W.ki_setAt c h0 (by omega) (by rw[aar,<- b];exact l) (by rw[d];exact⟨_,e,q⟩)
 . have d:(k+(x.toArray.size:Int)).toNat=j:=by
    rw[seqIndex_neg (by omega) f]at a;rw[aar,<- b];exact aa_ a
   exact PySem.W.ki_setBack c (by omega) (by rw[aar,<- b];exact f) (by omega) (by rw[d];exact⟨_,e,q⟩)
theorem vt (d c:Option Int)(n:Nat):(adP d c none n).1=((HT.bf n 0 d:Nat):Int)/\(adP d c none n).2.1=((HT.bf n n c:Nat):Int)/\(adP d c none n).2.2=1:=by
 refine⟨?_,?_,rfl⟩
 . cases d with
   |none=>simp[adP,HT.bf]
   |some i =>
    simp only[adP,HT.bf,ahy,show(1:Int)>0 by decide,if_true];by_cases h:i<0
    . simp only[h,if_true]<;>omega
    . simp only[h,if_false]<;>omega
 . cases c with
   |none=>simp[adP,HT.bf]
   |some i =>
    simp only[adP,HT.bf,ahy,show(1:Int)>0 by decide,if_true];by_cases h:i<0
    . simp only[h,if_true]<;>omega
    . simp only[h,if_false]<;>omega
theorem uB (d:List Value)(e f:Option Int):slicePick d.toArray e f none=((d.drop (HT.bf d.length 0 e)).take (HT.bf d.length d.length f-HT.bf d.length 0 e)).toArray:=by obtain⟨c,b,a⟩:=vt e f d.toArray.size;unfold slicePick;rw[c,b,a];simp only[sliceRange_one,pick_run,aar]<;>rfl
def L_ (K:aat):V->Option Int->Option Int->Hp->VK->Prop:=λx lo b H Q=>∃a xs,x = .ref a/\cS K H a xs /\ ∀p,H p=none->Q (.ref p) (upd H p (.lst (nA xs lo b)))
theorem I_:pj X (L_ X.K):=by intro b0 s σ H x v y l lo c n Q I e f k pu h;obtain⟨a,xs,rfl,j,q⟩:=h;cases e;obtain⟨p,r,d,i⟩:=I.list j;have hlen:=r.length;refine⟨"list",_,slot_list_getitem.lookup,d.isList.typeIs,?_⟩;refine wpAny_getItem_list_slice d.isList f k pu .none (by simp) ?_ (by rw[aar]<;>omega);rw[uB,<- hlen];refine⟨.ref s.heap.objs.size,_,I.laid (t':=s.toks) (o:=.lst (nA xs lo c)) (λb u q=>aaf _ q) (aal _) ?_,rfl,q _ (I.aU.fresh (aal _))⟩;exact⟨aa0 (pq xs lo c) i,_,0,(r.drop (HT.bf xs.length 0 lo)).take (HT.bf xs.length xs.length c-HT.bf xs.length 0 lo),aaq _ rfl⟩
noncomputable def jx:V->Bool
 |.ax=>true|.bl _=>true|.int _=>true|.str _=>true|_=>false
noncomputable def tH:V->V->Bool
 |.ax,.ax=>true|.bl a,.bl b=>a == b|.bl a,.int b=>(if a then 1 else 0)== b|.int a,.bl b=>a == (if b then 1 else 0)|.int a,.int b=>a == b|.str a,.str b=>a == b|_,_=>false
theorem Ma {A:aaL}{s:aac}{y x:V}{u v:Value}(f:RelV y u)(d:RelV x v)(h:jx y=true)(e:jx x=true):SeqAt.EqAt A s u v (tH y x):=by
 cases y with
 |ax =>
  cases f;cases x with
  |ax=>cases d;exact SeqAt.EqAt.same _|bl b=>cases d;exact SeqAt.EqAt.none_bool b|int b=>obtain⟨t,rfl⟩:=d;exact SeqAt.EqAt.none_int b t
  |str b=>obtain⟨t,rfl⟩:=d;exact SeqAt.EqAt.none_str b t
  |_=>exact absurd (show false=true from e) abK
 |bl a =>
  cases f;cases x with
  |ax=>cases d;exact SeqAt.EqAt.bool_none a|bl b=>cases d;exact SeqAt.EqAt.bool_bool a b|int b=>obtain⟨t,rfl⟩:=d;exact SeqAt.EqAt.bool_int a b t
  |str b=>obtain⟨t,rfl⟩:=d;exact SeqAt.EqAt.bool_str a b t
  |_=>exact absurd (show false=true from e) abK
 |int a =>
  obtain⟨c,rfl⟩:=f;cases x with
  |ax=>cases d;exact SeqAt.EqAt.int_none a c|bl b=>cases d;exact SeqAt.EqAt.int_bool a c b|int b=>obtain⟨t,rfl⟩:=d;exact SeqAt.EqAt.int_int a c b t
  |str b=>obtain⟨t,rfl⟩:=d;exact agO a c b t
  |_=>exact absurd (show false=true from e) abK
 |str a =>
  obtain⟨c,rfl⟩:=f;cases x with
  |ax=>cases d;exact SeqAt.EqAt.str_none a c|bl b=>cases d;exact SeqAt.EqAt.str_bool a c b|int b=>obtain⟨t,rfl⟩:=d;exact agP a c b t
  |str b=>obtain⟨t,rfl⟩:=d;exact SeqAt.EqAt.str_str a c b t
  |_=>exact absurd (show false=true from e) abK
 |_=>exact absurd (show false=true from h) abK
def GV (x:V)(u:Value):Bool:=match u with
 |.none=>tH .ax x|.bool b=>tH (.bl b) x|.int i _=>tH (.int i) x|.str z _=>tH (.str z) x|_=>false
theorem BR {x y:V}{u:Value}(r:RelV y u)(f:jx y=true):GV x u=tH y x:=by
 cases y with
 |ax=>cases r;rfl|bl b=>cases r;rfl|int i=>obtain⟨t,rfl⟩:=r;rfl
 |str z=>obtain⟨t,rfl⟩:=r;rfl
 |_=>exact absurd (show false=true from f) abK
theorem vx {A:aaL}{s:aac}{x:V}{v:Value}(c:RelV x v)(d:jx x=true):∀{xs:List V} {us:List Value},Vals xs us->xs.all jx=true->∀u∈us,SeqAt.EqAt A s u v (GV x u)
 |_,_,.nil,_=>λu hu=>by cases hu
 |y::xs,u::us,.cons r t,f=>λa hu=>by
  rw[adK,aae]at f;rcases aah.mp hu with rfl|hu
  . rw[BR r f.1];exact Ma r c f.1 d
  . exact vx c d t f.2 a hu
theorem vy:dk X (.builtin "len") (λxs H Q=>∃p ys,xs = [.ref p]/\(cS X.K H p ys\/eS X.K H p ys)/\Q (.int ys.length) H):=by
 intro b0 s σ H xs us Q I r h;obtain⟨p,ys,rfl,a,q⟩:=h;obtain⟨u,rfl,d⟩:=vals1 r;cases d;have i:=lu;rcases a with a|a
 . obtain⟨e,b,c,f⟩:=I.list a
   have hlen:=b.length;exact Calls.call_len_list c.isList (by simp only[aar]<;>omega) ⟨.int ys.length,H,I.tok _,⟨s.toks+1,by rw[aar,hlen]⟩,q⟩
 . obtain⟨e,b,c,f⟩:=I.tuple a
   have hlen:=b.length;exact len_tuple c (by simp only[aar]<;>omega) ⟨.int ys.length,H,I.tok _,⟨s.toks+1,by rw[aar,hlen]⟩,q⟩
theorem mU:dk X (.type "tuple") (λxs H Q=>∃p ys,xs = [.ref p]/\((cS X.K H p ys /\ ∀l,H l=none->Q (.ref l) (upd H l (.tup ys)))\/(eS X.K H p ys/\Q (.ref p) H))):=by
 intro b0 s σ H xs us Q I r h;obtain⟨p,ys,rfl,h⟩:=h;obtain⟨u,rfl,n⟩:=vals1 r;cases n;rcases h with⟨hq,q⟩|⟨hq,q⟩
 . obtain⟨d,c,f,i⟩:=I.list hq
   have hlen:=c.length;refine call_tuple_list f.isList (λa v=>?_) (by simp only[aar]<;>omega);have j:Inv X b0 σ H { s with heap:=a }:=I.kept (t':=s.toks) v;have k:Inv X b0 σ (upd H a.objs.size (.tup ys)) { s with heap:=a.push { cls:=.type "tuple",data:=.seq d.toArray } }:=
    j.laid (t':=s.toks) (λb o e=>aaf _ e) (aal _) (show dj X.prog X.w _ _ _ (.tup ys) from⟨i,d,c,fJ.new _ _⟩)
   exact⟨.ref a.objs.size,_,k,rfl,q _ (j.aU.fresh (aal _))⟩
 . obtain⟨d,c,f,i⟩:=I.tuple hq
   exact call_tuple_same f ⟨.ref p,H,I,rfl,q⟩
def Sl (K:aat)(T:String)(x:V)(H:Hp):Prop:=match x with
 |.str _=>T = "str"|.int _=>T = "int"
 |.ref p=>(T = "list" /\ ∃xs,cS K H p xs)\/(T = "tuple" /\ ∃o,K.lookup p=some o/\o.cls = .type "tuple" /\ o.dict=none) \/
  (T = "dict" /\ ((∃d6,H p=some (.dK d6)) \/ ∃d6,H p=some (.dT d6)))\/(T = "set" /\ ∃S n,H p=some (.set S n))
 |_=>False
theorem BS {b0:List (Addr×Obj)}{σ:St}{H:Hp}{s:aac}{T:String}{x:V}{v:Value}(I:Inv X b0 σ H s)(r:RelV x v)(h:Sl X.K T x H):
  s.TypeIs v T /\ ∀a,v = .ref a->∃ob,s.heap.get? a=some ob/\ob.dict=none:=by
 cases x with
 |str z =>
  obtain⟨t,rfl⟩:=r;cases (show T = "str" from h);exact⟨typeIs_str s z t,λ_ e=>nomatch e⟩
 |int i =>
  obtain⟨t,rfl⟩:=r;cases (show T = "int" from h);exact⟨afs s i t,λ_ e=>nomatch e⟩
 |ref p =>
  cases r;rcases h with⟨rfl,xs,hq⟩|⟨rfl,o,hk,hc,hd⟩|⟨rfl,hk⟩|⟨rfl,S,n,hk⟩
  . obtain⟨f,_,d,_⟩:=I.list hq
    refine⟨d.isList.typeIs,λa e=>?_⟩;cases e;obtain⟨o,n,e,c,hd,_⟩:=d;exact⟨o,e,hd⟩
  . refine⟨⟨o,I.gq p o hk,hc⟩,λa e=>?_⟩
    cases e;exact⟨o,I.gq _ o hk,hd⟩
  . have z:∃o,s.heap.get? p=some o/\o.ExactDict:=by
     rcases hk with⟨d6,hk⟩|⟨d6,hk⟩
     . obtain⟨_,_,_,_,o,_,_,e,ex,_⟩:=I.aU p _ hk
       exact⟨o,e,ex⟩
     . obtain⟨_,_,_,_,o,_,_,e,ex,_⟩:=I.aU p _ hk
       exact⟨o,e,ex⟩
    obtain⟨o,e,ex⟩:=z;refine⟨⟨o,e,ex.1⟩,λa b=>?_⟩;cases b;exact⟨o,e,ex.2.1⟩
  . obtain⟨o,_,_,_,e,ex,_⟩:=I.aU p _ hk
    refine⟨⟨o,e,ex.1⟩,λa b=>?_⟩;cases b;exact⟨o,e,ex.2.1⟩
 |_=>exact ab6 h
noncomputable def YD (K:aat)(T:String)(r:V->List V->Hp->VK->Prop)(c:TE)(t:TA):TE:=λσ H Q=>c σ H λx H1=>Sl K T x H1/\t σ H1 λxs a=>r x xs a Q
variable {o e:Expr}{es:List Expr}{to:TE}{t:TA}{name:Str}{apos cM:Pos}{T id:String}{r:V->List V->Hp->VK->Prop}
theorem QD (u:PlainAttrs T)(slot:Slot T name id)(q:typeOf (.builtin id)=pure (.type "method_descriptor"))(L:LZ X id r)(y:PE X o to)(A:PA X (e::es) t)
  (J:aek o name X.env (eval o X.env)=eval o X.env)
  (z:((acm cM (aay (e::es) X.env)).all (λx=>!x.1)&&(backToKw cM (ahp [] X.env)).all (λx=>x.1.isSome)
   && decide ((e::es).length+([]:List aeT).length+(if([]:List aeT).isEmpty then 0 else 1)<30))=true)
  (E:(apos.endLine == cM.line)=true) (B:aay (e::es) X.env=(false,eval e X.env)::aay es X.env) (C:(acm cM (aay es X.env)).any (·.1)=false):
  PE X (.Call (.Attribute o name apos) (e::es) [] cM) (YD X.K T r to t):=by
 intro b0 s σ H Q I h;refine af8 J z E rfl (aY (y b0 s σ H _ I h) λv s1 ⟨x,H1,c,a,ty,k⟩=>?_);obtain⟨f,p⟩:=BS c a ty;refine⟨T,id,u,slot,q,f,p,?_⟩;have b:=A cM b0 s1 σ H1 _ c k;rw[B]at b ⊢
 refine aee (by show(false||(acm cM (aay es X.env)).any (·.1))=false;rw[C]<;>rfl) (ags ?_)
 exact aY b λus s2 ⟨j,n,d,i,l⟩=>L b0 s2 σ n x j v us Q d a i l
end
def Sm (X:Cx)(id:String)(r:V->List V->Hp->VK->Prop):Prop :=
 ∀(b0:List (Addr×Obj)) (s:aac) (σ:St) (H:Hp) (x:V) (xs:List V) (v:Value) (us:List Value) (Q:VK),Inv X b0 σ H s->RelV x v->Vals xs us->r x xs H Q ->
  wpAny (model X.prog X.w) X.A (call (.builtin id) (v::us)) (EP X b0 σ Q) X.xe s
theorem Vals.one:∀{x:V} {us:List Value},Vals [x] us->∃u,us = [u]/\RelV x u
 |_,_,.cons r .nil=>⟨_,rfl,r⟩
theorem Vals.zero:∀{us:List Value},Vals [] us->us = []
 |_,.nil=>rfl
theorem Vals.rep {xs:List V}{us:List Value}(h:Vals xs us):∀k:Nat,Vals (aap k xs).flatten (aap k us).flatten
 | 0=>.nil|k+1=>by rw[abU,abU,abW,abW];exact Vals.append h (Vals.rep h k)
theorem foldl_rep (b:List Value):∀(k:Nat) (acc:List Value),
  agt (λx1 x2=>x1++x2) acc.toArray (aap k b.toArray)=(acc++(aap k b).flatten).toArray
 | 0,acc=>by simp
 |k+1,acc=>by
  have e:acc.toArray++b.toArray=(acc++b).toArray:=by simp
  have a:(acc++b)++(aap k b).flatten=acc++(aap (k+1) b).flatten:=by rw[abU,abW,aaU]
  rw[<- a,<- foldl_rep b k (acc++b),<- e,abU,ahM]
section
variable {X:Cx}{b0:List (Addr×Obj)}{σ:St}{H:Hp}{s:aac}{l b:Addr}{xs ys zs:List V}
theorem Inv.Mb {c its':List Value}{n:Nat}{f:Array Value->Array Value}{t':Nat}(I:Inv X b0 σ H s)(d:H l=some (.lst xs))
  (e:s.heap.get? l=some { cls:=.type "list",data:=.seq c.toArray n }) (h:f c.toArray=its'.toArray) (i:Vals ys its') (hz:ys.length<=aax):
  Inv X b0 σ (upd H l (.lst ys)) { s with heap:=s.heap.update l (acW f),toks:=t' }:=by
 have q:=PySem.IsL.update e f;rw[h]at q;refine I.write (x:=l) (e:=l) (by rw[d];exact trivial) (.inl rfl) (λb u a hu=>(acu s.heap (acW f) (aaN a)).trans hu) ⟨_,q⟩ ?_;exact⟨hz,its',_,i,q⟩
theorem Inv.Vj {a:List Value}{t':Nat}(I:Inv X b0 σ H s)(c:Vals ys a)(hz:ys.length<=aax):
  Inv X b0 σ (upd H s.heap.objs.size (.lst ys)) { s with heap:=s.heap.push { cls:=.type "list",data:=.seq a.toArray },toks:=t' }:=
 I.laid (λ_ _ q=>aaf _ q) (aal _) ⟨hz,a,0,c,aaq _ rfl⟩
theorem Inv.fresh (I:Inv X b0 σ H s):H s.heap.objs.size=none:=I.aU.fresh (aal _)
theorem Inv.Mc (I:Inv X b0 σ H s)(a:H l=some (.lst xs)):xs.length<=aax /\ ∃(au:List Value) (n:Nat),Vals xs au/\xs.length=au.length/\s.heap.get? l=some { cls:=.type "list",data:=.seq au.toArray n }:=by obtain⟨z,au,n,r,e⟩:=I.aU l _ a;exact⟨z,au,n,r,r.length,e⟩
theorem vB {n:Nat}(h:n<=aax):acf n=false:=by unfold acf;exact decide_eq_false (by omega)
end
section
variable {X:Cx}
def Ja:V->List V->Hp->VK->Prop:=λx a H Q=>∃l xs y,x = .ref l/\a = [y]/\H l=some (.lst xs)/\xs.length<aax/\Q .ax (upd H l (.lst (xs ++ [y])))
theorem tI:Sm X "list.append" Ja:=by intro b0 s σ H x i v us Q I d f h;obtain⟨l,xs,y,rfl,rfl,a,k,q⟩:=h;cases d;obtain⟨u,rfl,c⟩:=f.one;obtain⟨z,b,n,r,j,e⟩:=I.Mc a;refine acX F.slot_list_append ⟨_,e,rfl⟩ F.entry_list_append (F.args_list_append_2 _ _) (PySem.list_append l b.toArray n u (by rw[aar];omega)) ⟨e,?_⟩;refine⟨.ax,_,I.Mb (its':=b ++ [u]) a e (by simp) (r.append (.cons c .nil)) ?_,rfl,q⟩;rw[aai,ace];omega
theorem len_rep {a:Type}(xs:List a)(k:Nat):(aap k xs).flatten.length=k*xs.length:=by
 induction k with
 |zero=>simp|succ k ih=>rw[abU,abW,aai,ih,Nat.succ_mul,Nat.add_comm]
end
end L2
namespace vC
open PySem.W PySem.Calls PyProof.Rows
theorem qB {P:Params}{h:Heap}:∀(ns:List Int) (vs:List Value),WellAll P h vs (ns.map WData.int)->acL vs ns:=by
 intro ns;induction ns with
 |nil =>
  intro vs w;rw[agU]at w;cases w;exact .nil
 |cons n ns ih =>
  intro vs w;rw[aa5]at w;cases w with
  |cons a b =>
   cases a;exact .cons _ _ (ih _ b)
theorem BU {l:adA}{n:Nat}(v:l.most=some n){P:Params}{h:Heap}{args:List WData}{p:List Value}
  (s:l.row.toRowW.claim.pre args=true) (u:WellAll P h p args):
  ∃a vs ns,p = [acZ a]/\args = [WData.list (ns.map WData.int)]/\h.get? a=some { cls:=.type "list",data:=.seq vs.toArray }/\acL vs ns/\ns.length<=n:=by
 have f:WShape.hasAll [] args [.list .int]=true:=(pre_splitW s).1;have e:l.pre.holds [] { args:=args }=true:=(pre_splitW s).2;obtain⟨d,r,rfl,k,o⟩:=hasAllW_cons f;obtain rfl:=hasAllW_nil o;obtain⟨xs,rfl,j⟩:=hasW_list k;obtain⟨ns,rfl⟩:=items_int j;have hlen:ns.length<=n:=by
  unfold OpenLaw.pre at e;have c:(WTm.not (.lt (.lit (.int (n:Int))) (.len (.arg 0)))).holds [] { args:=[.list (ns.map .int)] }=true:=by have c:=(holds_andW e).1;rw[v]at c;exact c
  have b:=condW_of c (w_not (w_lt w_lit (w_len_list (w_arg rfl))));rw[aaI]at b;refine Nat.le_of_not_lt λq=>?_;have i:(n:Int)<((ns.length:Nat):Int):=by omega
  first
   | (rw[decide_eq_true i]at b;exact absurd b (by decide))
   | (simp at b;omega)
 cases u with
 |cons w1 w2 =>
  cases w2;cases w1 with
  |list ho me=>exact⟨_,_,ns,rfl,rfl,ho,qB ns _ me,hlen⟩
theorem BV (l:adA)(args:List WData):l.row.toRowW.claim.post args (.bool true) args=true :=
 postW_of (r:=l.row.toRowW) (X:=(true == true))
  (show WShape.has [] (.bool true) .bool=true by first|rfl|decide|simp[WShape.has,WShape.arms,WShape.armsAll])
  (show(WTm.eq .res (.lit (.bool true))).value [] { args:=args,res:=some (.bool true),after:=args }=some (.bool (true == true)) from w_eq_bool (w_res rfl) w_lit) rfl
theorem yd {l:adA}{n:Nat}{q:aaG}{A:List Str}{C:(Str->Option Value)->Heap->Prop}{B:World->Heap->Prop}{d:DefRec}
  (H:l.most=some n) (E:d.params.defaults = [])
  (call:∀(w:World) (s₀ s₁:aac) (mg mb:Str->Option Value) (fa:Addr) (o:Obj) (pm cd doc:Value) (a:Addr) (vs:List Value) (ns:List Int),
   Ground q A [] C w s₀ mg mb s₁.heap->B w s₁.heap ->
   s₁.heap.get? fa=some o->o.data = .func (docDef d.name d.params d.body d.scope pm cd doc)->s₁.heap.CodeRec cd d.name->mg d.name=some (.ref fa) ->
   s₁.heap.get? a=some { cls:=.type "list",data:=.seq vs.toArray }->acL vs ns->ns.length<=n->s₁.gens = #[] ->
   adO (model l.prog w) aeU (.call (.ref fa) ⟨[.ref a],[]⟩) (λr s'=>r = .ok (.ret (.bool true))/\OldK s₁.heap s'.heap/\s'.os=s₁.os/\aer s'.gens) s₁):
  WalkO q A C B l.row.toRowW d [] (λf vs=>agu f vs):=by
 intro w s₀ s₁ mg mb G Y fa o pm cd doc h kV u hd i hD c j args vals as v b YE s z;obtain rfl:h = .none:=Dflts.none hD E;obtain rfl:kV = .none:=Dflts.noKw hD;obtain⟨a,vs,ns,rfl,rfl,x,hints,hlen⟩:=BU H v s;refine enter_call (ads (call w s₀ s₁ mg mb fa o pm cd doc a vs ns G Y u (fd_plain hd) i c x hints hlen j) λr s' p=>?_);obtain⟨rfl,y,e,k⟩:=p;exact⟨.inl ⟨.bool true,.bool true,[],rfl,λ_=>rfl,.bool true,BV l _,λ_=>⟨ahc,λ_ hm=>(nomatch hm)⟩⟩,y,e,k⟩
end vC
namespace L2
open PyProof.Rows
theorem iY:∀{vs:List Value} {ns:List Int},acL vs ns->Vals (ns.map V.int) vs
 |_,_,.nil=>.nil|_,_,.cons n t h=>.cons ⟨t,rfl⟩ (iY h)
def Vk (H:Hp):Prop:=∀b,H b=none\/(∃o xs,H b=some (.mS o (.lst xs))) \/ ∃p q,H b=some (.bU p q)
structure TabsOk (K:aat)(ts:List Addr)(lx:Lx):Prop where
 hd:∀q∈lx.tb,∃c,adB K c q.1=true
 out:∀q∈lx.tb,K.lookup q.1=none
 mem:∀q∈lx.tb,q.1∈ts
 nd:(lx.tb.map (·.1)).Nodup
noncomputable def ly (l:List (Addr×Pos×Str)):Hp:=λb=>(l.lookup b).map λq=>.bU q.1 q.2
theorem rS:∀{l:List (Addr×Pos×Str)} {q:Addr×Pos×Str},(l.map (·.1)).Nodup->q∈l->ly l q.1=some (.bU q.2.1 q.2.2)
 |x::l,q,nd,h=>by
  unfold ly;rw[aaX];rw[aa5,aaS]at nd;rcases aah.mp h with rfl|h
  . simp
  . rw[show(q.1 == x.1)=false from beq_eq_false_iff_ne.mpr λe=>nd.1 (by rw[<- e];exact abV h)]
    exact rS nd.2 h
theorem nC:∀{l:List (Addr×Pos×Str)} {b:Addr} {u:HO},ly l b=some u->∃q∈l,q.1=b/\u = .bU q.2.1 q.2.2
 | [],b,u,h=>by cases h
 |x::l,b,u,h=>by
  unfold ly at h;rw[aaX]at h;split at h
  . rename_i e
    cases h;exact⟨x,aaC,(eq_of_beq e).symm,rfl⟩
  . obtain⟨q,m,r⟩:=nC (l:=l) h
    exact⟨q,aau _ m,r⟩
theorem EV {P:aaG}{w:World}{K:aat}{mg L:Str->Option Value}{CX:nz}{k:Nat}{J a:Addr}{R:abN}{x:Str}{sp:Sp}{s₁:aac}{vs:List Value}{ns:List Int}{lx:Lx}{Q:List Addr}
  (I:K.In s₁.heap) (O:s₁.heap.Ns aaZ mg) (A:s₁.heap.Ns afr L) (GX:∀x:Str,x ≠ "__name__"->L x=acr x) (Z:s₁.heap.NoLimit) (T:∃bm ob,BMod s₁.heap aaZ mg bm ob) (W:s₁.gens = #[])
  (E:s₁.heap.get? a=some { cls:=.type "list",data:=.seq vs.toArray }) (M:acL vs ns) (N:ns.length<=aax) (C:cX k aeU) (TO:TabsOk K Q lx) (X:∀P∈Q,s₁.heap.get? P=some (acK #[]))
  (F:∀base:Heap,K.In base->base.Ns aaZ mg->dU P w K mg base CX k J R [x] sp) (Y:∀(s:aac) (u:Value),ag8 s R ⟨[u],[]⟩ [(x,u)])
  (S:∀H:Hp,cS K H a (ns.map V.int)->(∀q∈lx.tb,H q.1=some (.bU q.2.1 q.2.2))->sp [.ref a] H (λv _=>v = .bl true) λ_ _ _=>False)
  (U:∀H e s',CX [] H s₁ (λ_ _ _=>False) e s'->False):
  adO (model P w) aeU (.call (.ref J) ⟨[.ref a],[]⟩) (λr s'=>r = .ok (.ret (.bool true))/\OldK s₁.heap s'.heap/\s'.os=s₁.os/\aer s'.gens) s₁:=by
 have rv:=iY M;have Vm:=M.length;have tabs:∀q∈lx.tb,s₁.heap.get? q.1=some (acK #[]):=λq i=>X _ (TO.mem q i);have core:∀H:Hp,Vk H->cS K H a (ns.map V.int)->d7 P w H s₁.heap->(∀b,H b≠none->b=a \/ ∃q∈lx.tb,q.1=b)->(H a≠none->K.lookup a=none)->(∀q∈lx.tb,H q.1=some (.bU q.2.1 q.2.2)) ->
    adO (model P w) aeU (.call (.ref J) ⟨[.ref a],[]⟩) (λr s'=>r = .ok (.ret (.bool true))/\OldK s₁.heap s'.heap/\s'.os=s₁.os/\aer s'.gens) s₁:=by
  intro H hO hS aU hA hK YG;have f:∀{b:Addr} {o:Obj},s₁.heap.get? b=some o->H b=none->(lY s₁.heap H).get? b=some o:=λe n=>EA e n;have So:∀{b:Addr} {o:Obj},s₁.heap.get? b=some o->o≠{ cls:=.type "list",data:=.seq vs.toArray }->o≠acK #[]->H b=none:=fun {b o} e d1 d2=>by
    cases q:H b with
    |none=>rfl
    |some u =>
      rcases hA b (by rw[q];simp)with e'|⟨r,C,e'⟩
      . subst e';rw[E]at e;exact absurd (aa_ e).symm d1
      . have:=tabs r C;rw[e',e]at this;exact absurd (aa_ this) d2
  have qy:∀{b:Addr} {o:Obj} {es:Array aa3} {ep:Nat},s₁.heap.get? b=some o->o.data = .dict es ep->H b=none:=fun {b o es ep} e d=>So e (λz=>by rw[z]at d;cases d) λz=>by rw[z]at d;cases d
  have y:∀{b:Addr} {m:Str->Option Value},s₁.heap.Ns b m->(lY s₁.heap H).Ns b m:=fun {b m} ⟨o,es,ep,e,d,r⟩=>⟨o,es,ep,f e (qy e d),d,r⟩
  have Sq:K.In (lY s₁.heap H):=λb o e=>f (I b o e) (by
    cases q:H b with
    |none=>rfl
    |some u =>
      rcases hA b (by rw[q];simp)with e'|⟨r,C,e'⟩
      . subst e'
        rw[hK (by rw[q];simp)]at e;cases e
      . have:=TO.out r C;rw[e',e]at this;cases this)
  have hM:Mod K mg (lY s₁.heap H):=⟨Sq,y O,⟨L,y A,GX⟩,let⟨mc,h1,h2⟩:=Z;⟨mc,y h1,h2⟩,let⟨bm,ob,B⟩:=T
    ⟨bm,ob,y B.ns,B.name,B.ne,f B.obj (So B.obj (λz=>by have:=B.cls;rw[z]at this;have this:abg "list" = .type "module":=this;exact absurd this (by decide)) λz=>by have:=B.cls;rw[z]at this;exact absurd this (by decide)),B.cls,B.dict,B.data⟩⟩
  have e0:pR P w K mg (lY s₁.heap H) aeU [] s₁ H:=⟨rfl,hM,λb o e=>IC e,agV (Bu _ _),trivial,λb A=>absurd (show b∈([]:List Addr) from A) (by simp),aU,.of_eq W⟩
  refine ads ((F _ Sq (y O)).run aeU [] s₁ H ⟨[.ref a],[]⟩ [.ref a] [.ref a] _ _ C e0 (Y s₁ (.ref a)) (.cons rfl .nil) (S H hS YG)) λr s' h=>?_;cases r with
  |error e=>exact(U H e s' h).elim
  |ok fl =>
    cases fl with
    |next=>exact ab6 h|brk=>exact ab6 h|cont=>exact ab6 h
    |ret u =>
      obtain⟨v,H',os,bare,un,Mh,r',q⟩:=h;have q':v = .bl true:=q;subst q';obtain rfl:u=afq true:=r';have key:∀b o,s₁.heap.get? b=some o->s'.heap.get? b=some o\/(∃r∈lx.tb,r.1=b) /\ ∃j,s'.heap.get? b=some (acK j):=λb o e=>by
        cases q:H b with
        |none=>exact .inl (un.keep b o e q (by intro z;exact absurd (show b∈([]:List Addr) from z) (by simp)) (by simp))
        |some u =>
          rcases hO b with z|⟨ob,xs,z⟩|⟨p,q',z⟩
          . rw[q]at z;cases z
          . have z2:=un.jP b ob _ z
            obtain⟨l,_⟩:=aU b _ z;obtain⟨e2,_⟩:=Mh b _ z2;rw[e]at l;cases l;exact .inl e2
          . have z2:=un.jQ b _ rfl z
            obtain⟨j,e2,_⟩:=Mh b _ z2;rcases hA b (by rw[q];simp)with e'|C
            . subst e'
              obtain⟨_,l,_⟩:=aU b _ z;rw[E]at l;cases l
            . exact .inr ⟨C,j,e2⟩
      refine⟨rfl,⟨λb o e=>?_,λb o e=>?_⟩,os,bare⟩
      . rcases key b o e with k|⟨⟨r,C,e'⟩,j,k⟩
        . exact .inl k
        . obtain⟨c,hc⟩:=TO.hd r C
          have hP:=tabs r C;have hC:=(agI I hc).tab hP;rw[e']at hP hC;rw[e]at hP;cases hP;exact .inr (.inl ⟨hC.isCodeTable,rfl,#[],j,rfl,by rw[Array.empty_append];exact k⟩)
      . rcases key b o e with k|⟨_,j,k⟩
        . exact⟨_,k⟩
        . exact⟨_,k⟩
 have Sr:∀q∈lx.tb,q.1≠a:=λq i z=>by have:=tabs q i;rw[z,E]at this;cases this
 have Vn:d7 P w (ly lx.tb) s₁.heap:=λb u z=>by obtain⟨q,i,rfl,rfl⟩:=nC z;exact⟨#[],tabs q i,trivial,.inl rfl⟩
 have GY:∀b,ly lx.tb b=none\/(∃o xs,ly lx.tb b=some (.mS o (.lst xs))) \/ ∃p q,ly lx.tb b=some (.bU p q):=λb=>by
  cases z:ly lx.tb b with
  |none=>exact .inl rfl
  |some u =>
    obtain⟨q,_,_,rfl⟩:=nC z;exact .inr (.inr ⟨_,_,rfl⟩)
 have EW:∀b,ly lx.tb b≠none->∃q∈lx.tb,q.1=b:=λb z=>by
  cases e:ly lx.tb b with
  |none=>exact absurd e z|some u=>obtain⟨q,h1,h2,_⟩:=nC e;exact⟨q,h1,h2⟩
 cases hk:K.lookup a with
 |some o =>
  have e:=I a o hk;rw[E]at e;cases e;refine core (ly lx.tb) GY (.inr ⟨_,vs.toArray,_,hk,rfl,rfl,rfl,by rw[aar,Vm];exact N,by simpa using rv⟩) Vn (λb z=>.inr (EW b z)) (λz=>?_) λq i=>rS TO.nd i;obtain⟨q,i,e⟩:=EW a z;exact absurd e (Sr q i)
 |none =>
  refine core (upd (ly lx.tb) a (.mS { cls:=.type "list",data:=.seq vs.toArray } (.lst (ns.map V.int)))) (λb=>?_) (.inl (.inr ⟨{ cls:=.type "list",data:=.seq vs.toArray },aR⟩)) (λb u z=>?_) (λb z=>?_) (λ_=>hk) λq i=>by rw[aB (Sr q i)];exact rS TO.nd i
  . by_cases A:b=a
    . subst A;exact .inr (.inl ⟨_,_,aR⟩)
    . rw[aB A];exact GY b
  . by_cases A:b=a
    . subst A
      rw[aR]at z;cases z;exact⟨E,by rw[aaI];exact N,vs,_,rv,E⟩
    . rw[aB A]at z
      obtain⟨q,i,rfl,rfl⟩:=nC z;exact⟨#[],tabs q i,trivial,.inl rfl⟩
  . by_cases A:b=a
    . exact .inl A
    . rw[aB A]at z;exact .inr (EW b z)
theorem Jb {l:adA}{n k:Nat}{q:aaG}{A:List Str}{N:(Str->Option Value)->Heap->Prop}{B:World->Heap->Prop}{d:DefRec}{K:Params->aat}{CX:World->nz}{sp:World->Lx->Sp}{x:Str}{C:List Addr}
  (Q:l.most=some n) (L:n<=aax) (M:d.params.defaults = []) (I:cX k aeU)
  (O:∀(w:World) (h:Heap),B w h->(K w.params).In h /\ ∀P∈C,h.get? P=some (acK #[]))
  (F:∀(w:World) (mg:Str->Option Value) (fa:Addr) (h:Heap),(K w.params).In h->h.Ns aaZ mg->mg d.name=some (.ref fa) ->
   ∃(fd:abN) (lx:Lx),TabsOk (K w.params) C lx/\(∀(s:aac) (u:Value),ag8 s fd ⟨[u],[]⟩ [(x,u)]) /\
    ∀base:Heap,(K w.params).In base->base.Ns aaZ mg->dU l.prog w (K w.params) mg base (CX w) k fa fd [x] (sp w lx))
  (E:∀(w:World) (lx:Lx) (H:Hp) (a:Addr) (ns:List Int),ns.length<=n->cS (K w.params) H a (ns.map V.int)->(∀q∈lx.tb,H q.1=some (.bU q.2.1 q.2.2))->sp w lx [.ref a] H (λv _=>v = .bl true) λ_ _ _=>False)
  (J:∀(w:World) (H:Hp) (s:aac) (e:Value) (s':aac),CX w [] H s (λ_ _ _=>False) e s'->False):
  agE q A N B l.row.toRowW d [] (λf vs=>agu f vs):=by
 refine vC.yd Q M λw s₀ p mg mb fa o pm cd doc a vs ns G Y ho hd ju i EU hints hlen hg=>?_;obtain⟨c,Mf⟩:=O w _ Y;obtain⟨fd,lx,TO,r,hF⟩:=F w mg fa _ c G.T.g i;obtain⟨bm,ob,b1,b2,j,b4,b5,y⟩:=G.T.bmain;exact EV c G.T.g G.T.b G.T.builtins G.T.nolimit ⟨bm,ob,G.T.g,b1,b2,j,b4,b5,y⟩ hg EU hints (aa0 hlen L) I TO Mf hF r (λH z hT=>E w lx H a ns hlen z hT) λH e s'=>J w H p e s'
noncomputable def fX (s:Stmt):ady:=match s with
 |.FunctionDef _ a _ _ _ _ _ _ _ _=>a|_=>{ posonlyargs:=[],args:=[],vararg:=none,kwonlyargs:=[],kw_defaults:=[],kwarg:=none,defaults:=[] }
noncomputable def dQ (s:Stmt):List Stmt:=match s with
 |.FunctionDef _ _ b _ _ _ _ _ _ _=>b|_=>[]
noncomputable def aX (s:Stmt):Scope:=match s with
 |.FunctionDef _ _ _ _ _ _ sc _ _ _=>sc|_=>{ kind:=.function,names:=[],isGenerator:=false,isCoroutine:=false }
noncomputable abbrev gY:nz:=λ_ _ _ _ _ _=>False
noncomputable abbrev E0:XK:=λ_ _ _=>False
theorem Ag {X:Cx}:Passes gY X E0:=λ_ _ _ _ _ _ _ h=>h.elim
structure yz (K:aat)(x qual:Str)(st:Stmt)(f:Addr)(fd:abN):Prop where
 ex:∃(oc:Value) (od:Option Addr) (kV doc pm:Value) (an:Option Addr) (de ct:Value) (vo:Array (Option Value)),
  fd=acs x qual (fX st) (dQ st) (aX st) .none kV doc pm an de ct/\K.lookup f=some ⟨oc,od,.func fd,vo⟩/\ad2 K de qual=true
 kp:ach K (.ref f)=true
section
variable {P:aaG}{w:World}{K:aat}{mg:Str->Option Value}{base:Heap}
theorem yz.ok {lx:Lx}{x n:Str}{o:Stmt}{f:Addr}{p:abN}{N ps:List Str}{k:Nat}{sp:Sp}(F:yz K x n o f p)(S:jI N ps (aX o))(len:∀vs H Q E,sp vs H Q E->vs.length=ps.length)
  (r:∀(de:Value) (A:aaL) (outer:List Env) (s:aac) (H:Hp) (vs:List V) (Q:VK) (E:XK),p.code=de->cX k (A.deeper (aeC n (aX o) s.heap.objs.size f de))->sp vs H Q E ->
   ∃t,gW (l7 lx gY P w K mg base N n (aX o) f de A outer s H E).vi (dQ o) t/\t { nx:=λ_ H'=>Q .ax H',rt:=Q } (start N vs) H):dU P w K mg base gY (k+1) f p ps sp:=by
 obtain⟨l,j,kV,doc,pm,an,de,e,i,rfl,c,a⟩:=F.ex;refine Qz (lx:=lx) c a S len λA outer s H vs Q E d b=>?_;obtain⟨t,h,q⟩:=r de A outer s H vs Q E rfl d b;exact⟨t,h.vi,q⟩
theorem BX {x a:Str}{b:Stmt}{f:Addr}{n:Value}{o h:Option Addr}{j:Array (Option Value)}{kV d i e ct:Value}(l:K.lookup f=some ⟨n,o,.func (acs x a (fX b) (dQ b) (aX b) .none kV d i h e ct),j⟩)
 (c:ad2 K e a=true) (k:ach K (.ref f)=true):yz K x a b f (acs x a (fX b) (dQ b) (aX b) .none kV d i h e ct):=⟨⟨n,o,kV,d,i,h,e,ct,j,rfl,l,c⟩,k⟩
end
end L2
namespace SW
open PyProof.Rows
theorem jJ:Slot "set_iterator" "__next__" "set_iterator.__next__" :=
 .of (owner:="set_iterator") (n:="__next__") (by rw[aeF,adu];kernel_rfl) (by decide +kernel) (by decide +kernel) (by decide +kernel)
  (by first|exact .inl (by decide +kernel)|exact .inr (by decide +kernel)) (by rw[isSubtype_type];kernel_rfl)
theorem yA:entryFor table "set_iterator.__next__" = some ab5.«set_iterator.__next__»:=entryFor_of_tree (by kernel_rfl)
theorem yB (a:Value):argsOk "set_iterator.__next__" ⟨[a],[]⟩:=by unfold argsOk;kernel_rfl
theorem Jc:entryFor table "set.__iter__" = some ab5.«frozenset.__iter__» :=
 entryFor_alias (id':="frozenset.__iter__") (by kernel_rfl) rfl (by decide +kernel) (by kernel_rfl)
noncomputable def pw (slot i:Nat)(a:Addr)(n b:Nat):Obj:={ cls:=.type "set_iterator",data:=.fields #[ac3 slot,ac3 i,.ref a,ac3 n,ac3 b] }
noncomputable def iw (es:Array (Int×Value))(a:Nat)(t:adW):Obj:={ cls:=.type "set",data:=.set es a t }
section
variable {prog:aaG}{w:World}{A:aaL}{E:Value->aac->Prop}{s:aac}{I a:Addr}{es:Array (Int×Value)}{ep:Nat}{t:adW}{slot i:Nat}
theorem vE {slot':Nat}{hh:Int}{Q:Option (Value×Nat)->aac->Prop}(e:s.heap.get? a=some (iw es ep t))(f:t.fits es.size=true)
  (l:w.params.followText "set-order" = false) (h:t.led=true) (d:t.plain=true)
  (k:Q (match es[aaF t.place slot]?,t.place[aaF t.place slot]? with|some (_,x),some j=>some (x,j+1)|_,_=>none) s):wpAny (model prog w) A (ad3 a slot i ep) Q E s:=by
 unfold ad3;refine aaa (adm e rfl f ?_);dsimp only;unfold agv;refine aaa (aaa (ac5 (aad ?_)));have c:(ah6 ⟨(model prog w).prog,(model prog w).w.params⟩).followText "set-order" = false:=l;rw[c];simp only[aaz,if_false];have dr:¬(!t.plain&&decide (es.size>1))=true:=by simp[d]
 show wpAny _ _ (if(!t.plain&&decide (es.size>1))=true then _ else _) _ _ s;rw[if_neg dr];have b:¬(!t.led && !es.isEmpty)=true:=by simp[h]
 show wpAny _ _ ((if(!t.led && !es.isEmpty)=true then unsupported "set:maker-not-led" else pure ()) >>= _) _ _ s;rw[if_neg b];exact aaa (aad (aad k))
theorem tK {Q:Option (Value×Nat)->aac->Prop}(f:s.heap.get? a=some (iw es ep t))(d:t.fits es.size=true)
  (j:w.params.followText "set-order" = true)
  (h:Q (((adX (w.params.setOrder a ep) es)[i]?).map λe=>(e.2,slot)) s):wpAny (model prog w) A (ad3 a slot i ep) Q E s:=by
 have b:(ah6 ⟨(model prog w).prog,(model prog w).w.params⟩).followText "set-order" = true:=j;unfold ad3;refine aaa (adm f rfl d ?_);dsimp only;unfold agv;refine aaa (aaa (ac5 (aad ?_)));rw[b];have c:(ep != ep)=false:=by simp
 simp only[if_true,c,aaz,if_false];refine aaa ?_;unfold setWalk agv;refine aaa (adm f rfl d ?_);dsimp only;refine aaa (aaa (ac5 (aad ?_)));rw[b];simp only[if_true];refine aaa (ac5 ?_);exact aad (aad h)
theorem BY {x:Value}{e:Nat}{Q:Option Value->aac->Prop}(f:s.heap.get? I=some (pw slot i a es.size ep))(h:s.heap.get? a=some (iw es ep t))(j:t.fits es.size=true)
   (l:∀(A:aaL) (E:Value->aac->Prop) (Q:Option (Value×Nat)->aac->Prop),Q (some (x,e)) s->wpAny (model prog w) A (ad3 a slot i ep) Q E s)
   (k:∀h',h'.get? I=some (pw e (i+1) a es.size ep)->acN I s.heap h'->Q (some x) { s with heap:=h' }):wpAny (model prog w) A (adq (.ref I)) Q E s:=by
 have b:s.TypeIs (.ref I) "set_iterator":=⟨_,f,rfl⟩
 unfold adq;refine aaa (aff (abh (name:=aaD "__next__") b jJ (aa6 jJ b yA ?bd (yB _))));unfold ab5.«set_iterator.__next__»;refine aaa (aad ?_);refine aaa (wpAny_fieldsOf f rfl ?_);show wpAny _ _ (setEntries a >>= _) _ _ s;refine aaa (aeO h rfl j ?_);have d:(((es.size:Nat):Int) != ((es.size:Nat):Int))=false:=by simp
 dsimp only;rw[d];simp only[aaz,if_false];show wpAny _ _ (ad3 a (ae6 (slot:Int)) (ae6 (i:Int)) (ae6 (ep:Int)) >>= _) _ _ s;rw[abi,abi,abi];refine aaa (l _ _ _ ?_);dsimp only;refine aaa (ad4 f rfl (by simp) ?_)
 have c:=abO (Obj.mapFields (·.setIfInBounds 0 (ac3 (e:Int)))) f (by rfl)
 refine aaa (ad4 c (vs:=#[ac3 (e:Int),ac3 i,.ref a,ac3 es.size,ac3 ep]) (by rfl) (by simp) ?_);refine aad ⟨x,rfl,aad (k _ ?_ ?_)⟩
 . exact(abO (Obj.mapFields (·.setIfInBounds 1 (ac3 ((i:Int)+1)))) c (by rfl)).trans rfl
 . exact(acb ..).trans (acb ..)
theorem BZ {Q:Option Value->aac->Prop}(hh:A.handled=none)(e:s.heap.get? I=some (pw slot i a es.size ep))(f:s.heap.get? a=some (iw es ep t))(h:t.fits es.size=true)
  (k:∀(A:aaL) (E:Value->aac->Prop) (Q:Option (Value×Nat)->aac->Prop),Q none s->wpAny (model prog w) A (ad3 a slot i ep) Q E s)
  (j:∀h',aeZ I s.heap h'->Q none { s with heap:=h' }):wpAny (model prog w) A (adq (.ref I)) Q E s:=by
 have c:s.TypeIs (.ref I) "set_iterator":=⟨_,e,rfl⟩
 unfold adq;refine aaa (aff (abh (name:=aaD "__next__") c jJ (aa6 jJ c yA ?bd (yB _))));unfold ab5.«set_iterator.__next__»;refine aaa (aad ?_);refine aaa (wpAny_fieldsOf e rfl ?_);show wpAny _ _ (setEntries a >>= _) _ _ s;refine aaa (aeO f rfl h ?_);have d:(((es.size:Nat):Int) != ((es.size:Nat):Int))=false:=by simp
 dsimp only;rw[d];simp only[aaz,if_false];show wpAny _ _ (ad3 a (ae6 (slot:Int)) (ae6 (i:Int)) (ae6 (ep:Int)) >>= _) _ _ s;rw[abi,abi,abi];refine aaa (k _ _ _ ?_);dsimp only;refine aaa (ad4 e rfl (by simp) ?_);refine aaa ?_;simp only[newExc,newTuple];refine aaa (abH ?_ (by size_fits));refine aaa (m:=aeV _ _) (ahq (a:=acg) (by first|rfl| (simp only[aeV];rfl)) ?_);refine abH ?_ (by size_fits);simp only[raiseNew];refine aaa (wpAny_handled ?_);rw[show A.in1.handled=none from hh];refine aaa (aad (wpAny_throw ?_));refine aaa (aem (T:="StopIteration") (b:=true) ⟨_,aaq _ rfl,rfl⟩ isSubtype_stop ?_);exact aad (j _ (((acb ..).extBut.push _).push _))
end
theorem yC:Slot "set_iterator" "__iter__" "set_iterator.__iter__" :=
 .of (owner:="set_iterator") (n:="__iter__") (by rw[aeF,adu];kernel_rfl) (by decide +kernel) (by decide +kernel) (by decide +kernel)
  (by first|exact .inl (by decide +kernel)|exact .inr (by decide +kernel)) (by rw[isSubtype_type];kernel_rfl)
theorem Jd:entryFor table "set_iterator.__iter__" = some ab5.«dict_keyiterator.__iter__» :=
 entryFor_alias (id':="dict_keyiterator.__iter__") (by kernel_rfl) rfl (by decide +kernel) (by kernel_rfl)
theorem Je (a:Value):argsOk "set_iterator.__iter__" ⟨[a],[]⟩:=by unfold argsOk;kernel_rfl
section
variable {prog:aaG}{w:World}{A:aaL}{E:Value->aac->Prop}{s:aac}{I a:Addr}{es:Array (Int×Value)}{ep:Nat}{t:adW}{slot i:Nat}
theorem B1 {Q:Value->aac->Prop}(c:s.heap.get? I=some (pw slot i a es.size ep))(h:Q (.ref I) s):wpAny (model prog w) A (agf (.ref I)) Q E s:=by
 have b:s.TypeIs (.ref I) "set_iterator":=⟨_,c,rfl⟩
 refine wpAny_pyIter_slot b yC (aa6 yC b Jd ?_ (Je _));show wpAny _ _ (ret (.ref I)) _ _ s;exact aad ⟨_,rfl,"set_iterator",_,b,jJ.lookup,h⟩
structure Way (prog:aaG)(w:World)(a:Addr)(es:Array (Int×Value))(ep:Nat)(t:adW)(ord:List Value)(ok:Nat->Nat->Prop):Prop where
 fit:t.fits es.size=true
 len:ord.length=es.size
 zero:ok 0 0
 step:∀i slot,i<es.size->ok i slot->∃x nq,ord[i]? = some x/\ok (i+1) nq /\ ∀(s:aac) (A:aaL) (E:Value->aac->Prop) (Q:Option (Value×Nat)->aac->Prop),s.heap.get? a=some (iw es ep t)->Q (some (x,nq)) s->wpAny (model prog w) A (ad3 a slot i ep) Q E s
 stop:∀slot,ok es.size slot->∀(s:aac) (A:aaL) (E:Value->aac->Prop) (Q:Option (Value×Nat)->aac->Prop),s.heap.get? a=some (iw es ep t)->Q none s->wpAny (model prog w) A (ad3 a slot es.size ep) Q E s
theorem walks {B:List Value}{ok:Nat->Nat->Prop}(W:Way prog w a es ep t B ok)(hh:A.handled=none)(C:a≠I):
  Walks prog w A I [I,a] [I] es.size (λi v=>B[i]? = some v) (λi h=>(∃slot,ok i slot/\h.get? I=some (pw slot i a es.size ep))/\h.get? a=some (iw es ep t)) where
 sub:=λb d=>by simp at d;simp[d]
 frame:=λ_ _ _ st n=>⟨let⟨f,q,e⟩:=st.1;⟨f,q,n I (by simp) _ e⟩,n a (by simp) _ st.2⟩
 item:=λi s Q E y st j=>by obtain⟨⟨f,q,e⟩,c⟩:=st;obtain⟨x,p,hx,z,u⟩:=W.step i f y q;refine BY e c W.fit (λA E Q h=>u s A E Q c h) λk r l=>?_;exact j _ k s.toks hx ⟨⟨p,z,r⟩,l.extBut a _ C c⟩ λb o d e=>l.extBut b o (λh=>d (by simp[h])) e
 done:=λs Q E st j=>by obtain⟨⟨f,q,e⟩,c⟩:=st;exact BZ hh e c W.fit (λA E Q h=>W.stop f q s A E Q c h) λk he=>j k s.toks λb o d e=>he b o (λh=>d (by simp[h])) e
 self:=λi s Q E st j=>by obtain⟨⟨f,q,e⟩,c⟩:=st;exact B1 e j
theorem yD {b:Type}:∀(l:List b) (i:Nat) (h:i<l.length),(l[i]::l.eraseIdx i).Perm l
 |x::l,0,h=>by simp|x::l,i+1,h=>by have:=yD l i (by simpa using h);simp only[List.getElem_cons_succ,List.eraseIdx_cons_succ];exact(ah9 _ _ _).trans (this.cons x)
theorem yE {b:Type}(f:Nat->Nat):∀(n k:Nat) (l:List b) (out:Array b),n=l.length->(agW f n k l out).toList.Perm (out.toList++l)
 | 0,k,l,out,h=>by have:l = []:=acJ.mp h.symm;subst this;simp[agW]
 |n+1,k,l,out,h=>by
  have a:0<l.length:=by omega
  have hm:=Nat.mod_lt (f k) a;rw[agW,aag hm];dsimp only;refine(yE f n (k+1) _ _ (by rw[List.length_eraseIdx_of_lt hm];omega)).trans ?_;rw[Array.toList_push,aaU,agh];exact List.Perm.append_left _ (yD l _ hm)
theorem tL {b:Type}(f:Nat->Nat)(xs:Array b):(adX f xs).toList.Perm xs.toList:=by have:=yE f xs.size 0 xs.toList #[] (by simp);simpa[adX]using this
theorem Vo (j:t.fits es.size=true)(k:w.params.followText "set-order" = true):Way prog w a es ep t ((adX (w.params.setOrder a ep) es).toList.map (·.2)) (λ_ slot=>slot=0):=by
 have f:(adX (w.params.setOrder a ep) es).toList.length=es.toList.length:=(tL _ es).length_eq;have e:(adX (w.params.setOrder a ep) es).size=es.size:=by simpa using f
 refine⟨j,by simp[e],rfl,λi slot h h0=>?_,λslot h0 s A E Q b c=>?_⟩
 . subst h0
   have d:i<(adX (w.params.setOrder a ep) es).size:=by omega
   refine⟨(adX (w.params.setOrder a ep) es)[i].2,0,by simp[d],rfl,λs A E Q b c=>?_⟩;refine tK b j k ?_;rw[aa1 d];exact c
 . subst h0
   refine tK b j k ?_;rw[af9 (by omega)];exact c
theorem Vp (f:t.fits es.size=true)(n:w.params.followText "set-order" = false)(l:t.led=true)(k:t.plain=true)(p:t.place.size=es.size)(o:aaF t.place 0=0)
   (hw:∀i j,t.place[i]? = some j->aaF t.place (j+1)=i+1):Way prog w a es ep t (es.toList.map (·.2)) (λi slot=>aaF t.place slot=i):=by
 refine⟨f,by simp,o,λi slot d h=>?_,λslot h s A E Q b c=>?_⟩
 . have e:i<t.place.size:=by omega
   refine⟨es[i].2,t.place[i]+1,by simp[d],hw i _ (aa1 e),λs A E Q b c=>?_⟩;refine vE (slot':=0) (hh:=0) b f n l k ?_;rw[h,aa1 d,aa1 e];exact c
 . refine vE (slot':=0) (hh:=0) b f n l k ?_
   rw[h,af9 (by omega)];exact c
end
theorem EX:typeLookup (.type "set") "__len__" = pure (some (.builtin "set.__len__")):=by rw[aeF,adu];kernel_rfl
section
variable {prog:aaG}{w:World}{A:aaL}{E:Value->aac->Prop}{s:aac}{I a:Addr}{es:Array (Int×Value)}{ep:Nat}{t:adW}{slot i:Nat}
theorem B2 {Q:Bool->aac->Prop}(c:s.heap.get? a=some (iw es ep t))(b:t.fits es.size=true)(d:w.params.followText "set-order" = true\/t.plain=true)(f:Q false s):wpAny (model prog w) A (setDrawn a) Q E s:=by
 unfold setDrawn;refine aaa (adm c rfl b ?_);dsimp only;unfold agv;refine aaa (aaa (ac5 (aad ?_)));have e:(!w.params.followText "set-order" && (!t.plain&&decide (es.size>1)))=false:=by rcases d with h|h<;>simp[h]
 refine aad ?_;show Q (!w.params.followText "set-order" && (!t.plain&&decide (es.size>1))) s;rw[e];exact f
theorem EY {Q:Value->aac->Prop}(c:s.heap.get? a=some (iw es ep t))(d:t.fits es.size=true)(e:w.params.followText "set-order" = true\/t.plain=true)
  (f:Q (.ref s.heap.objs.size) { s with heap:=s.heap.push (pw 0 0 a es.size ep) }):wpAny (model prog w) A (agf (.ref a)) Q E s:=by
 have b:s.TypeIs (.ref a) "set":=⟨_,c,rfl⟩
 refine wpAny_pyIter_slot b F.slot_set_iter (aa6 F.slot_set_iter b Jc ?_ (F.args_set_iter_1 _));unfold ab5.«frozenset.__iter__» ajw slotArgs;simp only[List.isEmpty_nil,aaA,aaz,↓reduceIte,bind_assoc,afZ,bne_self_eq_false];unfold ai8 ai9;refine aaa (aad ?_);try dsimp only
 refine aaa (aad ?_);refine aaa (aaa (aeO c rfl d (aad ?_)));refine aaa (B2 c d e ?_);simp only[aaz,if_false];refine aaa (aad ?_);refine aaa (wpAny_setEpoch_of c rfl d ?_);refine aaa (m:=newFields _ _) (abH ?_);exact aad ⟨_,rfl,"set_iterator",_,⟨_,aaq _ rfl,rfl⟩,jJ.lookup,f⟩
set_option maxHeartbeats 4000000 in
theorem ye {ord:List Value}{ok:Nat->Nat->Prop}{Q:List Value->aac->Prop}(W:Way prog w a es ep t ord ok)(hh:A.handled=none)(B:s.heap.get? a=some (iw es ep t))(C:w.params.followText "set-order" = true\/t.plain=true)(K:es.size<=aax)
   (J:∀(h':Heap) (tk:Nat),s.heap.objs.size<h'.objs.size->(∀b o,s.heap.get? b=some o->h'.get? b=some o)->Q ord { s with heap:=h',toks:=tk }):wpAny (model prog w) A (ac2 (.ref a)) Q E s:=by
 have y:a<s.heap.objs.size:=aas B;have i:s.heap.objs.size≠a:=λe=>abY _ (e ▸ y);unfold ac2;refine aaa (wpAny_runValue (acC F.entry_proto_collect ?_));rw[aci F.plain_proto_collect _];show wpAny _ A.in1 (newList [] >>= λl=>again (.builtin "list.__iadd__" ⟨[l,.ref a],[]⟩)) _ _ s;refine aaa (abH ?_);refine aad ⟨adL F.plain_list_iadd _,acC F.entry_list_iadd ?_⟩;rw[aci F.plain_list_iadd _];show wpAny _ A.in1 (ae7 (.ref s.heap.objs.size) (.ref a) (.ref s.heap.objs.size)) _ _ _;unfold ae7;have p:(s.heap.push { cls:=.type "list",data:=.seq ([]:List Value).toArray }).get? a=some (iw es ep t):=aaf _ B;refine aaa (adt (T:="set") ⟨_,p,rfl⟩ ?_);have h1:afJ (.ref s.heap.objs.size) (.ref a)=false:=by simp[afJ,i]
 have h2:(abg "set" == abg "list")=false:=by decide
 have h3:(abg "set" == abg "tuple")=false:=by decide
 simp only[h1,h2,h3,adJ,aaz,if_false];refine aaa (EY p W.fit C ?_);refine aaa (aaW ?_);generalize f:s.heap.push { cls:=.type "list",data:=.seq ([]:List Value).toArray }=H at *;have n:H.objs.size=s.heap.objs.size+1:=by rw[<- f,ab_]
 have d:(H.push (pw 0 0 a es.size ep)).get? a=some (iw es ep t):=aaf _ p;unfold Builtin.List.listLengthHint;refine aaa (af0 (T:="set") ⟨_,d,rfl⟩ EX ?_)
 wp_delta
 refine aaa (aem (T:="set") (v:=.ref a) (b:=true) ⟨_,d,rfl⟩ sub_set_self ?_);show wpAny _ A.in1 (typeOf (acZ a) >>= _) _ _ _;refine aaa (adt (T:="set") (v:=.ref a) ⟨_,d,rfl⟩ ?_);refine aad ?_;show wpAny _ A.in1 (rule "list.extend.makes-room" >>= λ_=>Builtin.List.listTouch (.ref s.heap.objs.size) >>= λ_ =>
   again (.builtin "list.extend.loop" ⟨[.ref s.heap.objs.size,.ref H.objs.size,.ref s.heap.objs.size],[]⟩)) _ _ _
 refine aaa (ab8 ?_);have Ss:(H.push (pw 0 0 a es.size ep)).get? s.heap.objs.size=some { cls:=.type "list",data:=.seq ([]:List Value).toArray }:=aaf _ (f ▸ aaq _ rfl);refine aaa ?_
 show wpAny _ A.in1 (updateSeq s.heap.objs.size (·.push .none) >>= λ_=>updateSeq s.heap.objs.size (·.pop)) _ _ _
 refine aaa (af1 Ss rfl ?_)
 have q:=abO (acW (·.push acg)) Ss rfl
 refine af1 q rfl ?_
 have YJ:=abO (acW (·.pop)) q rfl
 have er:∀b o,b≠s.heap.objs.size->(H.push (pw 0 0 a es.size ep)).get? b=some o ->
     (((H.push (pw 0 0 a es.size ep)).update s.heap.objs.size (acW (·.push acg))).update s.heap.objs.size (acW (·.pop))).get? b=some o :=
   λb o c e=>(acu _ _ (aaN c)).trans ((acu _ _ (aaN c)).trans e)
 have YK:a≠H.objs.size:=by rw[n];exact aaH (abX y)
 have x:H.objs.size≠s.heap.objs.size:=by rw[n];exact ahB _
 have yF:s.heap.objs.size ∉ [H.objs.size,a]:=by simp only[aah,aaw,or_false,not_or];exact⟨aaN x,i⟩
 refine aad ⟨adL F.plain_extend_loop _,codeAny_extend_loopS (walks W (I:=H.objs.size) (A:=A.in1) (by simp[hh]) YK).toS K _ yF _ es.size 0 _ _ _ rfl (aaR _)
   ⟨⟨0,W.zero,er _ _ x (aaq _ rfl)⟩,er _ _ (aaN i) d⟩ YJ (ItemsOf.nil _) λs' k c' hm u z=>?_⟩
 show wpAny _ A (load s.heap.objs.size >>= _) _ _ s';refine aaa (wpAny_load u ?_);have Vq:k.toList=ord:=by
   apply afm;intro j;by_cases hj:j<k.size
   . have:=z.2 j k[j] (aa1 hj)
     rw[this,aet,aa1 hj]
   . have e1:=z.1
     rw[aa8 (by simp;omega),aa8 (by rw[W.len];omega)]
 refine aad ?_;rw[Vq];obtain⟨h',g',d',tN,BM⟩:=s';have eg:g'=s.gens:=hm.gens;have ed:d'=s.drawn:=hm.drawn;have eo:BM=s.os:=hm.os;subst eg;subst ed;subst eo;refine J h' tN (aas u) λb o e=>?_;have r:=aas e;have nb:b≠s.heap.objs.size:=aaH r;have Mm:b≠H.objs.size:=by rw[n];exact aaH (abX r)
 refine hm.heap b o (λc=>?_) (er b o nb (aaf _ (f ▸ aaf _ e)));rcases aah.mp c with h|h
 . exact nb h
 . exact Mm (ae8.mp h)
end
noncomputable def tb (P:List Nat)(led:Bool):adW:={ mask:=7,place:=P.toArray,dummies:=#[],finger:=0,led:=led,moves:=0,plain:=true }
end SW
namespace SJ
def qC (xs:Array Nat):Prop:=xs.toList.Pairwise (· < ·)
theorem qD {xs:Array Nat}(h:qC xs){i j:Nat}(a:j<xs.size)(b:i<j):xs[i]'(by omega)<xs[j]:=by have:=(List.pairwise_iff_getElem.mp h) i j (by simpa using afK b a) (by simpa using a) b;simpa using this
theorem pS {xs:Array Nat}(h:qC xs){j:Nat}:∀(fuel lo hi:Nat),lo<=hi->hi<=xs.size->hi-lo<=fuel->(∀i (hz:i<xs.size),i<lo->xs[i]< j)->(∀i (hz:i<xs.size),hi<=i->j<=xs[i]) ->
  lo<=adn xs j fuel lo hi/\adn xs j fuel lo hi<=hi/\(∀i (hz:i<xs.size),i<adn xs j fuel lo hi->xs[i]< j)/\(∀i (hz:i<xs.size),adn xs j fuel lo hi<=i->j<=xs[i])
 | 0,lo,hi,h1,h2,h3,h4,h5=>by
  have:lo=hi:=by omega
  subst this;exact⟨aal _,aal _,h4,h5⟩
 |fuel+1,lo,hi,h1,h2,h3,h4,h5=>by
  unfold adn;by_cases hl:lo<hi
  . rw[if_pos hl]
    dsimp only;have hm:(lo+hi) / 2<xs.size:=by omega
    have l:xs.getD ((lo+hi) / 2) j=xs[(lo+hi) / 2]:=by simp[hm]
    rw[l];split
    . rename_i f
      obtain⟨a,b,c,d⟩:=pS h fuel ((lo+hi) / 2+1) hi (by omega) h2 (by omega) (λi k n=>by
       by_cases e:i=(lo+hi) / 2
       . subst e;exact f
       . exact afK (qD h hm (by omega)) f) h5
      exact⟨by omega,b,c,d⟩
    . rename_i f
      obtain⟨a,b,c,d⟩:=pS h fuel lo ((lo+hi) / 2) (by omega) (by omega) (by omega) h4 (λi k hle=>by
       by_cases e:i=(lo+hi) / 2
       . subst e;omega
       . have:=qD h k (show(lo+hi) / 2<i by omega)
         omega)
      exact⟨a,by omega,c,d⟩
  . rw[if_neg hl]
    have:lo=hi:=by omega
    subst this;exact⟨aal _,aal _,h4,h5⟩
theorem mf {xs:Array Nat}(h:qC xs)(j:Nat):aaF xs j<=xs.size/\(∀i (hi:i<xs.size),i<aaF xs j->xs[i]< j)/\(∀i (kG:i<xs.size),aaF xs j<=i->j<=xs[i]):=by obtain⟨_,a,b,c⟩:=pS h (j:=j) xs.size 0 xs.size (aaR _) (aal _) (by omega) (λi hi d=>by omega) (λi hi hle=>by omega);exact⟨a,b,c⟩
theorem B3 {xs:Array Nat}(h:qC xs)(j:Nat):(xs[aaF xs j]? == some j)=true ↔ j∈xs:=by
 obtain⟨a,b,c⟩:=mf h j;rw[beq_iff_eq];constructor
 . intro e
   exact aeu e
 . intro hm
   obtain⟨i,d,e⟩:=Array.mem_iff_getElem.mp hm;have n:¬i<aaF xs j:=λf=>by have:=b i d f;omega
   have o:¬aaF xs j<i:=λf=>by
    have l:aaF xs j<xs.size:=by omega
    have:=c _ l (aal _);have:=qD h d f;omega
   have k:aaF xs j=i:=by omega
   rw[k,aa1 d,e]
structure mh (t:adW)(n:Nat):Prop where
 dm:t.dummies = #[]
 pl:t.plain=true
 sz:t.place.size=n
 ri:qC t.place
 le:∀j∈t.place,j<=t.mask
 mx:t.mask=7
 n4:n<=4
theorem mh.fits (h:mh t n):t.fits n=true:=by
 have hd:t.dummies.size=0:=by rw[h.dm];rfl
 have a:=h.sz;have hm:=h.mx;have b:=h.n4;unfold aiD agF;simp only[aae,beq_iff_eq,decide_eq_true_eq];exact⟨a,by omega⟩
theorem mh.slot (h:mh t n)(j:Nat):(j ∉ t.place->t.slot j = .empty)/\(j∈t.place->∃i,t.slot j = .live i):=by
 have a:=B3 h.ri j;unfold SetTable.slot;dsimp only;constructor
 . intro b
   have:(t.place[aaF t.place j]? == some j)=false:=by
    cases e:(t.place[aaF t.place j]? == some j)with
    |false=>rfl|true=>exact absurd (a.mp e) b
   rw[this,h.dm];have c:afL #[] j=false:=by simp[afL]
   rw[c];rfl
 . intro hm
   rw[a.mpr hm];exact⟨_,rfl⟩
theorem Jf (T:mh t n){k:Nat}(e:k<=7)(f:k ∉ t.place):t.freeSlot (k:Int)=some (k,false):=by
 have d:∀k:Nat,k<=7->aiE (k:Int) % 8=k:=by decide
 have a:(t.probeStart (k:Int)).j=k:=by show aiE (k:Int) % (t.mask+1)=k;rw[T.mx];exact d k e
 have c:(t.probeStart (k:Int)).dummy=none:=rfl;have b:10*agi t.mask=10*agi t.mask-1+1:=by unfold agi;omega
 unfold SetTable.freeSlot SetTable.probe;rw[b];unfold SetTable.probe.go;rw[a,(T.slot k).1 f];dsimp only;rw[c];rfl
theorem vF {a:Type}(xs:Array a)(p:Nat)(x:a):(acn xs p x).toList=xs.toList.take p++x::xs.toList.drop p:=by unfold acn;simp;exact abj (by simp)
theorem jV {a:Type}(xs:Array a)(p:Nat)(x:a):(acn xs p x).toList.Perm (x::xs.toList):=by rw[vF];refine List.perm_middle.trans ?_;rw[agj]
theorem Jg {xs:Array Nat}(h:qC xs){j:Nat}(p:j ∉ xs):qC (acn xs (aaF xs j) j):=by
 obtain⟨a,b,c⟩:=mf h j;unfold qC;rw[vF,List.pairwise_append];have lo:∀x∈xs.toList.take (aaF xs j),x<j:=λx f=>by obtain⟨i,d,e⟩:=abR.mp f;rw[aa2]at d;rw[ahe]at e;have:=b i (by simp at d;omega) (by omega);rw[<- e];simpa using this
 have d:∀x∈xs.toList.drop (aaF xs j),j<x:=λx f=>by
   obtain⟨i,d,e⟩:=abR.mp f;rw[afI]at d;rw[List.getElem_drop]at e;have l:aaF xs j+i<xs.size:=by simp at d;omega
   have o:=c _ l (by omega);have n:xs[aaF xs j+i]=x:=by simpa using e
   have:x≠j:=λz=>p (by rw[<- z,<- n];exact afn l);omega
 refine⟨h.sublist (afl _ _),List.pairwise_cons.mpr ⟨d,h.sublist (List.drop_sublist _ _)⟩,λx f y k=>?_⟩;rcases aah.mp k with rfl|k
 . exact lo x f
 . exact afK (lo x f) (d y k)
structure Ah (t:adW)(n:Nat):Prop where
 dm:t.dummies = #[]
 pl:t.plain=true
 sz:t.place.size=n
 ri:qC t.place
 le:∀j∈t.place,j<=t.mask
theorem Ah.fits (h:Ah t n)(b:n<=t.mask):t.fits n=true:=by
 have hd:t.dummies.size=0:=by rw[h.dm];rfl
 have a:=h.sz;unfold aiD agF;simp only[aae,beq_iff_eq,decide_eq_true_eq];exact⟨a,by omega⟩
theorem Mn (T:mh t n){es:Array (Int×Value)}(h:es.size=n){j:Nat}(d:j<=7)(f:j ∉ t.place)(x:Value):∃c_ t',layNew t es (j:Int) x=(c_,t',false,false)/\Ah t' (n+1)/\t'.mask=t.mask/\t'.led=t.led/\c_.toList.Perm (((j:Int),x)::es.toList)/\c_.size=n+1 /\ ∀i∈t'.place,i=j\/i∈t.place:=by
 have e:=Jf T d f;have hm:j<=t.mask:=by rw[T.mx];exact d
 have hd:afL #[] j=false:=by simp[afL]
 have a:(acn es (aaF t.place j) ((j:Int),x)).size=n+1:=by have:=(jV es (aaF t.place j) ((j:Int),x)).length_eq;simp at this;omega
 have P:Ah { t with place:=acn t.place (aaF t.place j) j,dummies:=t.dummies } (n+1):=by
  refine⟨T.dm,T.pl,?_,Jg T.ri f,λk d=>?_⟩
  . have:=(jV t.place (aaF t.place j) j).length_eq
    have:=T.sz;simp at *;omega
  . have:=(jV t.place (aaF t.place j) j).mem_iff.mp (by simpa using d)
    rcases aah.mp this with rfl|h'
    . exact hm
    . exact T.le k (by simpa using h')
 have c:t.put j=({ t with place:=acn t.place (aaF t.place j) j,dummies:=t.dummies },aaF t.place j):=by unfold SetTable.put;dsimp only;rw[T.dm,hd];rfl
 have hf:=P.fits (by show n+1<=t.mask;have:=T.mx;have:=T.n4;omega)
 refine⟨acn es (aaF t.place j) ((j:Int),x),_,?_,P,rfl,rfl,jV _ _ _,a,λi b=>aah.mp ((jV t.place (aaF t.place j) j).mem_iff.mp (by simpa using b)) |>.imp id (by simp)⟩;unfold layNew;rw[e];dsimp only;rw[c];dsimp only;rw[a,hf];unfold SetTable.orStandIn;rw[hf];rfl
end SJ
namespace SJ
open PyProof.Rows SW
noncomputable def nD (p:Int×Nat):Int×Value:=(ag6 p.1,.int p.1 p.2)
def iD (h:Heap)(a:Addr)(led:Bool)(ks:List Int):Prop :=
 ∃(es:Array (Int×Value)) (ep:Nat) (t:adW) (l:List (Int×Nat)),h.get? a=some (iw es ep t)/\mh t es.size/\t.led=led/\es.toList.Perm (l.map nD)/\l.map (·.1)=ks /\ ∀j∈t.place,((j:Nat):Int)∈ks
noncomputable def jW (ks:List Int)(k:Int):List Int:=if k∈ks then ks else ks ++ [k]
section
variable {prog:aaG}{w:World}{A:aaL}{E:Value->aac->Prop}{s:aac}{a:Addr}{led:Bool}{ks:List Int}
theorem elems {es:Array (Int×Value)}{l:List (Int×Nat)}(b:es.toList.Perm (l.map nD)):ElemsOf (adN prog w) es.toList:=by intro e he;have:=b.mem_iff.mp he;rw[aaQ]at this;obtain⟨p,hm,rfl⟩:=this;exact⟨⟨p.1,by simp[nD,adN,aeY],rfl⟩,rfl⟩
set_option maxHeartbeats 2000000 in
theorem Jh {k:Int}{tok:Nat}{Q:Bool->aac->Prop}(B:iD s.heap a led ks)(H:ks.length<=3\/k∈ks)(I:0<=k/\k<=7)
  (C:∀b h',acN a s.heap h'->iD h' a led (jW ks k)->Q b { s with heap:=h' }):wpAny (model prog w) A (setAddHashed a (.int k tok) (ag6 k)) Q E s:=by
 obtain⟨es,y,t,l,v,T,rT,u,vH,eK⟩:=id B;have Sw:=elems (prog:=prog) (w:=w) u;have hf:t.fits es.size=true:=T.fits;have G4:es.size<=4:=T.n4;have hb:es.size<scanBound:=by unfold scanBound;omega
 have Vr:(adN prog w).is k (.int k tok)=true:=by simp[adN,aeY]
 unfold setAddHashed setAddHashedIn;refine aaW (aaa (adm v rfl hf ?_));dsimp only;rw[byScan_of (knd:=adN prog w) (x:=.int k tok) rfl hb Sw];simp only[↓reduceIte];unfold setAddByScan;refine aaa ?_;refine aaa (ab8 ?_);refine aaa (wpAny_setScan_of (knd:=adN prog w) (k:=k) Vr v rfl hf Sw ?_);cases hr:List.findIdx? (λe=>(adN prog w).is k e.2) es.toList with
 |some j =>
  dsimp only;obtain⟨hj,G_,_⟩:=aef.mp hr;have cF:k∈ks:=by
    have:=u.mem_iff.mp (abc hj);rw[aaQ]at this;obtain⟨p,hm,e⟩:=this;rw[<- e]at G_;have YM:k=p.1:=by simp[nD,adN,aeY]at G_;first|exact G_|exact G_.symm
    rw[YM,<- vH];exact abV hm
  refine aad (aad ?_);have hd:jW ks k=ks:=by unfold jW;rw[if_pos cF]
  have e:s={ s with heap:=s.heap }:=by cases s;rfl
  rw[e];exact C _ s.heap (Heap.SameBut.refl a s.heap) (by rw[hd];exact B)
 |none =>
  dsimp only;have z:¬k∈ks:=by intro cF;rw[<- vH,aaQ]at cF;obtain⟨p,hm,e⟩:=cF;have vI:=u.mem_iff.mpr (abV (f:=nD) hm);have:=List.findIdx?_eq_none_iff.mp hr _ vI;subst e;simp[nD,adN,aeY]at this
  have Mp:es.size<=3:=by
    have hlen:=u.length_eq;rcases H with h|h
    . have:l.length=ks.length:=by rw[<- vH];simp
      simp at hlen;omega
    . exact absurd h z
  obtain⟨c,rfl⟩:∃n:Nat,k=n:=⟨k.toNat,(ada I.1).symm⟩
  have hh:∀n:Nat,n<=7->ag6 (n:Int)=n:=by decide
  have Mq:c<=7:=by omega
  obtain⟨r,d,e1,P,mV,gr,yH,Mr,Vs⟩:=Mn T (es:=es) rfl Mq (λq=>z (eK c q)) (.int (c:Int) tok);rw[hh c Mq,e1];dsimp only;refine aaa (aad ?_);rw[P.pl];simp only[if_true];refine aaa ?_;rw[hashByValue_scannable 8 (x:=.int (c:Int) tok) rfl];refine aad ?_;refine aaa (wpAny_storeSet_of v rfl ?_ (fits_of_scanBound (by unfold scanBound;omega)));have hg:(s.heap.update a (Obj.putSet r d)).get? a=some (iw r (y+1) d):=by have:=abO (Obj.putSet r d) v (by rw[putSet_of r d (o:=iw es y t) rfl];rfl);rw[putSet_of r d (o:=iw es y t) rfl]at this;exact this
  have B4:plainKind (.int (c:Int) tok)=true:=rfl;have Vt:r.toList.Perm ((l ++ [((c:Int),tok)]).map nD):=by
    rw[af2];have:nD ((c:Int),tok)=((c:Int),.int (c:Int) tok):=by unfold nD;rw[hh c Mq]
    rw[List.map_singleton,this];refine yH.trans ((u.cons _).trans ?_);exact(List.perm_append_singleton _ _).symm
  have Vu:(l ++ [((c:Int),tok)]).map (·.1)=jW ks (c:Int):=by unfold jW;rw[if_neg z,<- vH];simp
  have tO:d.fill=es.size+1:=by unfold agF;rw[P.sz,P.dm];rfl
  have YN:d.tooFull=false:=decide_eq_false (by rw[tO,mV];have:=T.mx;omega)
  simp only[B4,if_true,aaB,afg,YN,aaz,if_false];refine aad (aad (C true _ (acb s.heap a _) ?_));refine⟨r,y+1,d,l ++ [((c:Int),tok)],hg,⟨P.dm,P.pl,by rw[P.sz,Mr],P.ri,P.le,mV.trans T.mx,by omega⟩,by rw[gr,rT],Vt,Vu,λi hi=>?_⟩;unfold jW;rw[if_neg z,aao];rcases Vs i hi with rfl|h
  . exact .inr aaC
  . exact .inl (eK i h)
end
end SJ
namespace SW
open PyProof.Rows
noncomputable def jW (ks:List Nat)(k:Nat):List Nat:=if k∈ks then ks else ks ++ [k]
section
variable {prog:aaG}{w:World}{A:aaL}{R:Result->aac->Prop}{I:Addr}{fp wr:List Addr}{G:Array afE->Array afE->Prop}{n:Nat}{P:Nat->Value->Prop}{St:Nat->aac->Prop}
def seen (val:Nat->Nat):Nat->List Nat
 | 0=>[]|i+1=>jW (seen val i) (val i)
end
section
variable {prog:aaG}{w:World}{A:aaL}{E:Value->aac->Prop}{s:aac}
def emp (led:Bool):Obj:=iw #[] 0 (tb [] led)
theorem Ji (a:Value){Q₁:Value->aac->Prop}(h:Q₁ (.ref s.heap.objs.size) { s with heap:=s.heap.push (emp (!w.params.followText "set-order")) }):
  adO (model prog w) A (.call (.builtin "set.__new__") ⟨[.type "set",a],[]⟩) (wants Q₁ E) s:=by
 refine codeAny_of_tree ?_;show wpAny _ A.in1 (do checkBuiltinCall "set.__new__" ⟨[.type "set",a],[]⟩;again (.builtin "set.__new__" ⟨[.type "set",a],[]⟩)) _ _ s;refine aaa (ahq (F.newCall_set_1 a) (aad ⟨adL F.plain_set_new _,acC F.entry_set_new ?_⟩));rw[aci F.plain_set_new _];unfold ab5.«set.__new__» aiG;have e:=sub_set_self;obtain⟨c,g,d,b,os⟩:=s;dsimp only
 wp_walk
 refine ac5 (aad ?_);dsimp only;simp only[newObj];refine aaa (af_ (aad ?_));exact aad h
end
noncomputable def zs (ks:List Nat):List Int:=ks.map λ(k:Nat)=>(k:Int)
theorem tP {vs us:List Value}(f:vs.Perm us):∀{ns:List Int},acL us ns->∃ms,acL vs ms/\ms.Perm ns:=by
 induction f with
 |nil=>intro ns h;exact⟨ns,h,aia _⟩
 |cons x _ ih =>
  intro ns h;cases h with
  |cons n t hr =>
   obtain⟨ms,a,b⟩:=ih hr;exact⟨n::ms,.cons _ _ a,b.cons n⟩
 |swap x y l =>
  intro ns h;cases h with
  |cons n t hr =>
   cases hr with
   |cons m u jv=>exact⟨m::n::_,.cons _ _ (.cons _ _ jv),ah9 _ _ _⟩
 |trans _ _ Ms B5 =>
  intro ns h;obtain⟨ms,a,b⟩:=B5 h;obtain⟨d,c,e⟩:=Ms a;exact⟨d,c,e.trans b⟩
end SW
namespace L3
open PyProof.Rows L2
set_option genInjectivity true in
inductive D where
 |ax|bl (b:Bool)|int (i:Int)|str (x:Str)|tup (xs:List D)|lst (xs:List D)|dn|ref (n:Nat)|aC (n:Nat)|fn (x:Str) (ds:List D)
structure KW where
 fr:aat
 w:World
 mg:Str->Option Value
 lx:Lx
instance:Coe KW aat:=⟨KW.fr⟩
noncomputable abbrev _root_.L2.Cx.kw (X:L2.Cx):KW:=⟨X.K,X.w,X.mg,X.lx⟩
abbrev G:=List (List D)
abbrev Sg:=List (Option D)
structure Ix where
 ix:List Addr
 hd:List Addr
 kd:Nat->Nat
noncomputable def kb:Nat->Bool
 | 0=>false|_+1=>true
def dA (ι:Ix)(n:Nat)(a:Addr)(b:Bool):Prop:=ι.ix[n]? = some a/\kb (ι.kd n)=b
noncomputable def Ix.more (ι:Ix)(p:Addr)(b:Nat):Ix:=⟨ι.ix ++ [p],ι.hd,λi=>if i=ι.ix.length then b else ι.kd i⟩
mutual
noncomputable def aW:Nat->D->Bool
 |_,.ax=>true|_,.int _=>true|_,.str _=>true|n+1,.tup xs=>jX n xs|_,_=>false
noncomputable def jX:Nat->List D->Bool
 |_,[]=>true|n,d::ds=>aW n d&&jX n ds
end
mutual
noncomputable def hD (w:World):D->Int
 |.int i=>ag6 i|.str x=>hashStr w x|.ax=>reduceHash 0xFCA86420|.tup xs=>reduceHash (aft (B6 w xs))|_=>0
noncomputable def B6 (w:World):List D->List Int
 | []=>[]|d::ds=>hD w d::B6 w ds
end
noncomputable def dO (a:Addr)(es:List aa3)(c:Nat):HO:=.ext λh=>h.get? a=some { cls:=.type "dict",data:=.dict es.toArray (es.length-c) }
noncomputable def qE:List aa3->List Value
 | []=>[]|e::es=>e.key::e.val::qE es
noncomputable def bY:List D->List D
 |k::_::r=>k::bY r|_=>[]
inductive jY (w:World):List D->List aa3->Prop
 |nil:jY w [] []
 |cons {k v:D} {r:List D} {e:aa3} {es:List aa3}:aW 6 k=true->e.hash=hD w k->jY w r es->jY w (k::v::r) (e::es)
inductive OV (K:KW)(a:Addr)(xs:List D):Nat->HO->List V->Prop
 |l (vs:List V):OV K a xs 0 (.lst vs) vs
 |d (c:Nat) (es:List aa3) (vs:List V):c<=es.length->Vals vs (qE es)->jY K.w xs es->(bY xs).Nodup->(a == adh)=false->es.length<=aax->OV K a xs (c+1) (dO a es c) vs
def mW (K:KW)(H:Hp)(ι:Ix)(a:Addr)(xs:List V):Prop :=
 (Rd H a (.lst xs)/\a ∉ ι.ix/\a ∉ ι.hd) \/
  ∃(o:Obj) (au:Array Value) (n:Nat),K.fr.lookup a=some o/\o.cls = .type "list" /\ o.dict=none/\o.data = .seq au n/\au.size<=aax/\Vals xs au.toList
theorem mW.sq {K H ι a xs}(h:mW K H ι a xs):cS K H a xs:=by
 rcases h with⟨h,_⟩|h
 . exact .inl h
 . exact .inr h
def pz (K:KW)(H:Hp)(ι:Ix)(a:Addr)(xs:List V):Prop :=
 (Rd H a (.tup xs)/\a ∉ ι.ix) \/
  ∃(o:Obj) (au:Array Value) (n:Nat),K.fr.lookup a=some o/\o.cls = .type "tuple" /\ o.dict=none/\o.data = .seq au n/\au.size<=aax/\Vals xs au.toList
theorem pz.sq {K H ι a xs}(h:pz K H ι a xs):eS K H a xs:=by
 rcases h with⟨h,_⟩|h
 . exact .inl h
 . exact .inr h
noncomputable def Sx:HO->Bool
 |.ext _=>true|_=>false
def Xo (H:Hp)(ι:Ix)(a:Addr)(u:HO):Prop:=H a=some u/\a ∉ ι.ix/\(Sx u=true->a ∉ ι.hd)
noncomputable def Mt:HO->Bool
 |.ext _=>true|.iq _=>true|_=>false
noncomputable abbrev oK (a:Addr)(o:Obj):HO:=.ext λh=>h.get? a=some o
inductive cq (H:Hp)(ι:Ix):List (Str×Addr)->List V->Prop
 |nil:cq H ι [] []
 |cons {y:Str} {c:Addr} {o:Obj} {u:Value} {v:V} {cl:List (Str×Addr)} {vs:List V} (x:Xo H ι c (oK c o)) (d:o.data = .cell (some u)) (r:RelV v u) (t:cq H ι cl vs):cq H ι ((y,c)::cl) (v::vs)
inductive B7 (K:KW)(H:Hp)(ι:Ix)(x:Str)(a:Addr)(vs:List V):Prop
 |mk (l:dS) (c:Addr) (fM pm:Value) (cl:List (Str×Addr)) (hl:K.lx.lm x=some l) (hf:Xo H ι a (oK a (aeG "<lambda>" l.qual l.ar l.bd l.sc cl pm c fM))) (hc:Xo H ι c (.iq l.qual)) (hn:cl.map (·.1)=l.fv) (hd:(cl.map (·.2)).Nodup) (hv:cq H ι cl vs):B7 K H ι x a vs
def Ha (K:KW)(H:Hp)(ι:Ix)(x:Str)(a:Addr)(vs:List V):Prop:=(vs = []/\K.lx.lm x=none/\K.mg x=some (.ref a))\/B7 K H ι x a vs
theorem cq.mono {H ι b a}(t:∀c u,Mt u=true->Xo H ι c u->Xo b a c u):∀{cl vs},cq H ι cl vs->cq b a cl vs
 |_,_,.nil=>.nil|_,_,.cons x d r q=>.cons (t _ _ rfl x) d r (cq.mono t q)
theorem Ha.mono {K H ι d b x a vs}(h:Ha K H ι x a vs)(t:∀c u,Mt u=true->Xo H ι c u->Xo d b c u):Ha K d b x a vs:=by
 rcases h with h|⟨l,c,fM,pm,cl,hl,hf,hc,hn,hd,hv⟩
 . exact .inl h
 . exact .inr ⟨l,c,fM,pm,cl,hl,t _ _ rfl hf,t _ _ rfl hc,hn,hd,hv.mono t⟩
mutual
noncomputable def Rel (K:KW)(H:Hp)(ι:Ix):D->V->Prop
 |.ax,v=>v = .ax|.bl b,v=>v = .bl b|.int i,v=>v = .int i|.str x,v=>v = .str x|.tup xs,v=>∃a vs,v = .ref a/\pz K H ι a vs/\ag K H ι xs vs|.lst xs,v=>∃a vs,v = .ref a/\mW K H ι a vs/\ag K H ι xs vs|.dn,v=>∃a,v = .ref a/\H a=some (.dK [])/\a ∉ ι.ix|.ref n,v=>∃a,v = .ref a/\dA ι n a false|.aC n,v=>∃a,v = .ref a/\dA ι n a true|.fn x ds,v=>∃a vs,v = .ref a/\Ha K H ι x a vs/\ag K H ι ds vs
noncomputable def ag (K:KW)(H:Hp)(ι:Ix):List D->List V->Prop
 | [],vs=>vs = []|x::xs,vs=>∃v vr,vs=v::vr/\Rel K H ι x v/\ag K H ι xs vr
end
structure Ext (H:Hp)(ι:Ix)(H':Hp)(ι':Ix):Prop where
 same:∀a o,H a=some o->a ∉ ι.ix->H' a=some o
 there:∀a,H a≠none->H' a≠none
 more:∃m,ι'.ix=ι.ix++m /\ ∀a∈m,H a=none
 ck:ι'.hd=ι.hd
 mX:∀i,i < ι.ix.length->ι'.kd i=ι.kd i
structure aw (K:KW)(H:Hp)(ι:Ix)(g:G):Prop where
 nd:ι.ix.Nodup
 len:ι.ix.length=g.length
 ck:∀b∈ι.hd,b ∉ ι.ix/\H b≠none
 at_:∀(i:Nat) xs,g[i]? = some xs->∃a o vs,ι.ix[i]? = some a/\H a=some o/\OV K a xs (ι.kd i) o vs/\ag K H ι xs vs
 tb:∀q∈K.lx.tb,H q.1=some (.bU q.2.1 q.2.2)/\q.1 ∉ ι.ix
def bo (K:KW)(H:Hp)(ι:Ix)(a:Sg)(σ:L2.St):Prop :=
 a.length=σ.length /\ ∀(i:Nat) d,a[i]? = some (some d)->∃v,σ[i]? = some (some v)/\Rel K H ι d v
theorem Ext.refl {H ι}:Ext H ι H ι:=⟨λ_ _ h _=>h,λ_ h=>h,⟨[],by simp,λ_ h=>by simp at h⟩,rfl,λ_ _=>rfl⟩
theorem Ext.old {H ι f e}(a:Ext H ι f e){c:Addr}{o:HO}(h:H c=some o)(n:c ∉ ι.ix):c ∉ e.ix:=λz=>by
 obtain⟨d,b,f1⟩:=a.more;rw[b]at z;rcases aao.mp z with z|z
 . exact n z
 . rw[f1 c z]at h;cases h
theorem Ext.trans {H ι p l r ι2}(a:Ext H ι p l)(b:Ext p l r ι2):Ext H ι r ι2:=by
 obtain⟨f,d,f1⟩:=a.more;obtain⟨e,k,f2⟩:=b.more;refine⟨λc o h n=>b.same c o (a.same c o h n) (a.old h n),λc h=>b.there c (a.there c h),⟨f++e,by rw[k,d,aaU],λc z=>?_⟩,b.ck.trans a.ck,λi j=>(b.mX i (by rw[d,aai];omega)).trans (a.mX i j)⟩;rcases aao.mp z with z|z
 . exact f1 c z
 . cases q:H c with
   |none=>rfl|some o=>exact absurd (f2 c z) (a.there c (by rw[q];simp))
theorem Ext.at {H ι k j}(a:Ext H ι k j){i:Nat}{c:Addr}{b:Bool}(h:dA ι i c b):dA j i c b:=by obtain⟨f,e,_⟩:=a.more;have d:=(aab.mp h.1).1;refine⟨?_,by rw[a.mX i d];exact h.2⟩;rw[e,aan d];exact h.1
theorem mW.ext {K H ι c b a xs}(e:Ext H ι c b)(h:mW K H ι a xs):mW K c b a xs:=by
 rcases h with⟨h|⟨o,h⟩,n,k⟩|h
 . exact .inl ⟨.inl (e.same _ _ h n),e.old h n,by rw[e.ck];exact k⟩
 . exact .inl ⟨.inr ⟨o,e.same _ _ h n⟩,e.old h n,by rw[e.ck];exact k⟩
 . exact .inr h
theorem Xo.ext {H ι b a c u}(e:Ext H ι b a)(h:Xo H ι c u):Xo b a c u:=⟨e.same _ _ h.1 h.2.1,e.old h.1 h.2.1,λy=>by rw[e.ck];exact h.2.2 y⟩
theorem pz.ext {K H ι c b a xs}(e:Ext H ι c b)(h:pz K H ι a xs):pz K c b a xs:=by
 rcases h with⟨h|⟨o,h⟩,n⟩|h
 . exact .inl ⟨.inl (e.same _ _ h n),e.old h n⟩
 . exact .inl ⟨.inr ⟨o,e.same _ _ h n⟩,e.old h n⟩
 . exact .inr h
mutual
theorem Rel.ext {K H ι l k}(e:Ext H ι l k):∀(d:D) {v:V},Rel K H ι d v->Rel K l k d v
 |.ax,v,h=>by simpa[Rel]using h|.bl _,v,h=>by simpa[Rel]using h|.int _,v,h=>by simpa[Rel]using h|.str _,v,h=>by simpa[Rel]using h|.tup xs,v,h=>by simp only[Rel]at h ⊢;obtain⟨a,j,f,b,i⟩:=h;exact⟨a,j,f,b.ext e,ag.ext e xs i⟩
 |.lst xs,v,h=>by simp only[Rel]at h ⊢;obtain⟨a,j,f,b,i⟩:=h;exact⟨a,j,f,b.ext e,ag.ext e xs i⟩
 |.dn,v,h=>by simp only[Rel]at h ⊢;obtain⟨a,f,b,i⟩:=h;exact⟨a,f,e.same _ _ b i,e.old b i⟩
 |.ref n,v,h=>by simp only[Rel]at h ⊢;obtain⟨a,f,b⟩:=h;exact⟨a,f,e.at b⟩
 |.aC n,v,h=>by simp only[Rel]at h ⊢;obtain⟨a,f,b⟩:=h;exact⟨a,f,e.at b⟩
 |.fn x ds,v,h=>by simp only[Rel]at h ⊢;obtain⟨a,j,f,b,i⟩:=h;exact⟨a,j,f,b.mono λc u z q=>q.ext e,ag.ext e ds i⟩
theorem ag.ext {K H ι j i}(e:Ext H ι j i):∀(ds:List D) {vs:List V},ag K H ι ds vs->ag K j i ds vs
 | [],vs,h=>by simpa[ag]using h|d::ds,vs,h=>by simp only[ag]at h ⊢;obtain⟨v,a,b,c,f⟩:=h;exact⟨v,a,b,Rel.ext e d c,ag.ext e ds f⟩
end
theorem bo.ext {K H ι j f c σ}(e:Ext H ι j f)(h:bo K H ι c σ):bo K j f c σ :=
 ⟨h.1,λi d q=>let⟨v,a,b⟩:=h.2 i d q;⟨v,a,Rel.ext e d b⟩⟩
theorem ag.length {K H ι}:∀{ds:List D} {vs:List V},ag K H ι ds vs->ds.length=vs.length
 | [],vs,h=>by simp only[ag]at h;subst h;rfl|d::ds,vs,h=>by simp only[ag]at h;obtain⟨v,b,rfl,_,a⟩:=h;simp[ag.length a]
theorem ag.append {K H ι}:∀{ds es:List D} {vs us:List V},ag K H ι ds vs->ag K H ι es us->ag K H ι (ds++es) (vs++us)
 | [],es,vs,us,h,k=>by simp only[ag]at h;subst h;exact k|d::ds,es,vs,us,h,k=>by simp only[ag]at h;obtain⟨v,c,rfl,a,b⟩:=h;simp only[ac6,ag];exact⟨v,_,rfl,a,ag.append b k⟩
theorem ag.get {K H ι}:∀{ds:List D} {vs:List V} {i:Nat} {d:D},ag K H ι ds vs->ds[i]? = some d->∃v,vs[i]? = some v/\Rel K H ι d v
 | [],_,_,_,_,e=>by simp at e|x::ds,vs,0,d,h,e=>by simp only[ag]at h;obtain⟨v,c,rfl,a,b⟩:=h;simp at e;subst e;exact⟨v,rfl,a⟩
 |x::ds,vs,i+1,d,h,e=>by simp only[ag]at h;obtain⟨v,c,rfl,a,b⟩:=h;obtain⟨u,f,j⟩:=ag.get (i:=i) b (by simpa using e);exact⟨u,by simpa using f,j⟩
theorem ag.set {K H ι d v}(c:Rel K H ι d v):∀{ds:List D} {vs:List V} (i:Nat),ag K H ι ds vs->ag K H ι (ds.set i d) (vs.set i v)
 | [],_,_,h=>by simp only[ag]at h;subst h;simp[ag]|x::ds,vs,0,h=>by simp only[ag]at h;obtain⟨u,b,rfl,hu,a⟩:=h;simp only[agX,ag];exact⟨v,b,rfl,c,a⟩
 |x::ds,vs,i+1,h=>by simp only[ag]at h;obtain⟨u,b,rfl,hu,a⟩:=h;simp only[agY,ag];exact⟨u,_,rfl,hu,ag.set c i a⟩
theorem ag.take {K H ι}:∀{ds:List D} {vs:List V} (n:Nat),ag K H ι ds vs->ag K H ι (ds.take n) (vs.take n)
 |_,_,0,_=>by simp[ag]| [],_,n+1,h=>by simp only[ag]at h;subst h;simp[ag]|x::ds,vs,n+1,h=>by simp only[ag]at h;obtain⟨u,b,rfl,hu,a⟩:=h;simp only[List.take_succ_cons,ag];exact⟨u,_,rfl,hu,ag.take n a⟩
theorem ag.drop {K H ι}:∀{ds:List D} {vs:List V} (n:Nat),ag K H ι ds vs->ag K H ι (ds.drop n) (vs.drop n)
 |_,_,0,h=>h| [],_,n+1,h=>by simp only[ag]at h;subst h;simp[ag]|x::ds,vs,n+1,h=>by simp only[ag]at h;obtain⟨u,b,rfl,hu,a⟩:=h;simp only[List.drop_succ_cons];exact ag.drop n a
theorem aw.at {K H ι g}(h:aw K H ι g){n:Nat}{xs:List D}{a:Addr}(e:g[n]? = some xs)(p:dA ι n a false):∃vs,H a=some (.lst vs)/\ag K H ι xs vs:=by
 obtain⟨b,o,vs,c,i,f,j⟩:=h.at_ n xs e;rw[p.1]at c;cases c;have c:=p.2;generalize ι.kd n=k at f c;cases f with
 |l=>exact⟨vs,i,j⟩|d=>cases c
theorem aw.tR {K H ι g}(h:aw K H ι g){n:Nat}{xs:List D}{a:Addr}(e:g[n]? = some xs)(q:dA ι n a true):
  ∃es vs c,H a=some (dO a es c)/\ι.kd n=c+1/\c<=es.length/\Vals vs (qE es)/\jY K.w xs es/\(bY xs).Nodup/\(a == adh)=false/\es.length<=aax/\ag K H ι xs vs:=by
 obtain⟨b,o,vs,f,j,i,p⟩:=h.at_ n xs e;rw[q.1]at f;cases f;have f:=q.2;generalize ι.kd n=k at i f;cases i with
 |l=>cases f|d c es vs h0 h3 h4 h5 h6 h7=>exact⟨es,vs,c,j,rfl,h0,h3,h4,h5,h6,h7,p⟩
theorem aw.kC {K H ι g}(h:aw K H ι g){a:Addr}(l:a∈ι.ix):H a≠none:=by
 obtain⟨i,c,e⟩:=abR.mp l;have f:i<g.length:=by rw[<- h.len];exact c
 obtain⟨b,_,k,d,j,_⟩:=h.at_ i _ (aag f);rw[aag c,e]at d;cases d;rw[j];simp
theorem Ext.lay {H ι p o}(b:H p=none):Ext H ι (upd H p o) ι :=
 ⟨λa u h _=>by rw[aB (aN h b)];exact h,λa h=>by
  by_cases e:a=p
  . subst e;exact absurd b h
  . rw[aB e];exact h,⟨[],by simp,λ_ h=>by simp at h⟩,rfl,λ_ _=>rfl⟩
theorem aw.ext {K H ι g r}(h:aw K H ι g)(e:Ext H ι r ι)(k:∀a∈ι.ix,r a=H a):aw K r ι g :=
 ⟨h.nd,h.len,λb d=>⟨(h.ck b d).1,e.there b (h.ck b d).2⟩,λi xs q=>by obtain⟨a,o,l,f,n,p,j⟩:=h.at_ i xs q;exact⟨a,o,l,f,by rw[k a (aaO f)];exact n,p,ag.ext e xs j⟩,λq c=>⟨e.same _ _ (h.tb q c).1 (h.tb q c).2,(h.tb q c).2⟩⟩
theorem aw.lay {K H ι g p o}(h:aw K H ι g)(c:H p=none):aw K (upd H p o) ι g :=
 h.ext (Ext.lay c) λa b=>aB λe=>by subst e;exact h.kC b c
theorem aw.fresh {K H ι g p}(h:aw K H ι g)(b:H p=none):p ∉ ι.ix:=λa=>h.kC a b
theorem aw.gZ {K H ι g p}(h:aw K H ι g)(b:H p=none):p ∉ ι.hd:=λa=>(h.ck p a).2 b
theorem Ext.gA {H ι p o b}(f:H p=none):Ext H ι (upd H p o) (ι.more p b):=by have e:=Ext.lay (ι:=ι) (o:=o) f;refine⟨e.same,e.there,⟨[p],rfl,λa c=>by simp at c;subst c;exact f⟩,rfl,λi d=>?_⟩;show(if i=ι.ix.length then b else ι.kd i)=ι.kd i;rw[if_neg (by omega)]
theorem Ext.push {H ι p o}(a:H p=none):Ext H ι (upd H p o) (ι.more p 0):=Ext.gA a
theorem aw.gA {K H ι g p o xs vs b}(h:aw K H ι g)(A:H p=none)(B:OV K p xs b o vs)(r:ag K H ι xs vs):aw K (upd H p o) (ι.more p b) (g ++ [xs]):=by
 have v:=h.fresh A;refine⟨?_,by simp[Ix.more,h.len],λb c=>⟨λz=>?_,(Ext.gA (ι:=ι) (o:=o) (b:=0) A).there b (h.ck b c).2⟩,λi ys q=>?_,λq d=>⟨by rw[aB (aN (h.tb q d).1 A)];exact(h.tb q d).1,λz=>(aao.mp z).elim (h.tb q d).2 λz=>aN (h.tb q d).1 A (by simpa using z)⟩⟩
 . show(ι.ix ++ [p]).Nodup
   rw[aco];refine⟨h.nd,by simp,λa n b c=>?_⟩;simp at c;subst c;intro e;subst e;exact v n
 . rcases aao.mp z with z|z
   . exact(h.ck b c).1 z
   . simp at z;subst z;exact(h.ck _ c).2 A
 . by_cases hi:i<g.length
   . rw[aan hi]at q
     obtain⟨a,j,us,s,l,y,u⟩:=h.at_ i ys q;refine⟨a,j,us,(by show(ι.ix ++ [p])[i]? = some a;rw[aan (by rw[h.len];exact hi)];exact s),?_,?_,ag.ext (Ext.gA A) ys u⟩
     . rw[aB (aN l A)];exact l
     . show OV K _ _ (if i=ι.ix.length then b else ι.kd i) j us
       rw[if_neg (by rw[h.len];omega)];exact y
   . rw[aaJ (by omega)]at q
     have x:i-g.length=0:=by
       cases e:i-g.length with
       |zero=>rfl|succ k=>rw[e]at q;simp at q
     rw[x]at q;have e:xs=ys:=by simpa using q
     subst e;have f:i=ι.ix.length:=by rw[h.len];omega
     refine⟨p,o,vs,?_,aR,?_,ag.ext (Ext.gA A) xs r⟩
     . show(ι.ix ++ [p])[i]? = some p
       rw[f];simp
     . show OV K _ _ (if i=ι.ix.length then b else ι.kd i) o vs
       rw[if_pos f];exact B
theorem aw.push {K H ι g p xs vs}(h:aw K H ι g)(a:H p=none)(r:ag K H ι xs vs):aw K (upd H p (.lst vs)) (ι.more p 0) (g ++ [xs]):=h.gA a (.l vs) r
theorem dA.new {ι:Ix}{p:Addr}{k:Nat}{n:Nat}(h:ι.ix.length=n):dA (ι.more p k) n p (kb k):=by subst h;exact⟨by show(ι.ix ++ [p])[ι.ix.length]? = some p;simp,by show kb (if ι.ix.length=ι.ix.length then k else ι.kd ι.ix.length)=kb k;rw[if_pos rfl]⟩
theorem Ext.put {H ι}{n:Nat}{a o c}{b:Bool}(d:dA ι n a b)(h:H a=some o):Ext H ι (upd H a c) ι :=
 ⟨λb o q nb=>by rw[aB (λe=>nb (by rw[e];exact aaO d.1))];exact q,λb q=>by
  by_cases e:b=a
  . subst e;rw[aR];simp
  . rw[aB e];exact q,⟨[],by simp,λ_ z=>by simp at z⟩,rfl,λ_ _=>rfl⟩
theorem aw.Mu {K H ι g}{n:Nat}{a o B xs C}{b:Bool}(h:aw K H ι g)(A:dA ι n a b)(E:H a=some o)(I:OV K a xs (ι.kd n) B C)(r:ag K H ι xs C):aw K (upd H a B) ι (g.set n xs):=by
 refine⟨h.nd,by simp[h.len],λb j=>⟨(h.ck b j).1,(Ext.put A E).there b (h.ck b j).2⟩,λi d q=>?_,λq c=>⟨by rw[aB λz=>(h.tb q c).2 (by rw[z];exact aaO A.1)];exact(h.tb q c).1,(h.tb q c).2⟩⟩;by_cases e:i=n
 . subst e
   have f:i<g.length:=by rw[<- h.len];exact(aab.mp A.1).1
   rw[aav f]at q;cases q;exact⟨a,B,C,A.1,aR,I,ag.ext (Ext.put A E) _ r⟩
 . rw[aam (aaN e)]at q
   obtain⟨b,u,us,k,x,l,p⟩:=h.at_ i d q;refine⟨b,u,us,k,?_,l,ag.ext (Ext.put A E) d p⟩;rw[aB ?_]
   . exact x
   . intro z
     subst z;obtain⟨f,s⟩:=aab.mp k;obtain⟨y,v⟩:=aab.mp A.1;exact e ((afF h.nd).mp (s.trans v.symm))
theorem aw.put {K H ι g}{n:Nat}{a vs xs c}(h:aw K H ι g)(d:dA ι n a false)(f:H a=some (.lst vs))(r:ag K H ι xs c):aw K (upd H a (.lst c)) ι (g.set n xs):=h.Mu d f (by
 have b:=d.2;cases e:ι.kd n with
 |zero=>exact .l c|succ k=>rw[e]at b;cases b) r
noncomputable def Ix.hide (ι:Ix)(p:Addr):Ix:=⟨ι.ix,p::ι.hd,ι.kd⟩
mutual
theorem Rel.show {K H ι p}:∀(d:D) {v:V},Rel K H (Ix.hide ι p) d v->Rel K H ι d v
 |.ax,v,h=>by simpa[Rel]using h|.bl _,v,h=>by simpa[Rel]using h|.int _,v,h=>by simpa[Rel]using h|.str _,v,h=>by simpa[Rel]using h|.tup xs,v,h=>by simp only[Rel]at h ⊢;obtain⟨a,e,b,f,i⟩:=h;exact⟨a,e,b,f,ag.show xs i⟩
 |.lst xs,v,h=>by
  simp only[Rel]at h ⊢;obtain⟨a,e,b,f,i⟩:=h;refine⟨a,e,b,?_,ag.show xs i⟩;rcases f with⟨h,n,k⟩|h
  . exact .inl ⟨h,n,λz=>k (aau _ z)⟩
  . exact .inr h
 |.dn,v,h=>by simpa[Rel,Ix.hide]using h|.ref n,v,h=>by simpa[Rel,Ix.hide,dA]using h|.aC n,v,h=>by simpa[Rel,Ix.hide,dA]using h|.fn x ds,v,h=>by simp only[Rel]at h ⊢;obtain⟨a,e,b,f,i⟩:=h;exact⟨a,e,b,f.mono λc u z q=>⟨q.1,q.2.1,λy z=>q.2.2 y (aau _ z)⟩,ag.show ds i⟩
theorem ag.show {K H ι p}:∀(ds:List D) {vs:List V},ag K H (Ix.hide ι p) ds vs->ag K H ι ds vs
 | [],vs,h=>by simpa[ag]using h|d::ds,vs,h=>by simp only[ag]at h ⊢;obtain⟨v,a,b,c,e⟩:=h;exact⟨v,a,b,Rel.show d c,ag.show ds e⟩
end
mutual
theorem Rel.hide {K H ι p o}(j:H p=none):∀(d:D) {v:V},Rel K H ι d v->Rel K (upd H p o) (Ix.hide ι p) d v
 |.ax,v,h=>by simpa[Rel]using h|.bl _,v,h=>by simpa[Rel]using h|.int _,v,h=>by simpa[Rel]using h|.str _,v,h=>by simpa[Rel]using h
 |.tup xs,v,h=>by
  simp only[Rel]at h ⊢;obtain⟨a,i,e,b,f⟩:=h;refine⟨a,i,e,?_,ag.hide j xs f⟩;rcases b with⟨h|⟨u,h⟩,n⟩|h
  . exact .inl ⟨.inl (by rw[aB (aN h j)];exact h),n⟩
  . exact .inl ⟨.inr ⟨u,by rw[aB (aN h j)];exact h⟩,n⟩
  . exact .inr h
 |.lst xs,v,h=>by
  simp only[Rel]at h ⊢;obtain⟨a,i,e,b,f⟩:=h;refine⟨a,i,e,?_,ag.hide j xs f⟩;have out:∀{u:HO},H a=some u->a ∉ ι.hd->a ∉ (Ix.hide ι p).hd:=λh k z=>by
    rcases aah.mp z with z|z
    . exact aN h j z
    . exact k z
  rcases b with⟨h|⟨u,h⟩,n,k⟩|h
  . exact .inl ⟨.inl (by rw[aB (aN h j)];exact h),n,out h k⟩
  . exact .inl ⟨.inr ⟨u,by rw[aB (aN h j)];exact h⟩,n,out h k⟩
  . exact .inr h
 |.dn,v,h=>by simp only[Rel]at h ⊢;obtain⟨a,e,b,f⟩:=h;exact⟨a,e,by rw[aB (aN b j)];exact b,f⟩
 |.ref n,v,h=>by simpa[Rel,Ix.hide,dA]using h|.aC n,v,h=>by simpa[Rel,Ix.hide,dA]using h|.fn x ds,v,h=>by simp only[Rel]at h ⊢;obtain⟨a,i,e,b,f⟩:=h;exact⟨a,i,e,b.mono λc u z q=>⟨by rw[aB (aN q.1 j)];exact q.1,q.2.1,λy z=>(aah.mp z).elim (aN q.1 j) (q.2.2 y)⟩,ag.hide j ds f⟩
theorem ag.hide {K H ι p o}(f:H p=none):∀(ds:List D) {vs:List V},ag K H ι ds vs->ag K (upd H p o) (Ix.hide ι p) ds vs
 | [],vs,h=>by simpa[ag]using h|d::ds,vs,h=>by simp only[ag]at h ⊢;obtain⟨v,a,b,c,e⟩:=h;exact⟨v,a,b,Rel.hide f d c,ag.hide f ds e⟩
end
mutual
theorem Rel.grow {K H ι p us l}(j:H p=some (.lst us)):∀(d:D) {v:V},Rel K H (Ix.hide ι p) d v->Rel K (upd H p (.lst l)) (Ix.hide ι p) d v
 |.ax,v,h=>by simpa[Rel]using h|.bl _,v,h=>by simpa[Rel]using h|.int _,v,h=>by simpa[Rel]using h|.str _,v,h=>by simpa[Rel]using h
 |.tup xs,v,h=>by
  simp only[Rel]at h ⊢;obtain⟨a,i,e,b,f⟩:=h;refine⟨a,i,e,?_,ag.grow j xs f⟩;rcases b with⟨h|⟨u,h⟩,n⟩|h
  . exact .inl ⟨.inl (by rw[aB (qq h j (by simp))];exact h),n⟩
  . exact .inl ⟨.inr ⟨u,by rw[aB (qq h j (by simp))];exact h⟩,n⟩
  . exact .inr h
 |.lst xs,v,h=>by
  simp only[Rel]at h ⊢;obtain⟨a,i,e,b,f⟩:=h;refine⟨a,i,e,?_,ag.grow j xs f⟩;rcases b with⟨h,n,k⟩|h
  . have ne:a≠p:=λz=>k (by rw[z];exact aaC)
    rcases h with h|⟨u,h⟩
    . exact .inl ⟨.inl (by rw[aB ne];exact h),n,k⟩
    . exact .inl ⟨.inr ⟨u,by rw[aB ne];exact h⟩,n,k⟩
  . exact .inr h
 |.dn,v,h=>by simp only[Rel]at h ⊢;obtain⟨a,e,b,f⟩:=h;exact⟨a,e,by rw[aB (qq b j (by simp))];exact b,f⟩
 |.ref n,v,h=>by simpa[Rel,Ix.hide,dA]using h|.aC n,v,h=>by simpa[Rel,Ix.hide,dA]using h|.fn x ds,v,h=>by simp only[Rel]at h ⊢;obtain⟨a,i,e,b,f⟩:=h;exact⟨a,i,e,b.mono λc u z q=>⟨by rw[aB (qq q.1 j (λy=>by rw[y]at z;cases z))];exact q.1,q.2⟩,ag.grow j ds f⟩
theorem ag.grow {K H ι p us i}(f:H p=some (.lst us)):∀(ds:List D) {vs:List V},ag K H (Ix.hide ι p) ds vs->ag K (upd H p (.lst i)) (Ix.hide ι p) ds vs
 | [],vs,h=>by simpa[ag]using h|d::ds,vs,h=>by simp only[ag]at h ⊢;obtain⟨v,a,b,c,e⟩:=h;exact⟨v,a,b,Rel.grow f d c,ag.grow f ds e⟩
end
theorem aw.hide {K H ι p o g}(r:H p=none)(h:aw K H ι g):aw K (upd H p o) (Ix.hide ι p) g :=
 ⟨h.nd,h.len,λb c=>by
  rcases aah.mp c with rfl|c
  . exact⟨h.fresh r,by rw[aR];simp⟩
  . refine⟨(h.ck b c).1,?_⟩
    by_cases e:b=p
    . subst e;rw[aR];simp
    . rw[aB e];exact(h.ck b c).2,λi xs q=>by
  obtain⟨a,o,l,k,f,n,j⟩:=h.at_ i xs q;exact⟨a,o,l,k,by rw[aB (aN f r)];exact f,n,ag.hide r xs j⟩,λq d=>⟨by rw[aB (aN (h.tb q d).1 r)];exact(h.tb q d).1,(h.tb q d).2⟩⟩
theorem aw.show {K H ι p g}(h:aw K H (Ix.hide ι p) g):aw K H ι g :=
 ⟨h.nd,h.len,λb d=>h.ck b (aau _ d),λi xs q=>by obtain⟨a,o,f,e,j,k,c⟩:=h.at_ i xs q;exact⟨a,o,f,e,j,k,ag.show xs c⟩,h.tb⟩
theorem aw.grow {K H ι p us s g}(r:H p=some (.lst us))(h:aw K H (Ix.hide ι p) g):aw K (upd H p (.lst s)) (Ix.hide ι p) g :=
 ⟨h.nd,h.len,λb d=>⟨(h.ck b d).1,by
   by_cases e:b=p
   . subst e;rw[aR];simp
   . rw[aB e];exact(h.ck b d).2⟩,λi xs q=>by
  obtain⟨a,o,k,f,l,n,j⟩:=h.at_ i xs q;refine⟨a,o,k,f,?_,n,ag.grow r xs j⟩;rw[aB (λe=>(h.ck p aaC).1 (by rw[<- e];exact aaO f))];exact l,λq c=>⟨by rw[aB (qq (h.tb q c).1 r (by simp))];exact(h.tb q c).1,(h.tb q c).2⟩⟩
abbrev FE:=Sg->G->Option (D×G)
abbrev FT:=Sg->G->Option (Bool×G)
abbrev FA:=Sg->G->Option (List D×G)
def fN (K:KW)(H:Hp)(ι:Ix)(d:D)(g':G)(Q:VK):Prop:=∀H' ι' v,Ext H ι H' ι'->aw K H' ι' g'->Rel K H' ι' d v->Q v H'
def QF (K:KW)(H:Hp)(ι:Ix)(ds:List D)(g':G)(Q:List V->Hp->Prop):Prop:=∀H' ι' vs,Ext H ι H' ι'->aw K H' ι' g'->ag K H' ι' ds vs->Q vs H'
def qF (K:KW)(H:Hp)(ι:Ix)(g':G)(Q:Hp->Prop):Prop:=∀H' ι',Ext H ι H' ι'->aw K H' ι' g'->Q H'
inductive tD (K:KW)(f:FE)(σ:L2.St)(H:Hp)(Q:VK):Prop
 |mk (ι:Ix) (σd:Sg) (g:G) (d:D) (g':G) (h0:aw K H ι g) (h1:bo K H ι σd σ) (h2:f σd g=some (d,g')) (h3:fN K H ι d g' Q):tD K f σ H Q
inductive iZ (K:KW)(f:FA)(σ:L2.St)(H:Hp)(Q:(List V->Hp->Prop)):Prop
 |mk (ι:Ix) (σd:Sg) (g:G) (d:List D) (g':G) (h0:aw K H ι g) (h1:bo K H ι σd σ) (h2:f σd g=some (d,g')) (h3:QF K H ι d g' Q):iZ K f σ H Q
inductive lA (K:KW)(f:FT)(σ:L2.St)(H:Hp)(Q:(Bool->Hp->Prop)):Prop
 |mk (ι:Ix) (σd:Sg) (g:G) (b:Bool) (g':G) (h0:aw K H ι g) (h1:bo K H ι σd σ) (h2:f σd g=some (b,g')) (h3:qF K H ι g' (Q b)):lA K f σ H Q
structure DE (X:Cx)(e:Expr)(f:FE):Prop where of ::
 un:PE X e (tD X.kw f)
structure DA (X:Cx)(es:List Expr)(f:FA):Prop where of ::
 un:PA X es (iZ X.kw f)
structure DT (X:Cx)(e:Expr)(f:FT):Prop where of ::
 un:PT X e (lA X.kw f)
structure DW (X:Cx)(e:Expr)(f:FT):Prop where of ::
 un:PW X e (lA X.kw f)
theorem PE.imp {X:Cx}{e:Expr}{t t':TE}(h:PE X e t)(i:∀σ H Q,t' σ H Q->t σ H Q):PE X e t':=λb0 s σ H Q I q=>h b0 s σ H Q I (i σ H Q q)
theorem PT.imp {X:Cx}{e:Expr}{t t':TT}(h:PT X e t)(i:∀σ H Q,t' σ H Q->t σ H Q):PT X e t':=λb0 s σ H Q I q=>h b0 s σ H Q I (i σ H Q q)
theorem PW.imp {X:Cx}{e:Expr}{t t':TT}(h:PW X e t)(i:∀σ H Q,t' σ H Q->t σ H Q):PW X e t':=λw b0 s σ H Q I q=>h w b0 s σ H Q I (i σ H Q q)
theorem PA.imp {X:Cx}{e:List Expr}{t t':TA}(h:PA X e t)(i:∀σ H Q,t' σ H Q->t σ H Q):PA X e t':=λpos b0 s σ H Q I q=>h pos b0 s σ H Q I (i σ H Q q)
theorem fN.mono {K H ι h f d g' Q}(e:Ext H ι h f)(p:fN K H ι d g' Q):fN K h f d g' Q:=λa b v c r q=>p a b v (e.trans c) r q
theorem qF.mono {K H ι f d g' Q}(e:Ext H ι f d)(p:qF K H ι g' Q):qF K f d g' Q:=λc a b r=>p c a (e.trans b) r
theorem tD.bind {K f}{σ:L2.St}{H:Hp}{Q:VK}{ι c g d g'}(G0:aw K H ι g)(i:bo K H ι c σ)(h:f c g=some (d,g'))
  (k:∀H1 ι1 v,Ext H ι H1 ι1->aw K H1 ι1 g'->bo K H1 ι1 c σ->Rel K H1 ι1 d v->Q v H1):tD K f σ H Q :=
 ⟨ι,c,g,d,g',G0,i,h,λa b v e r q=>k a b v e r (i.ext e) q⟩
theorem iZ.bind {K f}{σ:L2.St}{H:Hp}{Q:List V->Hp->Prop}{ι c g d g'}(G0:aw K H ι g)(i:bo K H ι c σ)(h:f c g=some (d,g'))
  (k:∀H1 ι1 v,Ext H ι H1 ι1->aw K H1 ι1 g'->bo K H1 ι1 c σ->ag K H1 ι1 d v->Q v H1):iZ K f σ H Q :=
 ⟨ι,c,g,d,g',G0,i,h,λa b v e r q=>k a b v e r (i.ext e) q⟩
theorem lA.bind {K f}{σ:L2.St}{H:Hp}{Q:Bool->Hp->Prop}{ι c g d g'}(G0:aw K H ι g)(i:bo K H ι c σ)(h:f c g=some (d,g'))
  (k:∀H1 ι1,Ext H ι H1 ι1->aw K H1 ι1 g'->bo K H1 ι1 c σ->Q d H1):lA K f σ H Q :=
 ⟨ι,c,g,d,g',G0,i,h,λb a e r=>k b a e r (i.ext e)⟩
section
variable {X:Cx}{a b c e:Expr}{es rest:List Expr}{pos:Pos}{fa fb fc:FE}{fr:FA}{ga gb:FT}
noncomputable def fC (d:D):FE:=λ_ g=>some (d,g)
noncomputable def aa (i:Nat):FE:=λσ g=>match σ[i]? with|some (some d)=>some (d,g)|_=>none
theorem Mv {i j pos}:DE X (.Constant (.int i) j pos) (fC (.int i)):=.of (PE.imp Lc λσ H Q h=>by obtain⟨ι,a,g,d,b,G0,c,h,p⟩:=h;cases h;exact p H ι _ Ext.refl G0 (by simp[Rel]))
theorem Mw {i j pos}:DE X (.Constant (.str i) j pos) (fC (.str i)):=.of (PE.imp Le λσ H Q h=>by obtain⟨ι,a,g,d,b,G0,c,h,p⟩:=h;cases h;exact p H ι _ Ext.refl G0 (by simp[Rel]))
theorem QG {i j pos}:DE X (.Constant (.bool i) j pos) (fC (.bl i)):=.of (PE.imp Qi λσ H Q h=>by obtain⟨ι,a,g,d,b,G0,c,h,p⟩:=h;cases h;exact p H ι _ Ext.refl G0 (by simp[Rel]))
theorem Mx {j pos}:DE X (.Constant .none j pos) (fC .ax):=.of (PE.imp Ld λσ H Q h=>by obtain⟨ι,a,g,d,b,G0,c,h,p⟩:=h;cases h;exact p H ι _ Ext.refl G0 (by simp[Rel]))
theorem My (i:Nat){x:Str}{pos:Pos}(k:X.N[i]? = some x)(l:Bv X.env.scope x)(n:(x == ("__debug__":Str))=false)
   (o:(x == ("__classdict__":Str))=false):DE X (.Name x pos) (aa i):=.of (PE.imp (Lb k l n o) λσ H Q h=>by
 obtain⟨ι,j,g,d,g',G0,f,h,p⟩:=h;unfold aa at h;split at h
 . rename_i a e
   obtain⟨rfl,rfl⟩:a=d/\g=g':=by cases h;exact⟨rfl,rfl⟩
   obtain⟨v,b,c⟩:=f.2 i _ e;exact⟨v,b,p H ι v Ext.refl G0 c⟩
 . cases h)
theorem Jj {x:Str}{v:V}{u:Value}{d:D}(f:Gl X x)(j:X.mg x=some u)(r:RelV v u)(rd:∀K H ι,Rel K H ι d v)(i:(x == ("__debug__":Str))=false):DE X (.Name x pos) (fC d):=.of (
 PE.imp (rP f j r i) λσ H Q h=>by obtain⟨ι,a,g,d,b,G0,c,h,p⟩:=h;cases h;exact p H ι _ Ext.refl G0 (rd _ _ _))
inductive dB (K:KW)(o:D->D->G->Option (D×G))(x:V)(y:V)(H:Hp)(Q:VK):Prop
 |mk (ι:Ix) (g:G) (d1:D) (d2:D) (d:D) (g':G) (h0:aw K H ι g) (h1:Rel K H ι d1 x) (h2:Rel K H ι d2 y) (h3:o d1 d2 g=some (d,g')) (h4:fN K H ι d g' Q):dB K o x y H Q
inductive Mz (K:KW)(o:D->G->Option (D×G))(x:V)(H:Hp)(Q:VK):Prop
 |mk (ι:Ix) (g:G) (d1:D) (d:D) (g':G) (h0:aw K H ι g) (h1:Rel K H ι d1 x) (h2:o d1 g=some (d,g')) (h3:fN K H ι d g' Q):Mz K o x H Q
inductive kH (K:KW)(o:List D->G->Option (D×G))(xs:List V)(H:Hp)(Q:VK):Prop
 |mk (ι:Ix) (g:G) (ds:List D) (d:D) (g':G) (h0:aw K H ι g) (h1:ag K H ι ds xs) (h2:o ds g=some (d,g')) (h3:fN K H ι d g' Q):kH K o xs H Q
noncomputable def ak (o:D->D->G->Option (D×G))(fa fb:FE):FE:=λσ g=>(fa σ g).bind λr=>(fb σ r.2).bind λq=>o r.1 q.1 q.2
noncomputable def qG (o:D->G->Option (D×G))(fa:FE):FE:=λσ g=>(fa σ g).bind λr=>o r.1 r.2
theorem bind_some {d i:Type}{x:Option d}{f:d->Option i}{b:i}(h:x.bind f=some b):∃a,x=some a/\f a=some b:=by
 cases x with
 |none=>cases h|some a=>exact⟨a,rfl,h⟩
theorem qH {K}{o:D->D->G->Option (D×G)}{σ:L2.St}{H:Hp}{Q:VK}(h:tD K (ak o fa fb) σ H Q):BH (dB K o) (tD K fa) (tD K fb) σ H Q:=by obtain⟨ι,z,g,d,j,G0,q,h,p⟩:=h;obtain⟨⟨x,g1⟩,i,h⟩:=bind_some h;obtain⟨⟨b,g2⟩,s,h⟩:=bind_some h;refine tD.bind G0 q i λH1 ι1 v c r f e=>?_;refine tD.bind r f s λH2 l u a k y n=>?_;exact⟨l,g2,x,b,d,j,k,Rel.ext a _ e,n,h,p.mono (c.trans a)⟩
theorem jy {op:adT}{o:D->D->G->Option (D×G)}(d:bq X (abJ op) (dB X.kw o))(f:DE X a fa)(i:DE X b fb):DE X (.BinOp a op b pos) (ak o fa fb):=.of (
 PE.imp (Qs d f.un i.un) λσ H Q h=>qH h)
theorem MA {op:CmpOp}{o:D->D->G->Option (D×G)}(d:bq X (abm op) (dB X.kw o))(f:DE X a fa)(i:DE X b fb)(j:aej op b=false):DE X (.Compare a [op] [b] pos) (ak o fa fb):=.of (
 PE.imp (IQ d f.un i.un j) λσ H Q h=>qH h)
theorem QH {op:UnaryOp}{o:D->G->Option (D×G)}(r:BG X (unaryOp op) (Mz X.kw o))(s:DE X a fa):DE X (.UnaryOp op a pos) (qG o fa):=.of (
 PE.imp (Qt r s.un) λσ H Q h=>by obtain⟨ι,q,g,d,f,G0,i,h,p⟩:=h;obtain⟨⟨l,g1⟩,e,h⟩:=bind_some h;refine tD.bind G0 i e λH1 j v b k n c=>?_;exact⟨j,g1,l,d,f,k,c,h,p.mono b⟩)
noncomputable def dq (r:Option (D×G)):Option (Bool×G):=r.bind λr=>match r.1 with|.bl b=>some (b,r.2)|_=>none
theorem vJ {r:Option (D×G)}{b:Bool}{g:G}(h:dq r=some (b,g)):r=some (.bl b,g):=by
 obtain⟨⟨d,g1⟩,a,h⟩:=bind_some h;cases d with
 |bl k=>cases h;exact a|_=>cases h
def aH (f:FE):FT:=λσ g=>dq (f σ g)
theorem E2 {K f}{σ:L2.St}{H:Hp}{Q:Bool->Hp->Prop}(h:lA K (aH f) σ H Q):uI (tD K f) σ H Q:=by
 obtain⟨ι,q,g,b,o,G0,l,h,p⟩:=h;obtain⟨⟨d,g1⟩,e,h⟩:=bind_some h;cases d with
 |bl k =>
  cases h;exact tD.bind G0 l e λH1 i v a j n c=>⟨b,by simpa[Rel]using c,p H1 i a j⟩
 |_=>cases h
theorem Ak {t t':TE}(i:∀σ H Q,t' σ H Q->t σ H Q){σ:L2.St}{H:Hp}{Q:Bool->Hp->Prop}(h:uI t' σ H Q):uI t σ H Q:=i σ H _ h
theorem MC {op:CmpOp}{o:D->D->G->Option (D×G)}(d:bq X (abm op) (dB X.kw o))(f:DE X a fa)(i:DE X b fb)(j:aej op b=false):DT X (.Compare a [op] [b] pos) (aH (ak o fa fb)):=.of (
 PT.imp (IS d f.un i.un j) λσ H Q h=>Ak (λ_ _ _=>qH) (E2 h))
noncomputable def iE (d:D)(g:G):Option Bool:=match d with
 |.ax=>some false|.bl b=>some b|.int i=>some (i != 0)|.tup xs=>some (!xs.isEmpty)|.lst xs=>some (!xs.isEmpty)|.dn=>some false|.ref n=>match g[n]? with|some xs=>some (!xs.isEmpty)|none=>none
 |.str _=>none|.aC _=>none|.fn _ _=>none
def nE (f:FE):FT:=λσ g=>(f σ g).bind λr=>(iE r.1 r.2).map λb=>(b,r.2)
theorem ag.isEmpty {K H ι}{ds:List D}{vs:List V}(h:ag K H ι ds vs):ds.isEmpty=vs.isEmpty:=by have:=h.length;cases ds<;>cases vs<;>simp_all
theorem yI {K H ι g d v b}(G0:aw K H ι g)(r:Rel K H ι d v)(h:iE d g=some b):EK K v H b:=by
 cases d with
 |ax=>simp only[Rel]at r;subst r;cases h;rfl|bl x=>simp only[Rel]at r;subst r;cases h;rfl|int x=>simp only[Rel]at r;subst r;cases h;rfl|str x=>cases h
 |tup xs =>
  simp only[Rel]at r;obtain⟨a,c,rfl,f,i⟩:=r;cases h;exact .inr (.inl ⟨c,f.sq,by rw[i.isEmpty]⟩)
 |lst xs =>
  simp only[Rel]at r;obtain⟨a,c,rfl,f,i⟩:=r;cases h;exact .inl ⟨c,f.sq,by rw[i.isEmpty]⟩
 |dn =>
  simp only[Rel]at r;obtain⟨a,rfl,f,_⟩:=r;cases h;exact .inr (.inr ⟨[],f,rfl⟩)
 |ref n =>
  simp only[Rel]at r;obtain⟨a,rfl,j⟩:=r;simp only[iE]at h;split at h
  . rename_i xs e
    cases h;obtain⟨c,k,l⟩:=G0.at e j;exact .inl ⟨c,.of k,by rw[l.isEmpty]⟩
  . cases h
 |aC n=>cases h|fn x=>cases h
theorem MD (s:DE X a fa)(r:∀whole,isTrue a X.env whole=(do let v <- whole;age a.pos;ac1 [v] (truthy v))):DT X a (nE fa):=.of (
 PT.imp (EL s.un r) λσ H Q h=>by
  obtain⟨ι,q,g,b,o,G0,l,h,p⟩:=h;obtain⟨⟨d,g1⟩,i,h⟩:=bind_some h;cases ht:iE d g1 with
  |none=>rw[ht]at h;cases h
  |some k =>
   rw[ht]at h;cases h;exact tD.bind G0 l i λH1 j v e c n f=>⟨b,yI c f ht,p H1 j e c⟩)
noncomputable def jZ (ga gb:FT):FT:=λσ g=>(ga σ g).bind λr=>if r.1=true then gb σ r.2 else some (false,r.2)
noncomputable def B9 (ga gb:FT):FT:=λσ g=>(ga σ g).bind λr=>if r.1=true then some (true,r.2)else gb σ r.2
noncomputable def Al (ga:FT):FT:=λσ g=>(ga σ g).bind λr=>some (!r.1,r.2)
theorem Jk (d:DT X a ga):DW X (.BoolOp .And [a] pos) ga:=.of (IF d.un)
theorem ME (d:DT X a ga):DW X (.BoolOp .Or [a] pos) ga:=.of (Lf d.un)
theorem MF (r:DT X a ga)(q:DW X (.BoolOp .And (b::rest) pos) gb):DW X (.BoolOp .And (a::b::rest) pos) (jZ ga gb):=.of (
 PW.imp (Lg r.un q.un) λσ H Q h=>by
  obtain⟨ι,n,g,k,l,G0,o,h,p⟩:=h;obtain⟨⟨f,g1⟩,j,h⟩:=bind_some h;refine lA.bind G0 o j λH1 d c e i=>?_;cases f with
  |true=>simp only[if_true]at h ⊢;exact⟨d,n,g1,k,l,e,i,h,p.mono c⟩|false=>simp only[aaz,if_false]at h ⊢;cases h;exact p H1 d c e)
theorem QI (r:DT X a ga)(q:DW X (.BoolOp .Or (b::rest) pos) gb):DW X (.BoolOp .Or (a::b::rest) pos) (B9 ga gb):=.of (
 PW.imp (Qj r.un q.un) λσ H Q h=>by
  obtain⟨ι,n,g,k,l,G0,o,h,p⟩:=h;obtain⟨⟨f,g1⟩,j,h⟩:=bind_some h;refine lA.bind G0 o j λH1 d c e i=>?_;cases f with
  |false=>simp only[aaz,if_false]at h ⊢;exact⟨d,n,g1,k,l,e,i,h,p.mono c⟩|true=>simp only[if_true]at h ⊢;cases h;exact p H1 d c e)
theorem DW.dt (h:DW X a ga):DT X a ga:=.of (PW.pt h.un)
theorem MG (o:DT X a ga):DT X (.UnaryOp .Not a pos) (Al ga):=.of (
 PT.imp (Lh o.un) λσ H Q h=>by obtain⟨ι,n,g,k,l,G0,f,h,p⟩:=h;obtain⟨⟨i,g1⟩,c,h⟩:=bind_some h;cases h;exact lA.bind G0 f c λH1 d b e j=>p H1 d b e)
def jz (fa fb:FE):FE:=λσ g=>(dq (fa σ g)).bind λr=>if r.1=true then fb σ r.2 else some (.bl false,r.2)
def E3 (fa fb:FE):FE:=λσ g=>(dq (fa σ g)).bind λr=>if r.1=true then some (.bl true,r.2)else fb σ r.2
theorem MH {op}(h:DE X a fa):DE X (.BoolOp op [a] pos) fa:=.of (Li h.un)
theorem B_ (s:DE X a fa)(r:DE X (.BoolOp .And (b::rest) pos) fb):DE X (.BoolOp .And (a::b::rest) pos) (jz fa fb):=.of (
 PE.imp (Lj s.un r.un) λσ H Q h=>by
  obtain⟨ι,o,g,d,n,G0,q,h,p⟩:=h;obtain⟨⟨f,g1⟩,c,h⟩:=bind_some h;have c:=vJ c;refine tD.bind G0 q c λH1 i v e j l k=>⟨f,by simpa[Rel]using k,?_⟩
  cases f with
  |true=>simp only[if_true]at h ⊢;exact⟨i,o,g1,d,n,j,l,h,p.mono e⟩|false=>simp only[aaz,if_false]at h ⊢;cases h;exact p H1 i _ e j (by simp[Rel]))
theorem QJ (s:DE X a fa)(r:DE X (.BoolOp .Or (b::rest) pos) fb):DE X (.BoolOp .Or (a::b::rest) pos) (E3 fa fb):=.of (
 PE.imp (Ql s.un r.un) λσ H Q h=>by
  obtain⟨ι,o,g,d,n,G0,q,h,p⟩:=h;obtain⟨⟨f,g1⟩,c,h⟩:=bind_some h;have c:=vJ c;refine tD.bind G0 q c λH1 i v e j l k=>⟨f,by simpa[Rel]using k,?_⟩
  cases f with
  |false=>simp only[aaz,if_false]at h ⊢;exact⟨i,o,g1,d,n,j,l,h,p.mono e⟩|true=>simp only[if_true]at h ⊢;cases h;exact p H1 i _ e j (by simp[Rel]))
noncomputable def An (ga:FT)(fa fb:FE):FE:=λσ g=>(ga σ g).bind λr=>if r.1=true then fa σ r.2 else fb σ r.2
theorem MI (u:DT X c ga)(s:DE X a fa)(r:DE X b fb):DE X (.IfExp c a b pos) (An ga fa fb):=.of (
 PE.imp (EB u.un s.un r.un) λσ H Q h=>by
  obtain⟨ι,j,g,d,i,G0,q,h,p⟩:=h;obtain⟨⟨n,g1⟩,o,h⟩:=bind_some h;refine lA.bind G0 q o λH1 k e l f=>?_;cases n with
  |true=>simp only[if_true]at h ⊢;exact⟨k,j,g1,d,i,l,f,h,p.mono e⟩|false=>simp only[aaz,if_false]at h ⊢;exact⟨k,j,g1,d,i,l,f,h,p.mono e⟩)
noncomputable def aj:FA:=λ_ g=>some ([],g)
noncomputable def af (fa:FE)(fr:FA):FA:=λσ g=>(fa σ g).bind λr=>(fr σ r.2).bind λq=>some (r.1::q.1,q.2)
theorem Ca:DA X [] aj:=.of (PA.imp jS λσ H Q h=>by obtain⟨ι,a,g,d,b,G0,c,h,p⟩:=h;cases h;exact p H ι _ Ext.refl G0 (by simp[ag]))
theorem rV (A:DE X e fa)(C:DA X es fr)(B:aay (e::es) X.env=(false,eval e X.env)::aay es X.env):DA X (e::es) (af fa fr):=.of (
 PA.imp (fV A.un C.un B) λσ H Q h=>by obtain⟨ι,z,g,d,y,G0,n,h,p⟩:=h;obtain⟨⟨d1,g1⟩,i,h⟩:=bind_some h;obtain⟨⟨s,g2⟩,r,h⟩:=bind_some h;cases h;refine tD.bind G0 n i λH1 ι1 v b o f c=>?_;refine iZ.bind o f r λq k u a j x l=>?_;refine p q k _ (b.trans a) j ?_;simp only[ag];exact⟨_,_,rfl,Rel.ext a _ c,l⟩)
noncomputable def az (n:Nat):Bool:=decide (n<=16777216)
theorem az.le {n:Nat}(h:az n=true):n<=aax:=by rw[ac0];exact of_decide_eq_true h
def aI (ds:List D)(g:G):Option (D×G):=if az ds.length=true then some (.tup ds,g)else none
def bQ (ds:List D)(g:G):Option (D×G):=if az ds.length=true then some (.lst ds,g)else none
def mkRef (ds:List D)(g:G):Option (D×G):=if az ds.length=true then some (.ref g.length,g ++ [ds])else none
theorem E4 {K H ι g ds vs d g' Q}(G0:aw K H ι g)(r:ag K H ι ds vs)(h:aI ds g=some (d,g'))(p:fN K H ι d g' Q):vs.length<=aax /\ ∀q,H q=none->Q (.ref q) (upd H q (.tup vs)):=by
 unfold aI at h;split at h
 . rename_i z
   cases h;refine⟨by rw[<- r.length];exact az.le z,λq a=>p _ _ _ (Ext.lay a) (G0.lay a) ?_⟩;simp only[Rel];exact⟨q,vs,rfl,.inl ⟨.inl aR,G0.fresh a⟩,ag.ext (Ext.lay a) _ r⟩
 . cases h
theorem E5 {K H ι g ds vs d g' Q}(G0:aw K H ι g)(r:ag K H ι ds vs)(h:bQ ds g=some (d,g'))(p:fN K H ι d g' Q):vs.length<=aax /\ ∀q,H q=none->Q (.ref q) (upd H q (.lst vs)):=by
 unfold bQ at h;split at h
 . rename_i z
   cases h;refine⟨by rw[<- r.length];exact az.le z,λq a=>p _ _ _ (Ext.lay a) (G0.lay a) ?_⟩;simp only[Rel];exact⟨q,vs,rfl,.inl ⟨.inl aR,G0.fresh a,G0.gZ a⟩,ag.ext (Ext.lay a) _ r⟩
 . cases h
theorem E6 {K H ι g ds vs d g' Q}(G0:aw K H ι g)(r:ag K H ι ds vs)(h:mkRef ds g=some (d,g'))(p:fN K H ι d g' Q):vs.length<=aax /\ ∀q,H q=none->Q (.ref q) (upd H q (.lst vs)):=by
 unfold mkRef at h;split at h
 . rename_i z
   cases h;refine⟨by rw[<- r.length];exact az.le z,λq a=>p _ _ _ (Ext.push a) (G0.push a r) ?_⟩;simp only[Rel];exact⟨q,rfl,dA.new G0.len⟩
 . cases h
noncomputable def aM (m:List D->G->Option (D×G))(fr:FA):FE:=λσ g=>(fr σ g).bind λr=>m r.1 r.2
theorem Cb {o}(h:DA X es fr):DE X (.Tuple es o pos) (aM aI fr):=.of (PE.imp (LS h.un) λσ H Q h=>by obtain⟨ι,k,g,d,j,G0,e,h,p⟩:=h;obtain⟨⟨n,g1⟩,c,h⟩:=bind_some h;exact iZ.bind G0 e c λH1 l v a f i b=>E4 f b h (p.mono a))
theorem Cc (h:DA X es fr):DE X (.List es pos) (aM bQ fr):=.of (PE.imp (BL h.un) λσ H Q h=>by obtain⟨ι,k,g,d,j,G0,e,h,p⟩:=h;obtain⟨⟨n,g1⟩,c,h⟩:=bind_some h;exact iZ.bind G0 e c λH1 l v a f i b=>E5 f b h (p.mono a))
theorem vK (h:DA X es fr):DE X (.List es pos) (aM mkRef fr):=.of (PE.imp (BL h.un) λσ H Q h=>by obtain⟨ι,k,g,d,j,G0,e,h,p⟩:=h;obtain⟨⟨n,g1⟩,c,h⟩:=bind_some h;exact iZ.bind G0 e c λH1 l v a f i b=>E6 f b h (p.mono a))
end
set_option genInjectivity true in
inductive F where
 |nx|rt (d:D)|bk|ct
abbrev FS:=Sg->G->Option (F×Sg×G)
def uM (K:KW)(H:Hp)(ι:Ix)(r:F)(b:Sg)(g':G)(a:Ends):Prop :=
 ∀H' ι',Ext H ι H' ι'->aw K H' ι' g'->match r with
  |.nx=>∀σ',bo K H' ι' b σ'->a.nx σ' H'|.bk=>∀σ',bo K H' ι' b σ'->a.bk σ' H'|.ct=>∀σ',bo K H' ι' b σ'->a.ct σ' H'|.rt d=>∀v,Rel K H' ι' d v->a.rt v H'
inductive Hc (K:KW)(f:FS)(Dn:Ends)(σ:L2.St)(H:Hp):Prop
 |mk (ι:Ix) (σd:Sg) (g:G) (r:F) (bC:Sg) (g':G) (h0:aw K H ι g) (h1:bo K H ι σd σ) (h2:f σd g=some (r,bC,g')) (h3:uM K H ι r bC g' Dn):Hc K f Dn σ H
structure DS (X:Cx)(st:Stmt)(f:FS):Prop where of ::
 un:PS X st (Hc X.kw f)
structure kI (X:Cx)(pA:List Stmt)(f:FS):Prop where of ::
 un:gW X pA (Hc X.kw f)
theorem PS.imp {X:Cx}{e:Stmt}{t t':TS}(h:PS X e t)(i:∀Dn σ H,t' Dn σ H->t Dn σ H):PS X e t':=λb0 s σ H Q I q=>h b0 s σ H Q I (i Q σ H q)
theorem gW.imp {X:Cx}{e:List Stmt}{t t':TS}(h:gW X e t)(i:∀Dn σ H,t' Dn σ H->t Dn σ H):gW X e t':=λb0 s σ H Q I q=>h b0 s σ H Q I (i Q σ H q)
theorem uM.mono {K H ι h f r i g' Dn}(e:Ext H ι h f)(p:uM K H ι r i g' Dn):uM K h f r i g' Dn:=λd a b c=>p d a (e.trans b) c
noncomputable def bb:FS:=λσ g=>some (.nx,σ,g)
noncomputable def ay (f1 a:FS):FS:=λσ g=>(f1 σ g).bind λr=>match r.1 with|.nx=>a r.2.1 r.2.2|_=>some r
noncomputable def aO (f:FE):FS:=λσ g=>(f σ g).bind λr=>some (.rt r.1,σ,r.2)
noncomputable def eI (f:FE):FS:=λσ g=>(f σ g).bind λr=>some (.nx,σ,r.2)
noncomputable def cy (c:FT)(f1 a:FS):FS:=λσ g=>(c σ g).bind λr=>if r.1=true then f1 σ r.2 else a σ r.2
section
variable {X:Cx}{st:Stmt}{rest:List Stmt}{f1 f2:FS}{e:Expr}{fe:FE}{pos:Pos}{gc:FT}
theorem Jl:kI X [] bb:=.of (gW.imp IG λc σ H h=>by obtain⟨ι,b,g,r,d,e,G0,a,h,p⟩:=h;cases h;exact p H ι Ext.refl G0 σ a)
theorem E_ (s:DS X st f1)(u:kI X rest f2):kI X (st::rest) (ay f1 f2):=.of (gW.imp (EC s.un u.un) λq σ H h=>by
 obtain⟨ι,k,g,r,l,j,G0,n,h,p⟩:=h;obtain⟨⟨f,e,g1⟩,s,h⟩:=bind_some h;refine⟨ι,k,g,f,e,g1,G0,n,s,λH1 b a c=>?_⟩;cases f with
 |nx=>exact λo i=>⟨b,e,g1,r,l,j,c,i,h,p.mono a⟩|bk=>cases h;exact p H1 b a c|ct=>cases h;exact p H1 b a c|rt d=>cases h;exact p H1 b a c)
theorem Jm (a:DS X st f1):kI X [st] f1:=.of (IH a.un)
theorem Jn:DS X (.Pass pos) bb:=.of (PS.imp II λc σ H h=>by obtain⟨ι,b,g,r,d,e,G0,a,h,p⟩:=h;cases h;exact p H ι Ext.refl G0 σ a)
theorem MJ (s:DE X e fe):DS X (.Return (some e) pos) (aO fe):=.of (PS.imp (Ln s.un) λl σ H h=>by obtain⟨ι,n,g,r,o,k,G0,d,h,p⟩:=h;obtain⟨⟨q,g1⟩,c,h⟩:=bind_some h;cases h;exact tD.bind G0 d c λH1 f v a i j b=>p H1 f a i v b)
theorem Jo (s:DE X e fe)(u:adz e none pos.line X.env=pure false):DS X (.Expr e pos) (eI fe):=.of (PS.imp (IJ s.un u) λl σ H h=>by obtain⟨ι,n,g,r,o,k,G0,d,h,p⟩:=h;obtain⟨⟨q,g1⟩,c,h⟩:=bind_some h;cases h;exact tD.bind G0 d c λH1 f v a i b j=>p H1 f a i σ b)
theorem MK {x j pos f}:DS X (.Expr (.Constant (.str x) j pos) f) bb:=.of (PS.imp Lm λc σ H h=>by obtain⟨ι,b,g,r,d,e,G0,a,h,p⟩:=h;cases h;exact p H ι Ext.refl G0 σ a)
theorem QK {c:Expr}{a b:List Stmt}(v:DT X c gc)(u:kI X a f1)(x:kI X b f2):DS X (.If c a b pos) (cy gc f1 f2):=.of (PS.imp (Qn v.un u.un x.un) λs σ H h=>by
 obtain⟨ι,i,g,r,n,f,G0,q,h,p⟩:=h;obtain⟨⟨k,g1⟩,o,h⟩:=bind_some h;refine lA.bind G0 q o λH1 j d l e=>?_;cases k with
 |true=>simp only[if_true]at h ⊢;exact⟨j,i,g1,r,n,f,l,e,h,p.mono d⟩|false=>simp only[aaz,if_false]at h ⊢;exact⟨j,i,g1,r,n,f,l,e,h,p.mono d⟩)
abbrev FG:=D->Sg->G->Option (Sg×G)
abbrev pB:=List D->Sg->G->Option (Sg×G)
inductive ML (K:KW)(f:FG)(v:V)(σ:L2.St)(H:Hp)(Q:(L2.St->Hp->Prop)):Prop
 |mk (ι:Ix) (σd:Sg) (g:G) (d:D) (bC:Sg) (g':G) (h0:aw K H ι g) (h1:bo K H ι σd σ) (h2:Rel K H ι d v) (h3:f d σd g=some (bC,g')) (h4:∀H' ι' σ',Ext H ι H' ι'->aw K H' ι' g'->bo K H' ι' bC σ'->Q σ' H'):ML K f v σ H Q
inductive MM (K:KW)(f:pB)(v:List V)(σ:L2.St)(H:Hp)(Q:(L2.St->Hp->Prop)):Prop
 |mk (ι:Ix) (σd:Sg) (g:G) (d:List D) (bC:Sg) (g':G) (h0:aw K H ι g) (h1:bo K H ι σd σ) (h2:ag K H ι d v) (h3:f d σd g=some (bC,g')) (h4:∀H' ι' σ',Ext H ι H' ι'->aw K H' ι' g'->bo K H' ι' bC σ'->Q σ' H'):MM K f v σ H Q
structure DG (X:Cx)(tg:Expr)(f:FG):Prop where of ::
 un:PG X tg (ML X.kw f)
structure Cd (X:Cx)(tg:List Expr)(f:pB):Prop where of ::
 un:pd X tg (MM X.kw f)
theorem PG.imp {X:Cx}{e:Expr}{t t':TG}(h:PG X e t)(i:∀v σ H Q,t' v σ H Q->t v σ H Q):PG X e t':=λb0 s σ H v u Q I r q=>h b0 s σ H v u Q I r (i v σ H Q q)
theorem pd.imp {X:Cx}{e:List Expr}{t t':s_}(h:pd X e t)(i:∀v σ H Q,t' v σ H Q->t v σ H Q):pd X e t':=λb0 s σ H v u Q I r q=>h b0 s σ H v u Q I r (i v σ H Q q)
noncomputable def gN (i:Nat):FG:=λd σ g=>some (σ.set i (some d),g)
theorem bo.set {K H ι c σ d v}(S:bo K H ι c σ)(r:Rel K H ι d v)(i:Nat):bo K H ι (c.set i (some d)) (σ.set i (some v)):=by
 refine⟨by simp[S.1],λj b q=>?_⟩;by_cases e:i=j
 . subst e
   have a:i < c.length:=by
    by_cases a:i < c.length
    . exact a
    . rw[List.getElem?_eq_none_iff.mpr (by simpa using a)]at q;cases q
   rw[aav a]at q;cases q;exact⟨v,by rw[aav (by rw[<- S.1];exact a)],r⟩
 . rw[aam e]at q ⊢
   exact S.2 j b q
theorem Jp {i:Nat}{x:Str}(l:X.N.Nodup)(f:X.N[i]? = some x)(k:Loc X.env.scope x)(j:X.fn x=true\/X.env.scope.names.lookup x=some .local):DG X (.Name x pos) (gN i):=.of (
 PG.imp (IK l f k j) λv σ H Q h=>by obtain⟨ι,b,g,d,c,e,G0,a,r,h,p⟩:=h;cases h;exact p H ι _ Ext.refl G0 (a.set r i))
noncomputable def g_:pB:=λds σ g=>match ds with| []=>some (σ,g)|_=>none
noncomputable def bR (t:FG)(u:pB):pB:=λds σ g=>match ds with|d::r=>(t d σ g).bind λq=>u r q.1 q.2| []=>none
theorem Jq:Cd X [] g_:=.of (pd.imp IL λv σ H Q h=>by
 obtain⟨ι,b,g,d,c,e,G0,a,r,h,p⟩:=h;cases d with
 |nil=>cases h;simp only[ag]at r;exact⟨r,p H ι _ Ext.refl G0 a⟩|cons _ _=>cases h)
theorem Fb {e:Expr}{es:List Expr}{t:FG}{u:pB}(A:DG X e t)(B:Cd X es u)
  (C:(ab7 (e::es) X.env).map (·.2)=adG e X.env::(ab7 es X.env).map (·.2)):Cd X (e::es) (bR t u):=.of (pd.imp (EF A.un B.un C) λv σ H Q h=>by
 obtain⟨ι,q,g,d,bC,l,G0,S0,r,h,p⟩:=h;cases d with
 |nil=>cases h
 |cons d ds =>
  simp only[ag]at r;obtain⟨v0,s,rfl,c,k⟩:=r;obtain⟨⟨a,g1⟩,A,h⟩:=bind_some h;exact⟨v0,s,rfl,ι,q,g,d,a,g1,G0,S0,c,A,λH1 x σ' b z i=>⟨x,a,g1,ds,bC,l,z,i,ag.ext b _ k,h,λH2 o y j n f=>p H2 o y (b.trans j) n f⟩⟩)
noncomputable def gT (n:Nat)(t:pB):FG:=λd σ g=>match d with|.tup xs=>if xs.length=n then t xs σ g else none|_=>none
theorem MN {es:List Expr}{k:Nat}{t:pB}{n:Nat}(o:X.calm=true)(h:Cd X es t)
  (s:(ab7 es X.env).length=n) (q:(ab7 es X.env).findIdx? (·.1)=none):DG X (.Tuple es k pos) (gT n t):=.of (PG.imp (Lp o h.un s q) λv σ H Q h=>by
 obtain⟨ι,f,g,d,j,c,G0,l,r,h,p⟩:=h;cases d with
 |tup xs =>
  simp only[Rel]at r;obtain⟨a,e,rfl,i,b⟩:=r;simp only[gT]at h;split at h
  . rename_i z
    exact⟨a,e,rfl,i.sq,by rw[<- b.length];exact z,ι,f,g,xs,j,c,G0,l,b,h,p⟩
  . cases h
 |_=>cases h)
noncomputable def aD (f:FE)(t:FG):FS:=λσ g=>(f σ g).bind λr=>(t r.1 σ r.2).bind λq=>some (.nx,q.1,q.2)
theorem Jr {K t}{fe:FE}{A σ H}(h:Hc K (aD fe t) A σ H):EG (tD K fe) (ML K t) A σ H:=by obtain⟨ι,o,g,r,bC,z,G0,n,h,p⟩:=h;obtain⟨⟨y,g1⟩,i,h⟩:=bind_some h;obtain⟨⟨a,g2⟩,x,h⟩:=bind_some h;cases h;exact tD.bind G0 n i λH1 q v c s f d=>⟨q,o,g1,y,a,g2,s,f,d,x,λu l e j k b=>p u l (c.trans j) k e b⟩
theorem vL {tg:Expr}{t:FG}(c:DE X e fe)(d:DG X tg t)(f:adH [tg] e pos.line X.env=pure false)(hw:adf [tg] e X.env=pure none)
 (b:(ab7 [tg] X.env).map (·.2)= [adG tg X.env]):DS X (.Assign [tg] e pos) (aD fe t):=.of (PS.imp (Lr c.un d.un f hw b) λa σ H h=>Jr h)
theorem Ce {i:Nat}{x:Str}{u:Pos}(E:X.N.Nodup)(y:X.N[i]? = some x)(C:Loc X.env.scope x)(z:DE X e fe)(B:adz e (some (.Name x u)) pos.line X.env=pure false)(A:X.fn x=true\/X.env.scope.names.lookup x=some .local):
  DS X (.Assign [.Name x u] e pos) (aD fe (gN i)):=.of (PS.imp (Ls E y C z.un B A) λn σ H h=>by
 obtain⟨ι,o,g,r,q,l,G0,f,h,p⟩:=h;obtain⟨⟨s,g1⟩,d,h⟩:=bind_some h;cases h;exact tD.bind G0 f d λH1 j v a k c b=>p H1 j a k _ (c.set b i))
def putD (o i v:D)(g:G):Option G:=match o,i with
 |.ref n,.int k=>match g[n]? with
  |some xs=>match iu xs.length k with
   |some j=>some (g.set n (xs.set j v))|none=>none
  |none=>none
 |_,_=>none
end
abbrev FI:=Sg->G->Option (List D×G)
structure i0 (H:Hp)(ι:Ix)(H':Hp)(ι':Ix):Prop where
 same:∀a o,H a=some o->a ∉ ι.ix->H' a=some o
 there:∀a,H a≠none->H' a≠none
 more:∃m,ι'.ix=ι.ix++m /\ ∀a∈m,H a=none
 ck:∃hs,ι'.hd=hs++ι.hd /\ ∀b∈hs,H b=none
 mX:∀i,i < ι.ix.length->ι'.kd i=ι.kd i
theorem Ext.dW {H ι a ι1}(e:Ext H ι a ι1):i0 H ι a ι1:=⟨e.same,e.there,e.more,⟨[],e.ck,λ_ z=>by simp at z⟩,e.mX⟩
theorem i0.old {H ι f e}(a:i0 H ι f e){c:Addr}{o:HO}(h:H c=some o)(n:c ∉ ι.ix):c ∉ e.ix:=λz=>by
 obtain⟨d,b,f1⟩:=a.more;rw[b]at z;rcases aao.mp z with z|z
 . exact n z
 . rw[f1 c z]at h;cases h
theorem i0.Fc {H ι f e}(a:i0 H ι f e){c:Addr}{o:HO}(h:H c=some o)(n:c ∉ ι.hd):c ∉ e.hd:=λz=>by
 obtain⟨d,b,f1⟩:=a.ck;rw[b]at z;rcases aao.mp z with z|z
 . rw[f1 c z]at h;cases h
 . exact n z
theorem i0.at {H ι k j}(a:i0 H ι k j){i:Nat}{c:Addr}{b:Bool}(h:dA ι i c b):dA j i c b:=by obtain⟨f,e,_⟩:=a.more;have d:=(aab.mp h.1).1;refine⟨?_,by rw[a.mX i d];exact h.2⟩;rw[e,aan d];exact h.1
theorem mW.dW {K H ι c b a xs}(e:i0 H ι c b)(h:mW K H ι a xs):mW K c b a xs:=by
 rcases h with⟨h|⟨o,h⟩,n,k⟩|h
 . exact .inl ⟨.inl (e.same _ _ h n),e.old h n,e.Fc h k⟩
 . exact .inl ⟨.inr ⟨o,e.same _ _ h n⟩,e.old h n,e.Fc h k⟩
 . exact .inr h
theorem pz.dW {K H ι c b a xs}(e:i0 H ι c b)(h:pz K H ι a xs):pz K c b a xs:=by
 rcases h with⟨h|⟨o,h⟩,n⟩|h
 . exact .inl ⟨.inl (e.same _ _ h n),e.old h n⟩
 . exact .inl ⟨.inr ⟨o,e.same _ _ h n⟩,e.old h n⟩
 . exact .inr h
mutual
theorem Rel.dW {K H ι l k}(e:i0 H ι l k):∀(d:D) {v:V},Rel K H ι d v->Rel K l k d v
 |.ax,v,h=>by simpa[Rel]using h|.bl _,v,h=>by simpa[Rel]using h|.int _,v,h=>by simpa[Rel]using h|.str _,v,h=>by simpa[Rel]using h|.tup xs,v,h=>by simp only[Rel]at h ⊢;obtain⟨a,j,f,b,i⟩:=h;exact⟨a,j,f,b.dW e,ag.dW e xs i⟩
 |.lst xs,v,h=>by simp only[Rel]at h ⊢;obtain⟨a,j,f,b,i⟩:=h;exact⟨a,j,f,b.dW e,ag.dW e xs i⟩
 |.dn,v,h=>by simp only[Rel]at h ⊢;obtain⟨a,f,b,i⟩:=h;exact⟨a,f,e.same _ _ b i,e.old b i⟩
 |.ref n,v,h=>by simp only[Rel]at h ⊢;obtain⟨a,f,b⟩:=h;exact⟨a,f,e.at b⟩
 |.aC n,v,h=>by simp only[Rel]at h ⊢;obtain⟨a,f,b⟩:=h;exact⟨a,f,e.at b⟩
 |.fn x ds,v,h=>by simp only[Rel]at h ⊢;obtain⟨a,j,f,b,i⟩:=h;exact⟨a,j,f,b.mono λc u z q=>⟨e.same _ _ q.1 q.2.1,e.old q.1 q.2.1,λy=>e.Fc q.1 (q.2.2 y)⟩,ag.dW e ds i⟩
theorem ag.dW {K H ι j i}(e:i0 H ι j i):∀(ds:List D) {vs:List V},ag K H ι ds vs->ag K j i ds vs
 | [],vs,h=>by simpa[ag]using h|d::ds,vs,h=>by simp only[ag]at h ⊢;obtain⟨v,a,b,c,f⟩:=h;exact⟨v,a,b,Rel.dW e d c,ag.dW e ds f⟩
end
def mi (K:KW)(J:It)(H:Hp)(ι:Ix)(ds:List D):Prop :=
 ∀(i:Nat) H1 ι1 g1,i0 H ι H1 ι1->aw K H1 ι1 g1->(ds.length<=i->J.stop i H1) /\ ∀d,ds[i]? = some d->J.go i H1 /\ ∀x H2,J.yt i H1 x H2->Ext H1 ι1 H2 ι1/\aw K H2 ι1 g1/\Rel K H2 ι1 d x
inductive Sy (K:KW)(f:FI)(σ:L2.St)(H:Hp)(R:(It->Hp->Prop)):Prop
 |mk (ι:Ix) (σd:Sg) (g:G) (ds:List D) (g':G) (h0:aw K H ι g) (h1:bo K H ι σd σ) (h2:f σd g=some (ds,g')) (h3:∀H' ι' J,Ext H ι H' ι'->aw K H' ι' g'->mi K J H' ι' ds->R J H'):Sy K f σ H R
structure DI (X:Cx)(tg iter:Expr)(f:FI):Prop where of ::
 un:PI X tg iter (Sy X.kw f)
theorem PI.imp {X:Cx}{tg e:Expr}{t t':TI}(h:PI X tg e t)(i:∀σ H Q,t' σ H Q->t σ H Q):PI X tg e t':=λb0 s σ H Q I q=>h b0 s σ H Q I (i σ H Q q)
theorem mi.lst {K H ι a vs ds}(l:mW K H ι a vs)(n:ag K H ι ds vs):mi K (GQ K a) H ι ds:=λi H1 j g1 b f =>
 ⟨λh=>⟨vs,(l.dW b).sq,by rw[<- n.length];exact h⟩,λd hd=>by obtain⟨v,c,e⟩:=(ag.dW b _ n).get hd;refine⟨⟨vs,v,(l.dW b).sq,c⟩,λx k y=>?_⟩;obtain⟨rfl,y⟩:=y;have:=y vs (l.dW b).sq;rw[c]at this;cases this;exact⟨Ext.refl,f,e⟩⟩
theorem mi.Vv {K H ι a vs ds}(l:pz K H ι a vs)(n:ag K H ι ds vs):mi K (LC K a) H ι ds:=λi H1 j g1 b f =>
 ⟨λh=>⟨vs,(l.dW b).sq,by rw[<- n.length];exact h⟩,λd hd=>by obtain⟨v,c,e⟩:=(ag.dW b _ n).get hd;refine⟨⟨vs,v,(l.dW b).sq,c⟩,λx k y=>?_⟩;obtain⟨rfl,y⟩:=y;have:=y vs (l.dW b).sq;rw[c]at this;cases this;exact⟨Ext.refl,f,e⟩⟩
theorem mi.gp {K H ι}{l:Int}{n:Nat}:mi K (BA l n) H ι ((aba n).map λ(k:Nat)=>D.int (l+k)):=λi H1 h g1 f b =>
 ⟨λc=>(by show n<=i;simpa using c),λd hd=>by
  have a:i<n:=by have:=(aab.mp hd).1;simpa using this
  refine⟨a,λx j y=>?_⟩;obtain⟨rfl,rfl⟩:=y;have e:d=D.int (l+i):=by simpa[aaP,agJ a]using hd.symm
  subst e;exact⟨Ext.refl,b,by simp[Rel]⟩⟩
section
variable {X:Cx}{tg l a b:Expr}{fe:FE}{fr:FA}{pos p:Pos}
noncomputable def uN (f:FE):FI:=λσ g=>(f σ g).bind λr=>match r.1 with|.tup xs=>some (xs,r.2)|_=>none
noncomputable def uO (f:FE):FI:=λσ g=>(f σ g).bind λr=>match r.1 with|.lst xs=>some (xs,r.2)|_=>none
theorem MO (u:DE X l fe):DI X tg l (uN fe):=.of (PI.imp (LD u.un) λσ H Q h=>by
 obtain⟨ι,s,g,ds,r,G0,i,h,p⟩:=h;obtain⟨⟨o,g1⟩,e,h⟩:=bind_some h;cases o with
 |tup xs =>
  cases h;refine tD.bind G0 i e λH1 j v d k q b=>?_;simp only[Rel]at b;obtain⟨a,f,rfl,c,n⟩:=b;exact⟨a,rfl,⟨f,c.sq⟩,p H1 j _ d k (.Vv c n)⟩
 |_=>cases h)
theorem MP (u:DE X l fe):DI X tg l (uO fe):=.of (PI.imp (yu u.un) λσ H Q h=>by
 obtain⟨ι,s,g,ds,r,G0,i,h,p⟩:=h;obtain⟨⟨o,g1⟩,e,h⟩:=bind_some h;cases o with
 |lst xs =>
  cases h;refine tD.bind G0 i e λH1 j v d k q b=>?_;simp only[Rel]at b;obtain⟨a,f,rfl,c,n⟩:=b;exact⟨a,rfl,⟨f,c.sq⟩,p H1 j _ d k (.lst c n)⟩
 |_=>cases h)
noncomputable def d9 (i:Int):Bool:=ad5 i.natAbs 4611686018427387903
theorem d9.and {i:Int}(h:d9 i=true):-(2 ^ 62)<=i/\i<2 ^ 62:=by have:=abZ h;omega
theorem d9.of {i:Int}(d:-1000000<=i)(c:i<=1000000):d9 i=true:=acz (by omega)
def eH (fr:FA):FI:=λσ g=>(fr σ g).bind λr=>match r.1 with| [.int j]=>if d9 j=true then some ((aba j.toNat).map λ(k:Nat)=>D.int (0+k),r.2)else none|_=>none
def Sz (fr:FA):FI:=λσ g=>(fr σ g).bind λr=>match r.1 with| [.int i,.int j]=>if(d9 i&&d9 j)=true then some ((aba (j-i).toNat).map λ(k:Nat)=>D.int (i+k),r.2)else none|_=>none
theorem QL (q:Gl X "range")(s:X.mg "range" = none)(u:DA X [a] fr)(r:aay [a] X.env = [(false,eval a X.env)]):DI X tg (.Call (.Name "range" p) [a] [] pos) (eH fr):=.of (
 PI.imp (BC q s u.un r) λσ H Q h=>by
  obtain⟨ι,n,g,ds,l,G0,e,h,p⟩:=h;obtain⟨⟨o,g1⟩,d,h⟩:=bind_some h;refine iZ.bind G0 e d λH1 f v c i k b=>?_;dsimp only at h;split at h
  . rename_i j
    split at h
    . rename_i z
      cases h;simp only[ag,Rel]at b;obtain⟨_,_,rfl,rfl,rfl⟩:=b;exact⟨j,rfl,(d9.and z).1,(d9.and z).2,p H1 f _ c i .gp⟩
    . cases h
  . cases h)
theorem QM (s:Gl X "range")(A:X.mg "range" = none)(x:DA X [a,b] fr)(u:aay [a,b] X.env = [(false,eval a X.env),(false,eval b X.env)])(y:aay [b] X.env = [(false,eval b X.env)]):DI X tg (.Call (.Name "range" p) [a,b] [] pos) (Sz fr):=.of (
 PI.imp (BD s A x.un u y) λσ H Q h=>by
  obtain⟨ι,q,g,ds,o,G0,f,h,p⟩:=h;obtain⟨⟨r,g1⟩,e,h⟩:=bind_some h;refine iZ.bind G0 f e λH1 k v d l n c=>?_;dsimp only at h;split at h
  . rename_i i j
    split at h
    . rename_i z
      rw[aae]at z;cases h;simp only[ag,Rel]at c;obtain⟨_,_,rfl,rfl,_,_,rfl,rfl,rfl⟩:=c;exact⟨i,j,rfl,⟨(d9.and z.1).1,(d9.and z.1).2,(d9.and z.2).1,(d9.and z.2).2⟩,p H1 k _ d l .gp⟩
    . cases h
  . cases h)
noncomputable def forL (t:FG)(b:FS):List D->FS
 | [],σ,g=>some (.nx,σ,g)
 |d::ds,σ,g=>(t d σ g).bind λq=>(b q.1 q.2).bind λr=>match r.1 with
  |.nx=>forL t b ds r.2.1 r.2.2|.ct=>forL t b ds r.2.1 r.2.2|.bk=>some (.nx,r.2.1,r.2.2)|.rt d=>some (.rt d,r.2.1,r.2.2)
def dw (i:FI)(t:FG)(b:FS):FS:=λσ g=>(i σ g).bind λr=>forL t b r.1 σ r.2
noncomputable def kJ (c:FT)(b:FS):Nat->FS
 | 0,_,_=>none
 |n+1,σ,g=>(c σ g).bind λk=>if k.1=true then(b σ k.2).bind λr=>match r.1 with
   |.nx=>kJ c b n r.2.1 r.2.2|.ct=>kJ c b n r.2.1 r.2.2|.bk=>some (.nx,r.2.1,r.2.2)|.rt d=>some (.rt d,r.2.1,r.2.2)
  else some (.nx,σ,k.2)
def yJ (n:Nat)(c:FT)(b:FS):FS:=kJ c b n
inductive MQ (X:Cx)(gc:FT)(b:FS)(H:Hp)(ι:Ix)(r:F)(bC:Sg)(g':G)(m:Nat)(σ2:L2.St)(H2:Hp):Prop
 |mk (ι2:Ix) (kK:Sg) (g2:G) (e2:Ext H ι H2 ι2) (G2:aw X.kw H2 ι2 g2) (S2:bo X.kw H2 ι2 kK σ2) (hf:kJ gc b m kK g2=some (r,bC,g')):MQ X gc b H ι r bC g' m σ2 H2
theorem Fd {c:Expr}{body:List Stmt}{B:FT}{b:FS}(n:Nat)(C:aes (model X.prog X.w) X.A X.env X.xe)(E:DT X c B)(I:kI X body b):DS X (.While c body [] pos) (yJ n B b):=.of (PS.imp (EH C E.un I.un) λDn σ H h=>by
 obtain⟨ι,σd,g,r,bC,y,G0,S0,h,p⟩:=h;refine⟨MQ X B b H ι r bC y,⟨n,ι,σd,g,Ext.refl,G0,S0,h⟩,?_⟩;rintro m σ2 H2 ⟨ι2,kK,g2,x,G2,S2,hf⟩;cases m with
 |zero=>cases hf
 |succ m =>
  simp only[kJ]at hf;obtain⟨⟨k,g3⟩,h3,hf⟩:=bind_some hf;refine lA.bind G2 S2 h3 λH3 z e3 G3 s=>?_;cases k with
  |false =>
   simp only[aaz,if_false]at hf ⊢;cases hf;exact p H3 z (x.trans e3) G3 σ2 s
  |true =>
   simp only[if_true]at hf ⊢;obtain⟨⟨r4,o,l⟩,h4,hf⟩:=bind_some hf;refine⟨MQ X B b H ι r bC y m,λσ5 H5 q=>⟨m,adC _,q⟩,?_⟩;refine⟨z,kK,g3,r4,o,l,G3,s,h4,λu f e7 e=>?_⟩;have i:=x.trans (e3.trans e7);cases r4 with
   |nx=>exact λj a=>⟨f,o,l,i,e,a,hf⟩|ct=>exact λj a=>⟨f,o,l,i,e,a,hf⟩|bk=>cases hf;exact λj a=>p u f i e j a|rt d=>cases hf;exact λv r7=>p u f i e v r7)
end
abbrev Fn:=List D->G->Option (D×G)
def kL (K:KW)(n:Nat)(fn:Fn):Sp:=λa H Q _=>a.length=n /\ ∃ι g ds d g',aw K H ι g/\ag K H ι ds a/\fn ds g=some (d,g')/\fN K H ι d g' Q
mutual
noncomputable def bB (n:Nat):D->Bool
 |.ref k=>decide (k<n)|.aC k=>decide (k<n)|.tup xs=>aA n xs|.lst xs=>aA n xs|.fn _ xs=>aA n xs|_=>true
noncomputable def aA (n:Nat):List D->Bool
 | []=>true|d::ds=>bB n d&&aA n ds
end
def settle (n:Nat)(d:D)(g':G):Option (D×G):=
 if g'.length=n then some (d,g')else
  if(g'.take n).all (aA n)then
   match d with
   |.ref k=>if k<n then some (d,g'.take n)else match g'[k]? with
    |some xs=>if aA n xs then some (.lst xs,g'.take n)else none|none=>none
   |d=>if bB n d then some (d,g'.take n)else none
  else none
def ao (a:Bool)(e c:Nat)(b:FS):Fn:=λds g =>
 if ds.length=c then(b (ds.map some++aap (e-c) none) g).bind λr=>match r.1 with
  |.rt d=>if a then some (d,r.2.2)else settle g.length d r.2.2|.nx=>if a then some (.ax,r.2.2)else settle g.length .ax r.2.2|_=>none
 else none
noncomputable def Ix.cut (ι:Ix)(n:Nat):Ix:=⟨ι.ix.take n,ι.hd,ι.kd⟩
mutual
theorem Rel.cut {K H ι}(n:Nat):∀(d:D) {v:V},bB n d=true->Rel K H ι d v->Rel K H (Ix.cut ι n) d v
 |.ax,v,_,h=>by simpa[Rel]using h|.bl _,v,_,h=>by simpa[Rel]using h|.int _,v,_,h=>by simpa[Rel]using h|.str _,v,_,h=>by simpa[Rel]using h
 |.tup xs,v,z,h=>by
  simp only[Rel]at h ⊢;obtain⟨a,i,e,b,f⟩:=h;refine⟨a,i,e,?_,ag.cut n xs z f⟩;rcases b with⟨b,hn⟩|b
  . exact .inl ⟨b,λm=>hn (abk m)⟩
  . exact .inr b
 |.lst xs,v,z,h=>by
  simp only[Rel]at h ⊢;obtain⟨a,i,e,b,f⟩:=h;refine⟨a,i,e,?_,ag.cut n xs z f⟩;rcases b with⟨b,hn,hh⟩|b
  . exact .inl ⟨b,λm=>hn (abk m),hh⟩
  . exact .inr b
 |.dn,v,_,h=>by simp only[Rel]at h ⊢;obtain⟨a,e,b,f⟩:=h;exact⟨a,e,b,λm=>f (abk m)⟩
 |.ref k,v,z,h=>by simp only[Rel]at h ⊢;obtain⟨a,e,b⟩:=h;have j:k<n:=of_decide_eq_true z;exact⟨a,e,by show(ι.ix.take n)[k]? = some a;rw[aaK j];exact b.1,b.2⟩
 |.aC k,v,z,h=>by simp only[Rel]at h ⊢;obtain⟨a,e,b⟩:=h;have j:k<n:=of_decide_eq_true z;exact⟨a,e,by show(ι.ix.take n)[k]? = some a;rw[aaK j];exact b.1,b.2⟩
 |.fn x ds,v,z,h=>by simp only[Rel]at h ⊢;obtain⟨a,i,e,b,f⟩:=h;exact⟨a,i,e,b.mono λc u _ q=>⟨q.1,λm=>q.2.1 (abk m),q.2.2⟩,ag.cut n ds z f⟩
theorem ag.cut {K H ι}(n:Nat):∀(ds:List D) {vs:List V},aA n ds=true->ag K H ι ds vs->ag K H (Ix.cut ι n) ds vs
 | [],vs,_,h=>by simpa[ag]using h|d::ds,vs,z,h=>by simp only[ag]at h ⊢;simp only[aA,aae]at z;obtain⟨v,a,b,c,e⟩:=h;exact⟨v,a,b,Rel.cut n d z.1 c,ag.cut n ds z.2 e⟩
end
theorem aw.cut {K H ι g}(n:Nat)(h:aw K H ι g)(z:(g.take n).all (aA n)=true):aw K H (Ix.cut ι n) (g.take n):=by
 refine⟨h.nd.sublist (afl _ _),by simp[Ix.cut,h.len],λb d=>⟨λm=>(h.ck b d).1 (abk m),(h.ck b d).2⟩,λi xs q=>?_,λq e=>⟨(h.tb q e).1,λm=>(h.tb q e).2 (abk m)⟩⟩;have c:i<n:=by have:=(aab.mp q).1;rw[aa2]at this;omega
 rw[aaK c]at q;obtain⟨a,o,k,j,l,p,f⟩:=h.at_ i xs q;refine⟨a,o,k,(by show(ι.ix.take n)[i]? = some a;rw[aaK c];exact j),l,p,ag.cut n xs ?_ f⟩;exact abS.mp z xs (aaO (i:=i) (by rw[aaK c];exact q))
theorem Ext.cut {H ι H' b n}(e:Ext H ι H' b)(c:ι.ix.length=n):Ext H ι H' (Ix.cut b n):=by obtain⟨m,a,f⟩:=e.more;refine⟨e.same,e.there,⟨[],?_,λ_ z=>by simp at z⟩,e.ck,e.mX⟩;subst c;show b.ix.take _=_;rw[a];simp
theorem Cf {K H ι g H' A g' d E C v}(G0:aw K H ι g)(e:Ext H ι H' A)(B:aw K H' A g')(r:Rel K H' A d v)(h:settle g.length d g'=some (C,E)):
   ∃lB,Ext H ι H' lB/\aw K H' lB E/\Rel K H' lB C v:=by
 unfold settle at h;split at h
 . cases h;exact⟨A,e,B,r⟩
 split at h
 . rename_i z
   refine⟨Ix.cut A g.length,e.cut G0.len,?_⟩;have Gc:=B.cut g.length z;split at h
   . rename_i k
     split at h
     . rename_i f
       cases h;exact⟨Gc,Rel.cut _ _ (decide_eq_true f) r⟩
     . rename_i f
       split at h
       . rename_i xs q
         split at h
         . rename_i c
           cases h;refine⟨Gc,?_⟩;simp only[Rel]at r ⊢;obtain⟨a,rfl,b⟩:=r;obtain⟨o,p,s⟩:=B.at q b;refine⟨a,o,rfl,.inl ⟨.inl p,λm=>?_,λm=>(B.ck a m).1 (aaO b.1)⟩,ag.cut _ _ c s⟩;obtain⟨j,i,l⟩:=abR.mp (show a∈A.ix.take g.length from m);have u:j<g.length:=by rw[aa2]at i;omega
           have x:j < A.ix.length:=by rw[aa2]at i;omega
           rw[ahe]at l;obtain⟨y,n⟩:=aab.mp b.1;have:j=k:=(afF B.nd).mp (l.trans n.symm);omega
         . cases h
       . cases h
   . split at h
     . rename_i c
       cases h;exact⟨Gc,Rel.cut _ _ c r⟩
     . cases h
 . cases h
section
variable {P:aaG}{w:World}{K:KW}{mg:Str->Option Value}{base:Heap}
theorem Js {k n f e ps}{fn:Fn}(c:∀ds g,fn ds g=none):dU P K.w K.fr K.mg base gY k f e ps (kL K n fn):=
 ⟨λa H Q E ⟨_,ι,g,ds,d,b,_,_,h,_⟩=>(by rw[c]at h;cases h),λA outer s H args us a Q E _ _ _ _ ⟨_,ι,g,ds,d,b,_,_,h,_⟩=>(by rw[c]at h;cases h)⟩
theorem Ao {K H ι ds vs}{N:List Str}(r:ag K H ι ds vs)(f:ds.length<=N.length):bo K H ι (ds.map some++aap (N.length-ds.length) none) (L2.start N vs):=by
 have e:=r.length;refine⟨by unfold L2.start;simp[e],λi d q=>?_⟩;have a:i<ds.length:=by
  by_cases a:i<ds.length
  . exact a
  . rw[aaJ (by simpa using a),afR]at q
    split at q<;>cases q
 rw[aan (by simpa using a),aaP]at q;cases hd:ds[i]? with
 |none=>rw[hd]at q;cases q
 |some d' =>
  rw[hd]at q;cases q;obtain⟨v,c,b⟩:=r.get hd;refine⟨v,?_,b⟩;unfold L2.start;rw[aan (by rw[aaI,<- e];exact a),aaP,c];rfl
theorem QN {x C:Str}{I:Stmt}{f:Addr}{J:abN}{N ps:List Str}{k:Nat}{B:Bool}{b:FS}(F:yz K.fr x C I f J)(S:jI N ps (aX I))(L:ps.length<=N.length)
  (M:∀(de:Value) (A:aaL) (outer:List Env) (s:aac) (H:Hp) (E:XK),J.code=de->cX k (A.deeper (aeC C (aX I) s.heap.objs.size f de)) ->
   kI (l7 K.lx gY P K.w K.fr K.mg base N C (aX I) f de A outer s H E).vi (dQ I) b):dU P K.w K.fr K.mg base gY (k+1) f J ps (kL K ps.length (ao B N.length ps.length b)):=by
 refine F.ok (lx:=K.lx) S (λvs H Q E h=>h.1) (λde A outer s H vs Q E ju hr h=>?_);obtain⟨hl,ι,g,ds,d,z,G0,r,h,p⟩:=h;refine⟨_,(M de A outer s H E ju hr).un,?_⟩;unfold ao at h;have i:ds.length=ps.length:=by rw[r.length];exact hl
 rw[if_pos i]at h;obtain⟨⟨l,q,g1⟩,u,h⟩:=bind_some h;refine⟨ι,_,g,l,q,g1,G0,Ao r (by rw[i];exact L),by rw[i];exact u,λH1 n j o=>?_⟩;have fin:∀{a v},Rel K H1 n a v->(if B then some (a,g1)else settle g.length a g1)=some (d,z)->Q v H1:=fun {a v} e c=>by
  cases B with
  |true=>simp only[if_true]at c;cases c;exact p H1 n v j o e
  |false =>
   simp only[aaz,if_false]at c;obtain⟨ι2,y,G2,r2⟩:=Cf G0 j o e c;exact p H1 ι2 v y G2 r2
 cases l with
 |rt a=>exact λv e=>fin e h|nx=>exact λσ' S'=>fin (v:=.ax) (by simp[Rel]) h|bk=>cases h|ct=>cases h
end
section
variable {X:Cx}{x:Str}{p pos:Pos}{e:Expr}{es:List Expr}{fr:FA}{k:Nat}{f:Addr}{fd:abN}{ps:List Str}{fn:Fn}{n:Nat}
noncomputable def aq (fn:Fn)(fr:FA):FE:=λσ g=>(fr σ g).bind λr=>fn r.1 r.2
theorem pT {K}{n:Nat}(q:∀ds g r,fn ds g=some r->ds.length=n){σ:L2.St}{H:Hp}{Q:VK}(h:tD K (aq fn fr) σ H Q):uJ (kL K n fn) [] E0 (iZ K fr) σ H Q:=by obtain⟨ι,o,g,d,e,G0,j,h,p⟩:=h;obtain⟨⟨ds,g1⟩,c,h⟩:=bind_some h;refine iZ.bind G0 j c λH1 f l b i k a=>?_;rw[abb];exact⟨by rw[<- a.length];exact q _ _ _ h,f,g1,ds,d,e,i,a,h,p.mono b⟩
theorem Jt (F:dU X.prog X.w X.kw X.mg X.base gY k f fd ps (kL X.kw n fn))(a:cX k X.A)(q:X.mg x=some (.ref f))(d:ach X.kw (.ref f)=true)(l:Binds X.kw fd ps [])(s:∀ds g r,fn ds g=some r->ds.length=n)
  (i:DA X (e::es) fr) (j:Gl X x) (o:(x == ("__debug__":Str))=false) (c:aay (e::es) X.env=(false,eval e X.env)::aay es X.env) (b:(acm pos (aay es X.env)).any (·.1)=false):
  DE X (.Call (.Name x p) (e::es) [] pos) (aq fn fr):=.of (
 PE.imp (IT F a j q d l .nil Ag i.un o c b) λσ H Q h=>pT s h)
theorem Fe (F:dU X.prog X.w X.kw X.mg X.base gY k f fd ps (kL X.kw n fn))(i:cX k X.A)(u:X.mg x=some (.ref f))(j:ach X.kw (.ref f)=true)(o:Binds X.kw fd ps [])(v:∀ds g r,fn ds g=some r->ds.length=n)
  (l:Gl X x) (s:(x == ("__debug__":Str))=false):
  DE X (.Call (.Name x p) [] [] pos) (aq fn aj):=.of (
 PE.imp (EN F i l u j o .nil Ag s) λσ H Q h=>by have q:=pT v h;obtain⟨ι,a,g,d,c,G0,b,h,p⟩:=q;cases h;exact p H ι [] Ext.refl G0 (by simp[ag]))
theorem tS {a:Bool}{c nP:Nat}{b:FS}:∀ds g r,ao a c nP b ds g=some r->ds.length=nP:=λds g r h=>by
 unfold ao at h;split at h
 . assumption
 . cases h
theorem Ff {id:String}{o:Fn}(v:dk X (.builtin id) (kH X.kw o))(C:X.mg x=none)(A:acr x=some (.builtin id))(u:DA X (e::es) fr)(y:Gl X x)(z:x ≠ "__name__")(B:(x == ("__debug__":Str))=false)
  (s:aay (e::es) X.env=(false,eval e X.env)::aay es X.env) (r:(acm pos (aay es X.env)).any (·.1)=false):DE X (.Call (.Name x p) (e::es) [] pos) (aq o fr):=.of (
 PE.imp (vp v y C A u.un z B s r) λσ H Q h=>by obtain⟨ι,q,g,d,f,G0,k,h,p⟩:=h;obtain⟨⟨ds,g1⟩,c,h⟩:=bind_some h;exact iZ.bind G0 k c λH1 i n a j l b=>⟨i,g1,ds,d,f,j,b,h,p.mono a⟩)
theorem Cg {T:String}{o:Fn}(v:dk X (.type T) (kH X.kw o))(C:X.mg x=none)(A:acr x=some (.type T))(u:DA X (e::es) fr)(y:Gl X x)(z:x ≠ "__name__")(B:(x == ("__debug__":Str))=false)
  (s:aay (e::es) X.env=(false,eval e X.env)::aay es X.env) (r:(acm pos (aay es X.env)).any (·.1)=false):DE X (.Call (.Name x p) (e::es) [] pos) (aq o fr):=.of (
 PE.imp (BO v y C A u.un z B s r) λσ H Q h=>by obtain⟨ι,q,g,d,f,G0,k,h,p⟩:=h;obtain⟨⟨ds,g1⟩,c,h⟩:=bind_some h;exact iZ.bind G0 k c λH1 i n a j l b=>⟨i,g1,ds,d,f,j,b,h,p.mono a⟩)
end
noncomputable def k8 (scope:Scope)(env:Env):List (Str×Addr):=(scope.names.filterMap λx=>if x.2 == .free then(env.cells.lookup x.1).map λc=>(x.1,c)else none).reverse
theorem uC {scope:Scope}{env:Env}(h:∀x∈scope.names,x.2 = .free->∃c,env.cells.lookup x.1=some c):afu scope env=pure (k8 scope env):=by
 have key:∀(l:List (Str×acw)) (acc:List (Str×Addr)),(∀x∈l,x.2 = .free->∃c,env.cells.lookup x.1=some c) ->
   (forIn l acc λx r=>if(x.2 == abe)=true then(do let c <- cellOf env x.1;pure (acD ((x.1,c)::r)))else pure (acD r):Sem (List (Str×Addr)))=
     pure ((l.filterMap λx=>if x.2 == .free then(env.cells.lookup x.1).map λc=>(x.1,c)else none).reverse++acc):=by
  intro l;induction l with
  |nil=>intro acc _;rfl
  |cons x r ih =>
   intro acc b;rw[acQ];by_cases hk:x.2 = .free
   . obtain⟨c,e⟩:=b x aaC hk
     have a:(x.2 == abe)=true:=by rw[hk];rfl
     rw[if_pos a];simp only[cellOf,e,pure_bind,ac_,a,if_true,abn,List.reverse_cons,aaU,agh];exact ih _ λy d=>b y (aau _ d)
   . have a:(x.2 == abe)=false:=by simpa using hk
     simp only[a,aaz,if_false,pure_bind,ac_];exact ih _ λy d=>b y (aau _ d)
 have:=key scope.names [] h;rw[abb]at this;unfold afu k8;simp only[bind_pure_comp]at this ⊢;first
  | (simpa using this)
  |exact this
def cellsOf (scope:Scope)(env:Env)(C:Addr):List (Str×Addr):=abQ (C+1) scope.names (k8 scope env)
theorem lC {n:Nat}{y:Str}{k:acw}{r:List (Str×acw)}{acc:List (Str×Addr)}:abQ n ((y,k)::r) acc=if(k == abp)=true then abQ (n+1) r ((y,n)::acc)else abQ n r acc:=rfl
theorem kM {x:Str}{c:Addr}:∀{names:List (Str×acw)} {n:Nat} {acc:List (Str×Addr)},(abQ n names acc).lookup x=some c->((x,abp)∈names/\n<=c)\/(acc.lookup x=some c/\(x,abp) ∉ names)
 | [],_,_,h=>.inr ⟨h,by simp⟩
 | (y,k)::r,n,acc,h=>by
  rw[lC]at h;split at h
  . rename_i a
    have a:k=abp:=by simpa using a
    subst a;rcases kM h with⟨h1,h2⟩|⟨h1,h2⟩
    . exact .inl ⟨aau _ h1,by omega⟩
    . by_cases e:x=y
      . subst e
        rw[aaX,show(x == x)=true by simp]at h1;cases h1;exact .inl ⟨aaC,aal _⟩
      . rw[aaX,show(x == y)=false by simpa using e]at h1
        exact .inr ⟨h1,λz=>by rcases aah.mp z with z|z;(cases z;exact e rfl);exact h2 z⟩
  . rename_i a
    rcases kM h with⟨h1,h2⟩|⟨h1,h2⟩
    . exact .inl ⟨aau _ h1,h2⟩
    . exact .inr ⟨h1,λz=>by rcases aah.mp z with z|z;(cases z;exact a rfl);exact h2 z⟩
theorem qI {x:Str}{c:Addr}:∀{names:List (Str×acw)} {n:Nat} {acc:List (Str×Addr)},(x,abp) ∉ names->acc.lookup x=some c->(abQ n names acc).lookup x=some c
 | [],_,_,_,h=>h
 | (y,k)::r,n,acc,hn,h=>by
  have b:(x,abp) ∉ r:=λz=>hn (aau _ z);rw[lC];split
  . rename_i a
    have a:k=abp:=by simpa using a
    subst a;refine qI b ?_;have e:x≠y:=λe=>hn (by rw[e];exact aaC);rw[aaX,show(x == y)=false by simpa using e];exact h
  . exact qI b h
theorem vM {x:Str}:∀{names:List (Str×acw)} {n:Nat} {acc:List (Str×Addr)},((x,abp)∈names \/ ∃c,acc.lookup x=some c)->∃c,(abQ n names acc).lookup x=some c
 | [],_,_,h=>by rcases h with h|h;(cases h);exact h
 | (y,k)::r,n,acc,h=>by
  rw[lC];split
  . rename_i a
    refine vM ?_;rcases h with h|⟨c,h⟩
    . rcases aah.mp h with z|z
      . cases z;exact .inr ⟨n,by simp⟩
      . exact .inl z
    . right
      rw[aaX];split
      . exact⟨_,rfl⟩
      . exact⟨c,h⟩
  . rename_i a
    refine vM ?_;rcases h with h|h
    . rcases aah.mp h with z|z
      . cases z;exact absurd rfl a
      . exact .inl z
    . exact .inr h
theorem vN:∀{names:List (Str×acw)} {n:Nat} {acc:List (Str×Addr)},(∀x c,acc.lookup x=some c->c<n)->(∀x y c,acc.lookup x=some c->acc.lookup y=some c->x=y)->∀x y c,(abQ n names acc).lookup x=some c->(abQ n names acc).lookup y=some c->x=y
 | [],_,_,_,hi=>hi
 | (z,k)::r,n,acc,hl,hi=>by
  intro x y c;rw[lC];split
  . refine vN (λx c h=>?_) (λx y c b a=>?_) x y c
    . rw[aaX]at h
      split at h
      . cases h;exact adC _
      . exact abX (hl x c h)
    . rw[aaX]at b a
      split at b
      . rename_i d
        cases b;split at a
        . rename_i e
          rw[eq_of_beq d,eq_of_beq e]
        . exact absurd (hl y _ a) (abY _)
      . split at a
        . cases a;exact absurd (hl x _ b) (abY _)
        . exact hi x y c b a
  . exact vN hl hi x y c
theorem pU {M:Model}{A:aaL}{E:Value->aac->Prop}:∀(names:List (Str×acw)) (acc:List (Str×Addr)) (s:aac) (Q:List (Str×Addr)->aac->Prop),
  (∀x c,acc.lookup x=some c->c<s.heap.objs.size) ->
  (∀h',(∀b o,s.heap.get? b=some o->h'.get? b=some o)->(∀x c,(abQ s.heap.objs.size names acc).lookup x=some c->s.heap.objs.size<=c->h'.IsCell c none)->Q (abQ s.heap.objs.size names acc) { s with heap:=h' }) ->
  wpAny M A (forIn names acc λx r=>if(x.2 == abp)=true then(do let c <- alloc { cls:=abg "cell",data:=ae3 none };pure (acD ((x.1,c)::r)))else pure (acD r)) Q E s
 | [],acc,s,Q,hl,h=>by rw[ad6];exact aad (h s.heap (λ_ _ e=>e) λx c d f=>absurd (hl x c d) (Nat.not_lt.mpr f))
 | (y,k)::r,acc,s,Q,hl,h=>by
  rw[acQ];rw[lC]at h;dsimp only;split
  . rename_i i
    rw[if_pos i]at h;refine aaa (aaa (af_ (aad ?_)));have sz:(s.heap.push { cls:=abg "cell",data:=ae3 none }).objs.size=s.heap.objs.size+1:=ab_ ..;refine pU r _ _ Q (λx c e=>?_) λh' j a=>?_
    . show c<(s.heap.push _).objs.size
      rw[sz];rw[aaX]at e;split at e
      . cases e;exact adC _
      . exact abX (hl x c e)
    . have a:∀x c,(abQ (s.heap.push { cls:=abg "cell",data:=ae3 none }).objs.size r ((y,s.heap.objs.size)::acc)).lookup x=some c->(s.heap.push { cls:=abg "cell",data:=ae3 none }).objs.size<=c->h'.IsCell c none:=a
      show Q (abQ (s.heap.push { cls:=abg "cell",data:=ae3 none }).objs.size r ((y,s.heap.objs.size)::acc)) _;rw[sz]at a ⊢;refine h h' (λb o e=>j b o (aaf _ e)) λx c d f=>?_;rcases Nat.lt_or_eq_of_le f with e3|e3
      . exact a x c d e3
      . subst e3
        exact⟨_,j _ _ (aaq _ rfl),rfl⟩
  . rename_i i
    rw[if_neg i]at h;refine aaa (aad ?_);exact pU r acc s Q hl h
theorem yf {M:Model}{A:aaL}{E:Value->aac->Prop}{s:aac}{scope:Scope}{env:Env}{gl:Addr}{cl:List (Str×Addr)}{j:Str}{Q:Env->aac->Prop}(l:∀x c,cl.lookup x=some c->c<s.heap.objs.size)
   (h:∀h4:Heap,h4.Ns s.heap.objs.size (λ_=>none)->(∀b o,s.heap.get? b=some o->h4.get? b=some o)->(∀x c,(abQ (s.heap.objs.size+1) scope.names cl).lookup x=some c->s.heap.objs.size+1<=c->h4.IsCell c none) ->
    Q (newEnv scope s.heap.objs.size gl (abQ (s.heap.objs.size+1) scope.names cl) j none acg (some env) afr) { s with heap:=h4 }):
   wpAny M A (newFunctionEnv scope gl cl [] j none acg (some env)) Q E s:=by
 unfold newFunctionEnv;have sz:∀o:Obj,(s.heap.push o).objs.size=s.heap.objs.size+1:=λo=>ab_ ..;refine aaa (af_ (aaa ?_));refine pU scope.names cl _ _ (λx c e=>?_) λd f a=>?_
 . show c<(s.heap.push _).objs.size
   rw[sz];exact abX (l x c e)
 . refine aaa ?_
   rw[ad6];refine aad (aad ?_);have a:∀x c,(abQ (s.heap.push { cls:=abg (if(some env).isSome=true then "dict" else "frame"),data:=ain #[] }).objs.size scope.names cl).lookup x=some c->(s.heap.push { cls:=abg (if(some env).isSome=true then "dict" else "frame"),data:=ain #[] }).objs.size<=c->d.IsCell c none:=a;rw[sz]at a;have:=h d ⟨_,_,_,f _ _ (aaq _ rfl),rfl,by intro k i;simp at i,λ_=>rfl⟩ (λb o e=>f b o (aaf _ e)) a;show Q (newEnv scope s.heap.objs.size gl (abQ (s.heap.push { cls:=abg (if(some env).isSome=true then "dict" else "frame"),data:=ain #[] }).objs.size scope.names cl) j none acg (some env) afr) { s with heap:=d };rw[sz];exact this
def ba (X:Cx)(N:List Str)(scope:Scope)(C:Addr)(s3:aac)(H:Hp)(fp:List Addr)(b0:List (Addr×Obj)):Cx where
 prog:=X.prog
 w:=X.w
 K:=X.kw
 mg:=X.mg
 base:=X.base
 A:=X.A
 N:=N
 s₀:=s3
 H₀:=H
 env:=compEnvC scope (cellsOf scope X.env C) C X.env
 outer:=X.stack
 stack:=X.stack
 ex:=fp
 calm:=X.calm
 fn:=λx=>scope.names.any λy=>y.1 == x&&y.2 == .cell
 pn:=X.pn++b0
 xe:=λ_ _=>False
 lx:=X.lx
structure eM (X:Cx)(N:List Str)(fr:List (Option Nat))(scope:Scope):Prop where
 kind:scope.kind = .function
 cells:∀y∈scope.names,y.2 = .cell->scope.names.lookup y.1=some .cell
 names:∀y∈scope.names,y.2 = .local->scope.names.lookup y.1=some .local
 free:∀y∈scope.names,y.2 = .free->scope.names.lookup y.1=some .free/\(X.env.kindOf y.1=some .cell\/X.env.kindOf y.1=some .free)
 len:fr.length=N.length
 slots:∀(j i:Nat),fr[j]? = some (some i)->∃x,N[j]? = some x/\X.N[i]? = some x/\scope.names.lookup x=some .free
noncomputable def cf {a:Type}(fr:List (Option Nat))(σ:List (Option a)):List (Option a):=fr.map λo=>match o with|some i=>(σ[i]?).join|none=>none
theorem vO {scope:Scope}{env:Env}:(afC scope env).kind=scope.kind:=rfl
theorem Fg {scope:Scope}{env:Env}{x:Str}{c:Addr}(h:(x,c)∈k8 scope env):(x,abe)∈scope.names/\env.cells.lookup x=some c:=by
 unfold k8 at h;rw[aen,ab3]at h;obtain⟨y,b,e⟩:=h;split at e
 . rename_i a
   cases hc:env.cells.lookup y.1 with
   |none=>rw[hc]at e;cases e
   |some c' =>
    rw[hc]at e;cases e;have:y.2=abe:=by simpa using a
    exact⟨by rw[<- this];exact b,hc⟩
 . cases e
theorem mY {b:Type}:∀{l:List (Str×b)} {x:Str} {c:b},(x,c)∈l->∃d,l.lookup x=some d
 | [],_,_,h=>nomatch h
 | (y,d)::r,x,c,h=>by
  by_cases e:x=y
  . subst e;exact⟨d,by simp⟩
  . rcases aah.mp h with z|z
    . cases z;exact absurd rfl e
    . obtain⟨a,q⟩:=mY z
      exact⟨a,by rw[aaX];simp[show(x == y)=false by simpa using e,q]⟩
theorem fD {scope:Scope}{env:Env}{x:Str}{c:Addr}(h:(k8 scope env).lookup x=some c):(x,abe)∈scope.names/\env.cells.lookup x=some c:=Fg (aaT h)
theorem vP {scope:Scope}{env:Env}{x:Str}{c:Addr}(b:(x,abe)∈scope.names)(a:env.cells.lookup x=some c):(k8 scope env).lookup x=some c:=by
 have m:(x,c)∈k8 scope env:=by unfold k8;rw[aen,ab3];exact⟨_,b,by simp[a]⟩
 obtain⟨d,q⟩:=mY m;have:=(fD q).2;rw[a]at this;cases this;exact q
theorem vQ {scope:Scope}{env:Env}{x:Str}(h:(afC scope env).names.lookup x=some .cell\/(afC scope env).names.lookup x=some .free):(x,abe)∈scope.names\/(x,abp)∈scope.names:=by
 have m:∃k,(x,k)∈(afC scope env).names/\(k = .cell\/k = .free):=by
   rcases h with h|h
   . exact⟨_,aaT h,.inl rfl⟩
   . exact⟨_,aaT h,.inr rfl⟩
 obtain⟨k,m,b⟩:=m;unfold afC at m;rw[aaQ]at m;obtain⟨⟨n,a⟩,hm,e⟩:=m;dsimp only at e;split at e
 . rename_i z
   cases e;simp only[aae]at z;have:a=abe:=by simpa using z.1.1
   subst this;exact .inl hm
 . cases e
   rcases b with rfl|rfl
   . exact .inr hm
   . exact .inl hm
theorem iy {env:Env}:∀{names:List (Str×acw)} {x:Str},names.lookup x=some .free ->
  (names.map λ(n,k)=>if(k == abe&&env.scope.kind == .function&&env.kindOf n == some .cell)then(n,abp)else(n,k)).lookup x=some .cell \/
  (names.map λ(n,k)=>if(k == abe&&env.scope.kind == .function&&env.kindOf n == some .cell)then(n,abp)else(n,k)).lookup x=some .free
 | [],_,h=>by simp at h
 | (n,k)::r,x,h=>by
  have ih:=@iy env r x;show List.lookup x ((if(k == abe&&env.scope.kind == .function&&env.kindOf n == some .cell)=true then(n,abp)else(n,k))::_)=_\/List.lookup x ((if(k == abe&&env.scope.kind == .function&&env.kindOf n == some .cell)=true then(n,abp)else(n,k))::_)=_;cases hx:x == n with
  |true =>
   simp only[aaX,hx]at h;cases h;split
   . left;simp[aaX,hx]
   . right;simp[aaX,hx]
  |false =>
   simp only[aaX,hx]at h;split
   . simp only[aaX,hx];exact ih h
   . simp only[aaX,hx];exact ih h
section
variable {X:Cx}{b0:List (Addr×Obj)}{σ:L2.St}{H:Hp}{s3:aac}
theorem QO {scope:Scope}(I:Inv X b0 σ H s3):∀x c,(k8 scope X.env).lookup x=some c->c<s3.heap.objs.size:=λx c e=>by obtain⟨v,o,a,_⟩:=I.cell x c (fD e).2;exact aas a
theorem Ap {N:List Str}{fr:List (Option Nat)}{scope:Scope}{fp:List Addr}{A:Heap}{tk:Nat}(ok:eM X N fr scope)(I:Inv X b0 σ H s3)(B:∀b∈fp,fK X b0 H b)(C:∀b∈fp,b<s3.heap.objs.size)
   (K:A.Ns s3.heap.objs.size λ_=>none) (E:∀b o,s3.heap.get? b=some o->A.get? b=some o) (J:∀x c,(cellsOf scope X.env s3.heap.objs.size).lookup x=some c->s3.heap.objs.size+1<=c->A.IsCell c none):
   Inv (ba X N scope s3.heap.objs.size s3 H fp b0) [] (cf fr σ) H { s3 with heap:=A,toks:=tk }:=by
 have r:Inv X b0 σ H { s3 with heap:=A,toks:=tk }:=I.kept E;have ve:∀b∈kD X.stack,b∈X.env.locals::X.fs:=I.qu;have lc:∀x c,(cellsOf scope X.env s3.heap.objs.size).lookup x=some c->(s3.heap.objs.size+1<=c/\A.IsCell c none)\/X.env.cells.lookup x=some c:=λx c e=>by
   rcases kM e with⟨_,z⟩|⟨z,_⟩
   . exact .inl ⟨z,J x c e z⟩
   . exact .inr (fD z).2
 have lo:∀x c,X.env.cells.lookup x=some c->c<s3.heap.objs.size:=λx c e=>by obtain⟨v,o,eo,_⟩:=I.cell x c e;exact aas eo
 have SG:∀y,(y,abe)∈scope.names->(y,abp) ∉ scope.names:=λy A l=>by have:=(ok.free _ A rfl).1;rw[show scope.names.lookup y=some .cell from ok.cells _ l rfl]at this;cases this
 refine⟨⟨I.ok.mod,?_,I.ok.glob,I.ok.blt,aal _,?_,?_,?_,I.ok.hd,I.ok.frames,.inl rfl,?_,I.bs,aa0 I.ok.nj I.sz,?_,?_,I.stack,I.yp⟩,rfl,I.bare,Un.kept E,
   ⟨_,K,?_⟩,?_,I.aU.fresh (aal _),?_,?_,r.aU,?_⟩
 . show(afC scope X.env).kind = .function
   rw[vO];exact ok.kind
 . refine vN (λx c e=>abX (lo x c (fD e).2)) λx y c A l=>?_
   exact I.ok.inj x y c (fD A).2 (fD l).2
 . intro x h
   rcases vQ (scope:=scope) (env:=X.env) h with m|m
   . obtain⟨c,hc⟩:=I.ok.has x (ok.free _ m rfl).2
     exact⟨c,qI (SG x m) (vP m hc)⟩
   . exact vM (.inl m)
 . intro x c h e
   rcases kM e with⟨_,z⟩|⟨_,z⟩
   . exact aeb z
   . refine absurd ?_ z
     have h:(scope.names.any λy=>y.1 == x&&y.2 == .cell)=true:=h;rw[afM]at h;obtain⟨⟨y,k⟩,hy,s⟩:=h;simp only[aae]at s;have e3:k=abp:=by simpa using s.2
     rw[<- eq_of_beq s.1,<- e3];exact hy
 . intro b f
   refine⟨aaH (C b f),λx c e=>?_⟩;rcases lc x c e with⟨z,_⟩|z
   . exact λq=>absurd (C b f) (Nat.not_lt.mpr (by rw[<- q];exact aeb z))
   . exact(B b f).2.2.2.2.1 x c z
 . intro b o e f
   obtain⟨_,_,_,z,_⟩:=B b f;rcases z with z|z
   . exact I.ok.pP b o e z
   . exact absurd (aaM (aaM (aas e) I.ok.nj) z) (abY _)
 . intro b f z
   obtain⟨_,n1,n2,_⟩:=B b f;rcases aah.mp (ve b z)with q|q
   . exact n1 q
   . exact n2 q
 . intro j x v A l h3
   have a:(cf fr σ)[j]? = some (some v):=l;unfold cf at a;rw[aaP]at a;cases pC:fr[j]? with
   |none=>rw[pC]at a;cases a
   |some o =>
     rw[pC]at a;cases o with
     |none=>cases a
     |some i =>
       obtain⟨y,hy,hi,qv⟩:=ok.slots j i pC;have e:x=y:=by have yK:N[j]? = some x:=A;rw[hy]at yK;cases yK;rfl
       subst e;have hσ:σ[i]? = some (some v):=by
         simp only[abn,acT]at a;cases q:σ[i]? with
         |none=>rw[q]at a;cases a|some w=>rw[q]at a;simp at a;rw[a]
       have m:=aaT qv;obtain⟨_,uK⟩:=ok.free _ m rfl;obtain⟨mm,hn,hl⟩:=r.loc;obtain⟨u,ru,lk⟩:=hl i x v hi hσ (by rcases uK with k|k;exact .inr (.inl k);exact .inr (.inr k));refine⟨u,ru,.inr ⟨iy qv,?_⟩⟩;rcases lk with⟨kl,_⟩|⟨_,c,hc,fU⟩
       . rcases uK with k|k<;>(rw[k]at kl;cases kl)
       . exact⟨c,qI (SG x m) (vP m hc),fU⟩
 . intro x c e
   rcases lc x c e with⟨_,z⟩|z
   . exact⟨_,z⟩
   . exact r.cell x c z
 . intro x c e
   rcases lc x c e with⟨z,_⟩|z
   . exact I.aU.fresh (aeb z)
   . exact I.gz x c z
 . intro p hp
   have yH:p∈X.pn++b0:=by have q:p∈(X.pn++b0) ++ []:=hp;simpa using q
   obtain⟨e,n,ne,nf,d⟩:=r.pin p yH;refine⟨e,n,aaH ?_,λz=>?_,d⟩
   . exact aas (I.pin p yH).1
   . rcases aah.mp (ve _ z)with q|q
     . exact ne q
     . exact nf q
 . show(cf fr σ).length=N.length
   unfold cf;rw[aaI];exact ok.len
end
noncomputable def cN (t:FG)(c:FT)(e:FE):List D->Sg->G->Option (List D×G)
 | [],_,g=>some ([],g)|d::ds,σ,g=>(t d σ g).bind λq=>(c q.1 q.2).bind λk=>if k.1=true then(e q.1 k.2).bind λr=>(cN t c e ds q.1 r.2).bind λz=>some (r.1::z.1,z.2)else cN t c e ds q.1 k.2
noncomputable def Vw (X:Cx)(ifs:List Expr)(t:TT):Prop :=
 ∀(b0:List (Addr×Obj)) (s:aac) (σ:L2.St) (H:Hp) (Q:Bool->Hp->Prop),Inv X b0 σ H s->t σ H Q ->
  wpAny (model X.prog X.w) X.A (forIn ifs true λc r=>if r=true then do let ok <- isTrue c X.env (eval c X.env);pure (acD ok)else pure (acD r)) (TP X b0 σ Q) X.xe s
structure gF (X:Cx)(ifs:List Expr)(f:FT):Prop where of ::
 un:Vw X ifs (lA X.kw f)
noncomputable def dZ:FT:=λ_ g=>some (true,g)
theorem Fh {X:Cx}:gF X [] dZ:=.of (λb0 s σ H Q I h=>by obtain⟨ι,a,g,b,c,G0,d,h,p⟩:=h;cases h;exact wpAny_tests_nil ⟨H,I,p H ι Ext.refl G0⟩)
theorem Fi {X:Cx}{c:Expr}{f:FT}(h:DT X c f):gF X [c] f:=.of (λb0 s σ H Q I q=>wpAny_tests_one (h.un b0 s σ H Q I q))
theorem Ext.He {x v H' r p u s}(a:Ext x v H' r)(b:Ext H' (Ix.hide r p) u s):Ext x v u ⟨s.ix,r.hd,s.kd⟩/\s=Ix.hide ⟨s.ix,r.hd,s.kd⟩ p:=by
 have f:s.hd=p::r.hd:=b.ck;obtain⟨j,e,f1⟩:=a.more;obtain⟨d,l,f2⟩:=b.more;refine⟨⟨λc o h n=>b.same c o (a.same c o h n) (a.old h n),λc h=>b.there c (a.there c h),⟨j++d,?_,λc z=>?_⟩,a.ck,λi k=>(b.mX i (show i < r.ix.length by rw[e,aai];omega)).trans (a.mX i k)⟩,?_⟩
 . show s.ix=_
   rw[l];show r.ix++d=_;rw[e,aaU]
 . rcases aao.mp z with z|z
   . exact f1 c z
   . cases q:x c with
     |none=>rfl|some o=>exact absurd (f2 c z) (a.there c (by rw[q];simp))
 . cases s with
   |mk ix hd kd=>dsimp only at f;rw[f];rfl
theorem Ext.Hf {d b H' ιo p o}(a:Ext d b H' ιo)(f:d p=none):Ext d b (upd H' p o) ιo :=
 ⟨λc u h n=>by rw[aB (aN h f)];exact a.same c u h n,λc h=>by
  by_cases e:c=p
  . subst e;rw[aR];simp
  . rw[aB e];exact a.there c h,a.more,a.ck,a.mX⟩
theorem Ext.Vx {e d H' c p}(a:Ext e d H' c)(f:e p=none):i0 e d H' (Ix.hide c p):=
 ⟨a.same,a.there,a.more,⟨[p],by show p::c.hd=_;rw[a.ck];rfl,λb z=>by simp at z;subst z;exact f⟩,a.mX⟩
abbrev Sh:=G->Option (List D)
abbrev qJ:=Sg->G->Option (Sh×Nat×G)
def Aq (K:KW)(J:It)(H:Hp)(ι:Ix)(sh:Sh)(L:Nat):Prop :=
 ∀(i:Nat) H1 ι1 g1,i0 H ι H1 ι1->aw K H1 ι1 g1->∀xs,sh g1=some xs->xs.length=L->(L<=i->J.stop i H1) /\ ∀d,xs[i]? = some d->J.go i H1 /\ ∀x H2,J.yt i H1 x H2->Ext H1 ι1 H2 ι1/\aw K H2 ι1 g1/\Rel K H2 ι1 d x
inductive MS (K:KW)(f:qJ)(σ:L2.St)(H:Hp)(R:(It->Hp->Prop)):Prop
 |mk (ι:Ix) (σd:Sg) (g:G) (sh:Sh) (L:Nat) (g':G) (h0:aw K H ι g) (h1:bo K H ι σd σ) (h2:f σd g=some (sh,L,g')) (h3:∀H' ι' J,Ext H ι H' ι'->aw K H' ι' g'->Aq K J H' ι' sh L->R J H'):MS K f σ H R
structure vR (X:Cx)(tg iter:Expr)(f:qJ):Prop where of ::
 un:PI X tg iter (MS X.kw f)
noncomputable def dH (sh:Sh)(L:Nat)(t:FG)(c:FT)(e:FE):Nat->Sg->G->Option (List D×G)
 | 0,_,g=>(sh g).bind λxs=>if xs.length=L then some ([],g)else none|r+1,σ,g=>(sh g).bind λxs=>if xs.length=L then(xs[L-(r+1)]?).bind λd=>(t d σ g).bind λq=>(c q.1 q.2).bind λk=>if k.1=true then(e q.1 k.2).bind λa=>(dH sh L t c e r q.1 a.2).bind λz=>some (a.1::z.1,z.2)else dH sh L t c e r q.1 k.2 else none
theorem Ar {sh:Sh}{L:Nat}{t:FG}{c:FT}{e:FE}{σ:Sg}{g g':G}{all:List D}(h:dH sh L t c e 0 σ g=some (all,g')):∃xs,sh g=some xs/\xs.length=L/\all = []/\g'=g:=by
 simp only[dH]at h;obtain⟨xs,a,h⟩:=bind_some h;split at h
 . rename_i z
   cases h;exact⟨xs,a,z,rfl,rfl⟩
 . cases h
theorem As {sh:Sh}{L r:Nat}{t:FG}{c:FT}{e:FE}{σ:Sg}{g:G}{o:List D×G}(h:dH sh L t c e (r+1) σ g=some o):∃xs d,sh g=some xs/\xs.length=L/\xs[L-(r+1)]? = some d/\((t d σ g).bind λq=>(c q.1 q.2).bind λk=>if k.1=true then(e q.1 k.2).bind λr'=>(dH sh L t c e r q.1 r'.2).bind λz=>some (r'.1::z.1,z.2)else dH sh L t c e r q.1 k.2)=some o:=by
 simp only[dH]at h;obtain⟨xs,a,h⟩:=bind_some h;split at h
 . rename_i z
   obtain⟨d,hd,h⟩:=bind_some h;exact⟨xs,d,a,z,hd,h⟩
 . cases h
inductive CompI (X':Cx)(t:FG)(c:FT)(e:FE)(fp:List Addr)(Dl:Addr)(tn:Nat->Heap->Prop)(sh:Sh)(L:Nat)(all:List D)(H1:Hp)(ι1:Ix)(g':G)(n:Nat)(s:aac):Prop
 |mk (i:Nat) (σ:L2.St) (H:Hp) (ιo:Ix) (σd:Sg) (g:G) (vs:List V) (acc more:List D) (hn:n=L+1-i) (eU:i<=L) (I:Inv X' [] σ H s) (ti:tn i s.heap) (Hg:∀b∈fp,H b=none) (E1:Ext H1 ι1 H ιo) (G1:aw X'.kw H (Ix.hide ιo Dl) g) (S1:bo X'.kw H (Ix.hide ιo Dl) σd σ)
  (Hh:H Dl=some (.lst vs)) (vS:ag X'.kw H (Ix.hide ιo Dl) acc vs) (Cj:acc.length<=i) (hf:dH sh L t c e (L-i) σd g=some (more,g')) (ea:all=acc++more):CompI X' t c e fp Dl tn sh L all H1 ι1 g' n s
theorem Ck {X':Cx}{tg iter elt:Expr}{ifs:List Expr}{scope:Scope}{M:Pos}{t:FG}{c:FT}{e:FE}{J:It}{fp:List Addr}{O B:Addr}{N:Nat->Heap->Prop}{all:List D}{sh:Sh}{L:Nat}{K:Hp}{C:Ix}{g':G}{R:Result->aac->Prop}
   (Y:X'.xe=λ_ _=>False) (P:X'.calm=true) (T:Turn X'.prog X'.w X'.kw tg J fp O N) (U:∀b∈fp,fK X' [] X'.H₀ b) (Z:Aq X'.kw J K C sh L) (hD:K B=none) (hz:L<=aax)
   (W:DG X' tg t) (S:gF X' ifs c) (he:DE X' elt e)
   (fin:∀s' σ' H' ιo vs,Inv X' [] σ' H' s'->(∀b∈fp,H' b=none)->Ext K C H' ιo->aw X'.kw H' (Ix.hide ιo B) g'->H' B=some (.lst vs)->ag X'.kw H' (Ix.hide ιo B) all vs->R (.ok .next) s'):
   ∀(s:aac) (σ:L2.St) (H:Hp) (ιo:Ix) (σd:Sg) (g:G),Inv X' [] σ H s->N 0 s.heap->(∀b∈fp,H b=none)->Ext K C H ιo->aw X'.kw H (Ix.hide ιo B) g->bo X'.kw H (Ix.hide ιo B) σd σ->H B=some (.lst [])->dH sh L t c e L σd g=some (all,g') ->
    adO (model X'.prog X'.w) X'.A (.compLoop (.ListComp elt [⟨tg,iter,ifs,0⟩] scope M) 0 (.ref O) (.ref B) X'.env) R s:=by
 intro s σ H ιo σd g I t0 SH E0 G0 S0 hH qK;have pQ:∀{H':Hp},(∀b∈fp,H' b=none)->∀b∈fp,fK X' [] H' b:=λhn b p=>⟨hn b p,(U b p).2⟩
 refine codeAny_loop rfl (CompI X' t c e fp B N sh L all K C g') ?_ (L+1)
   ⟨0,σ,H,ιo,σd,g,[],[],all,rfl,aaR _,I,t0,SH,E0,G0,S0,hH,by simp[ag],aal _,by simpa using qK,rfl⟩
 clear qK hH S0 G0 E0 SH t0 I g σd ιo H σ s;rintro n s ⟨i,σ,H,ιo,σd,g,vs,acc,more,rfl,eU,I,ti,Hg,E1,G1,S1,Hh,vS,Cj,hf,rfl⟩;show wpAny _ X'.A ((compTurn (.ListComp elt [⟨tg,iter,ifs,0⟩] scope M) 0 (.ref O) (.ref B) X'.env).onRaise (λx=>do noteFrame x X'.env;theTreesLotGoes x)) _ _ s;refine wpAny_noted ?_;rw[compTurn_list];refine aaa (aei (aaa ?_));have j1:=Z i H (Ix.hide ιo B) g (E1.Vx hD) G1;by_cases bM:i<L
 . rw[show L-i=(L-(i+1))+1 by omega]at hf
   obtain⟨xs,d0,Cm,MT,tT,hf⟩:=As hf;rw[show L-(L-(i+1)+1)=i by omega]at tT;obtain⟨st,go⟩:=j1 xs Cm MT;obtain⟨go,yl⟩:=go d0 tT;refine aY (T.item X' rfl rfl rfl P i [] s σ H _ I (pQ Hg) ti go) λr s4 ⟨u,hr,h4⟩=>?_;subst hr;refine aaa (aY h4 λ_ s5 ⟨x,H5,I5,r5,y5,t5,LH⟩=>?_);obtain⟨e5,G5,YT⟩:=yl x H5 y5;obtain⟨⟨σ6,g6⟩,h6,hf⟩:=bind_some hf;obtain⟨⟨k7,g7⟩,h7,hf⟩:=bind_some hf;have ab:=I5.pinned (pQ LH) (T.obj _ _ t5);have lift:∀{α:Type} {tr:Sem α} {Q:α->aac->Prop} {E:Value->aac->Prop} {s:aac},wpAny (model X'.prog X'.w) X'.A tr Q X'.xe s->wpAny (model X'.prog X'.w) X'.A tr Q E s:=λh=>aex h (λ_ _ q=>q) λ_ _ z=>by rw[Y]at z;exact z.elim
   have again:∀{s9:aac} {σ9:L2.St} {f:Hp} {ι9:Ix} {Hi:Sg} {g9:G} {Hj:List V} {acc9:List D} {oC:List D},Inv X' ([]++ny fp s5.heap) σ9 f s9->Ext K C f ι9->aw X'.kw f (Ix.hide ι9 B) g9->bo X'.kw f (Ix.hide ι9 B) Hi σ9 ->
     f B=some (.lst Hj)->ag X'.kw f (Ix.hide ι9 B) acc9 Hj->acc9.length<=i+1->dH sh L t c e (L-(i+1)) Hi g9=some (oC,g')->acc++more=acc9++oC ->
     ∃m,m<L+1-i/\CompI X' t c e fp B N sh L (acc++more) K C g' m s9:=by
    intro s9 σ9 f ι9 Hi g9 Hj acc9 oC I9 E9 G9 S9 h9 r9 l9 f9 a9;refine⟨L+1-(i+1),by omega,i+1,σ9,f,ι9,Hi,g9,Hj,acc9,oC,rfl,bM,I9.l6,T.keep _ _ _ t5 λb p o e=>(I9.pin (b,o) (abf _ (abf _ (jw p e)))).1,λb p=>?_,E9,G9,S9,h9,r9,l9,f9,a9⟩;obtain⟨o,e,d⟩:=T.obj _ _ t5 b p;exact(I9.pin (b,o) (abf _ (abf _ (jw p e)))).2.1
   refine aaa (lift (aY (W.un _ s5 σ H5 x u (λσ' H'=>∃k,Ext H5 (Ix.hide ιo B) H' k/\aw X'.kw H' k g6/\bo X'.kw H' k σ6 σ') ab r5 ⟨Ix.hide ιo B,σd,g,d0,σ6,g6,G5,S1.ext e5,YT,h6,λH6 k Hk e6 G6 S6=>⟨k,e6,G6,S6⟩⟩) λ_ s6 q6=>?_));obtain⟨Hk,H6,I6,k,e6,G6,S6⟩:=q6;refine aaa (lift (aY (S.un _ s6 Hk H6 (λb H'=>b=k7 /\ ∃l,Ext H6 k H' l/\aw X'.kw H' l g7) I6 ⟨k,σ6,g6,k7,g7,G6,S6,h7,λH7 l e7 G7=>⟨rfl,l,e7,G7⟩⟩) λok s7 q7=>?_));obtain⟨H7,I7,rfl,l,e7,G7⟩:=q7;have Hl:=(e5.trans e6).trans e7;obtain⟨E7,YU⟩:=E1.He Hl;have YV:H7 B=some (.lst vs):=Hl.same B _ Hh (G1.ck B aaC).1;have r7:=ag.ext Hl _ vS;have S7:=S6.ext e7;cases ok with
   |false =>
    simp only[aaz,if_false]at hf;refine aad ⟨rfl,?_⟩;rw[YU]at G7 S7 r7;exact again I7 E7 G7 S7 YV r7 (by omega) hf rfl
   |true =>
    simp only[if_true]at hf;obtain⟨⟨d8,g8⟩,h8,hf⟩:=bind_some hf;obtain⟨⟨oC,g9⟩,h9,hf⟩:=bind_some hf;obtain⟨rfl,rfl⟩:d8::oC=more/\g9=g':=by cases hf;exact⟨rfl,rfl⟩
    refine aaa (aaa (lift (aY (he.un _ s7 Hk H7 (λv H'=>∃ι8,Ext H7 l H' ι8/\aw X'.kw H' ι8 g8/\Rel X'.kw H' ι8 d8 v) I7 ⟨l,σ6,g7,d8,g8,G7,S7,h8,λH8 ι8 v e8 G8 r8=>⟨ι8,e8,G8,r8⟩⟩) λy s8 q8=>?_)));obtain⟨v8,H8,I8,YW,ι8,e8,G8,r8⟩:=q8;have MU:=Hl.trans e8;obtain⟨E8,YX⟩:=E1.He MU;have Cn:H8 B=some (.lst vs):=MU.same B _ Hh (G1.ck B aaC).1;have Hm:=ag.ext MU _ vS;have S8:=S7.ext e8;have hlen:vs.length<aax:=by rw[<- vS.length];omega
    rw[YX]at G8 S8 Hm r8;refine aaa (lift (aY (tI (X:=X') _ s8 Hk H8 (.ref B) [v8] (.ref B) [y] (λ_ H'=>H'=upd H8 B (.lst (vs ++ [v8]))) I8 rfl (.cons YW .nil) ⟨B,vs,v8,rfl,rfl,Cn,hlen,rfl⟩) λ_ s9 q9=>?_));obtain⟨_,f,I9,_,rfl⟩:=q9;refine aad (aad ⟨rfl,?_⟩);refine again (acc9:=acc ++ [d8]) I9 (E8.Hf hD) (G8.grow Cn) ⟨S8.1,λj d q=>let⟨v,a,b⟩:=S8.2 j d q;⟨v,a,Rel.grow Cn d b⟩⟩ aR ?_ (by simp;omega) h9 (by simp);exact ag.append (ag.grow Cn _ Hm) (by simp only[ag];exact⟨v8,[],rfl,Rel.grow Cn _ r8,rfl⟩)
 . have ei:i=L:=by omega
   subst ei;rw[adY]at hf;obtain⟨xs,Cm,MT,rfl,rfl⟩:=Ar hf;obtain⟨st,go⟩:=j1 xs Cm MT;refine aY (T.done X' rfl rfl rfl P _ [] s σ H _ I (pQ Hg) ti (st (aal _))) λr s4 ⟨hr,I4⟩=>?_;subst hr;exact aad (fin s4 σ H ιo vs I4 Hg E1 G1 Hh (by simpa using vS))
def cH (mk:List D->G->Option (D×G))(a:FI)(fr:List (Option Nat))(t:FG)(c:FT)(e:FE):FE:=λσ g=>(a σ g).bind λr=>if az r.1.length=true then(cN t c e r.1 (cf fr σ) r.2).bind λq=>mk q.1 q.2 else none
def j4 (mk:List D->G->Option (D×G))(a:qJ)(fr:List (Option Nat))(t:FG)(c:FT)(e:FE):FE:=λσ g=>(a σ g).bind λr=>if az r.2.1=true then(dH r.1 r.2.1 t c e r.2.1 (cf fr σ) r.2.2).bind λq=>mk q.1 q.2 else none
noncomputable def cg (ds:List D)(g:G):Option (D×G):=some (.lst ds,g)
noncomputable def jj (ds:List D)(g:G):Option (D×G):=some (.ref g.length,g ++ [ds])
theorem bo.sub {K H ι e σ}(fr:List (Option Nat))(h:bo K H ι e σ):bo K H ι (cf fr e) (cf fr σ):=by
 refine⟨by simp[cf],λj d q=>?_⟩;unfold cf at q ⊢;rw[aaP]at q ⊢;cases hf:fr[j]? with
 |none=>rw[hf]at q;cases q
 |some o =>
  rw[hf]at q;cases o with
  |none=>cases q
  |some i =>
   have c:e[i]? = some (some d):=by
    simp only[abn,acT]at q;cases z:e[i]? with
    |none=>rw[z]at q;cases q|some w=>rw[z]at q;simp at q;rw[q]
   obtain⟨v,b,a⟩:=h.2 i d c;exact⟨v,by simp[b],a⟩
section
variable {X:Cx}{tg iter elt:Expr}{ifs:List Expr}{scope:Scope}{pos cM:Pos}{N:List Str}{fr:List (Option Nat)}{fi:qJ}{t:FG}{c:FT}{e:FE}
theorem nF {b0:List (Addr×Obj)}{s:aac}{σ:L2.St}{H:Hp}{ι:Ix}{B:Sg}{g g1 g':G}{all:List D}{sh:Sh}{L:Nat}{use:Option (Value->Sem Unit)}{Q:Value->aac->Prop}
  (U:X.xe=λ_ _=>False) (M:X.calm=true) (ok:eM X N fr scope) (E:vR X tg iter fi) (S:∀C s3 H fp b0,DG (ba X N scope C s3 H fp b0) tg t/\gF (ba X N scope C s3 H fp b0) ifs c/\DE (ba X N scope C s3 H fp b0) elt e)
  (R:∀x,aa7 iter X.env x=pure x) (I:Inv X b0 σ H s) (G0:aw X.kw H ι g) (K:bo X.kw H ι B σ) (O:fi B g=some (sh,L,g1)) (hz:az L=true) (P:dH sh L t c e L (cf fr B) g1=some (all,g'))
  (fin:∀s' H' ιo vs Dl C,Inv X b0 σ H' s'->fK X b0 H' C->(∃m,s'.heap.Ns C m)->Ext H ι H' ιo->aw X.kw H' (Ix.hide ιo Dl) g'->H' Dl=some (.lst vs)->ag X.kw H' (Ix.hide ιo Dl) all vs->Dl ∉ ιo.hd->H Dl=none->compPost (model X.prog X.w) X.A X.xe use Q (.ref Dl) C (.ok .next) s'):
  wpAny (model X.prog X.w) X.A (comprehension (.ListComp elt [⟨tg,iter,ifs,0⟩] scope pos) scope X.env cM (newList []) false (eval iter X.env) use) Q X.xe s:=by
 have free:∀x∈scope.names,x.2 = .free->∃c,X.env.cells.lookup x.1=some c:=λx hx hk=>I.ok.has x.1 (ok.free x hx hk).2;refine wpAny_comprehension_free (use:=use) rfl R (uC free) ok.kind ok.names (aY (E.un b0 s σ H (λJ H'=>∃h,Ext H ι H' h/\aw X.kw H' h g1/\Aq X.kw J H' h sh L) I ⟨ι,B,g,sh,L,g1,G0,K,O,λH1 h J n y J1=>⟨h,n,y,J1⟩⟩) λxv s1 yK=>aY yK λLB s2 q2=>?_);obtain⟨it,fp,tn,J,H1,rfl,I1,T,t1,f1,h,n,y,J1⟩:=q2;refine abH ?_;have k:H1 s2.heap.objs.size=none:=I1.aU.fresh (aal _);generalize MV:({ s2 with heap:=s2.heap.push { cls:=.type "list",dict:=none,data:=.seq ([]:List Value).toArray } }:aac)=s3;have r:Inv X b0 σ (upd H1 s2.heap.objs.size (.lst [])) s3:=by rw[<- MV];exact I1.laid (t':=s2.toks) (λb u e=>aaf _ e) (aal _) ⟨aaR _,[],0,.nil,aaq _ rfl⟩
 have k3:∀b o,s2.heap.get? b=some o->s3.heap.get? b=some o:=λb o e=>by rw[<- MV];exact aaf _ e
 have SI:s3.heap.objs.size=s2.heap.objs.size+1:=by rw[<- MV];exact ab_ ..
 have tO:∀b∈fp,b<s2.heap.objs.size:=λb f=>let⟨o,eo,_⟩:=T.obj _ _ t1 b f;aas eo;have i:∀b∈fp,fK X b0 (upd H1 s2.heap.objs.size (.lst [])) b:=λb f=>⟨by rw[aB (aaH (tO b f))];exact(f1 b f).1,(f1 b f).2⟩
 refine yf (QO r) λh4 Vy k4 kc=>?_;have I4:=Ap (tk:=s3.toks) ok r i (λb f=>by rw[SI];exact abX (tO b f)) Vy k4 kc;obtain⟨hg,hi,he⟩:=S s3.heap.objs.size s3 (upd H1 s2.heap.objs.size (.lst [])) fp b0;have t4:tn 0 h4:=T.keep _ _ _ t1 λb f o e=>k4 b o (k3 b o e);have fx:∀b∈fp,fK (ba X N scope s3.heap.objs.size s3 (upd H1 s2.heap.objs.size (.lst [])) fp b0) [] (upd H1 s2.heap.objs.size (.lst [])) b:=λb f=>by
  refine⟨(i b f).1,?_,?_,.inl f,?_,?_⟩
  . exact aaH (by rw[SI];exact abX (tO b f))
  . exact I4.ok.vf b f
  . exact(I4.ok.K_ b f).2
  . intro p hp
    have yH:p∈X.pn++b0:=by have q:p∈(X.pn++b0) ++ []:=hp;simpa using q
    exact(f1 b f).2.2.2.2.2 p yH
 have loop:adO (model X.prog X.w) X.A (.compLoop (.ListComp elt [⟨tg,iter,ifs,0⟩] scope pos) 0 (.ref it) (.ref s2.heap.objs.size) (compEnvC scope (cellsOf scope X.env s3.heap.objs.size) s3.heap.objs.size X.env))
    (compPost (model X.prog X.w) X.A X.xe use Q (.ref s2.heap.objs.size) s3.heap.objs.size) { s3 with heap:=h4 }:=by
  refine Ck (X':=ba X N scope s3.heap.objs.size s3 (upd H1 s2.heap.objs.size (.lst [])) fp b0) (all:=all) (g':=g') rfl M T fx J1 k (az.le hz) hg hi he ?_ _ _ _ h (cf fr B) g1 I4 t4 (λb f=>(i b f).1) ((Ext.refl (H:=H1) (ι:=h)).Hf k) (y.hide k) ?_ aR P
  . intro s' σ' H' ιo vs l Co E' G' YY r'
    have I5:Inv X b0 σ H' s':=r.Qh (ch:=fp) l.os l.base l.aU l.bare λb f=>⟨(i b f).2.2.2.1,(i b f).2.1,(i b f).2.2.2.2.1,(i b f).2.2.2.2.2⟩
    obtain⟨m,hm,_⟩:=l.loc;refine fin s' H' ιo vs _ _ I5 ?_ ⟨m,hm⟩ (n.trans E') G' YY r' ?_ ?_
    . have z:=r.nu (H':=H') (b:=s3.heap.objs.size) (aal _) l.free
      exact z
    . rw[E'.ck];exact y.gZ k
    . cases q:H s2.heap.objs.size with
      |none=>rfl|some o=>exact absurd k (n.there _ (by rw[q];simp))
  . have S1:bo X.kw H1 h (cf fr B) (cf fr σ):=(K.ext n).sub fr
    exact⟨S1.1,λj d q=>let⟨v,a,b⟩:=S1.2 j d q;⟨v,a,Rel.hide k d b⟩⟩
 exact codeAny_compStart_list loop (T.self _ 0 _ _ _ t4 loop)
theorem vT {H ι H' a K g' all vs b d h Q}(e:Ext H ι H' a)(f:aw K H' (Ix.hide a b) g')(hD:H' b=some (.lst vs))(r:ag K H' (Ix.hide a b) all vs)(j:b ∉ a.hd)(i:cg all g'=some (d,h))(p:fN K H ι d h Q):Q (.ref b) H':=by cases i;refine p H' a _ e f.show ?_;simp only[Rel];exact⟨b,vs,rfl,.inl ⟨.inl hD,(f.ck b aaC).1,j⟩,ag.show _ r⟩
end
theorem aw.MW {K H ι g p xs vs}(h:aw K H (Ix.hide ι p) g)(A:H p=some (.lst vs))(B:p ∉ ι.hd)(r:ag K H (Ix.hide ι p) xs vs):aw K H (ι.more p 0) (g ++ [xs]):=by
 have lD:p ∉ ι.ix:=(h.ck p aaC).1;have SK:∀{n:Nat} {a:Addr} {b:Bool},dA (Ix.hide ι p) n a b->dA (ι.more p 0) n a b:=fun {n a b} f=>by
   have hl:n < ι.ix.length:=(aab.mp f.1).1;refine⟨?_,?_⟩
   . show(ι.ix ++ [p])[n]? = some a
     rw[aan hl];exact f.1
   . show kb (if n=ι.ix.length then 0 else ι.kd n)=b
     rw[if_neg (by omega)];exact f.2
 have up:∀(d:D) (v:V),Rel K H (Ix.hide ι p) d v->Rel K H (ι.more p 0) d v:=λd=>by
   refine D.rec (motive_1:=λd=>∀v,Rel K H (Ix.hide ι p) d v->Rel K H (ι.more p 0) d v) (motive_2:=λds=>∀vs,ag K H (Ix.hide ι p) ds vs->ag K H (ι.more p 0) ds vs)
     ?_ ?_ ?_ ?_ ?_ ?_ ?_ ?_ ?_ ?_ ?_ ?_ d
   . intro v h;simpa[Rel]using h
   . intro b v h;simpa[Rel]using h
   . intro b v h;simpa[Rel]using h
   . intro b v h;simpa[Rel]using h
   . intro xs ih v h
     simp only[Rel]at h ⊢;obtain⟨a,us,j,f,s⟩:=h;refine⟨a,us,j,?_,ih _ s⟩;rcases f with⟨f,n⟩|f
     . refine .inl ⟨f,λz=>?_⟩
       rcases aao.mp z with z|z
       . exact n z
       . simp at z;subst z
         rcases f with f|⟨o,f⟩<;>(rw[A]at f;cases f)
     . exact .inr f
   . intro xs ih v h
     simp only[Rel]at h ⊢;obtain⟨a,us,j,f,s⟩:=h;refine⟨a,us,j,?_,ih _ s⟩;rcases f with⟨f,n,k⟩|f
     . refine .inl ⟨f,λz=>?_,λz=>k (aau _ z)⟩
       rcases aao.mp z with z|z
       . exact n z
       . simp at z;subst z;exact k aaC
     . exact .inr f
   . intro v h
     simp only[Rel]at h ⊢;obtain⟨a,j,f,s⟩:=h;refine⟨a,j,f,λz=>?_⟩;rcases aao.mp z with z|z
     . exact s z
     . simp at z;subst z;rw[A]at f;cases f
   . intro n v h
     simp only[Rel]at h ⊢;obtain⟨a,j,f⟩:=h;exact⟨a,j,SK f⟩
   . intro n v h
     simp only[Rel]at h ⊢;obtain⟨a,j,f⟩:=h;exact⟨a,j,SK f⟩
   . intro x ds ih v h
     simp only[Rel]at h ⊢;obtain⟨a,us,j,f,s⟩:=h;refine⟨a,us,j,f.mono λc u z q=>⟨q.1,λm=>?_,λy m=>q.2.2 y (aau _ m)⟩,ih _ s⟩;rcases aao.mp m with m|m
     . exact q.2.1 m
     . simp at m;have y:=q.1;rw[m,A]at y;rw[<- aa_ y]at z;cases z
   . intro vs h;simpa[ag]using h
   . intro d ds Ms B5 vs h
     simp only[ag]at h ⊢;obtain⟨v,vr,j,f,s⟩:=h;exact⟨v,vr,j,Ms v f,B5 vr s⟩
 have SM:∀(ds:List D) (vs:List V),ag K H (Ix.hide ι p) ds vs->ag K H (ι.more p 0) ds vs:=λds=>by
   induction ds with
   |nil=>intro vs h;simpa[ag]using h
   |cons d ds ih =>
     intro vs h;simp only[ag]at h ⊢;obtain⟨v,vr,j,f,s⟩:=h;exact⟨v,vr,j,up d v f,ih vr s⟩
 refine⟨?_,by simp[<- h.len,Ix.hide,Ix.more],λb hb=>⟨λz=>?_,(h.ck b (aau _ hb)).2⟩,λi ys q=>?_,λq f=>⟨(h.tb q f).1,λm=>?_⟩⟩
 . show(ι.ix ++ [p]).Nodup
   rw[aco];refine⟨h.nd,by simp,λa ha b hb=>?_⟩;simp at hb;subst hb;intro e;subst e;exact lD ha
 . rcases aao.mp z with z|z
   . exact(h.ck b (aau _ hb)).1 z
   . simp at z;subst z;exact B hb
 . have hl:ι.ix.length=g.length:=h.len
   by_cases hi:i<g.length
   . rw[aan hi]at q
     obtain⟨a,o,us,h1,h2,ov,h3⟩:=h.at_ i ys q;refine⟨a,o,us,(by show(ι.ix ++ [p])[i]? = some a;rw[aan (by rw[hl];exact hi)];exact h1),h2,?_,SM _ _ h3⟩;show OV K _ _ (if i=ι.ix.length then 0 else ι.kd i) o us;rw[if_neg (by omega)];exact ov
   . rw[aaJ (by omega)]at q
     have Hb:i-g.length=0:=by
       cases e:i-g.length with
       |zero=>rfl|succ k=>rw[e]at q;simp at q
     rw[Hb]at q;have e:xs=ys:=by simpa using q
     subst e;refine⟨p,_,vs,?_,A,?_,SM _ _ r⟩
     . show(ι.ix ++ [p])[i]? = some p
       rw[aaJ (by rw[hl];omega),hl,Hb];rfl
     . show OV K _ _ (if i=ι.ix.length then 0 else ι.kd i) _ vs
       rw[if_pos (by omega)];exact .l vs
 . rcases aao.mp m with m|m
   . exact(h.tb q f).2 m
   . simp at m;have z:=(h.tb q f).1;rw[m,A]at z;cases z
theorem vU {H ι H' f K g' all vs h d k Q}(e:Ext H ι H' f)(l:H h=none)(j:aw K H' (Ix.hide f h) g')(hD:H' h=some (.lst vs))(r:ag K H' (Ix.hide f h) all vs)(o:h ∉ f.hd)(n:jj all g'=some (d,k))(p:fN K H ι d k Q):Q (.ref h) H':=by
 cases n;obtain⟨m,em,c⟩:=e.more;refine p H' (f.more h 0) _ ⟨e.same,e.there,⟨m ++ [h],by show f.ix ++ [h]=_;rw[em,aaU],λa z=>?_⟩,e.ck,λi b=>?_⟩ (j.MW hD o r) ?_
 . rcases aao.mp z with z|z
   . exact c a z
   . simp at z;subst z;exact l
 . show(if i=f.ix.length then 0 else f.kd i)=ι.kd i
   rw[if_neg (by rw[em,aai];omega)];exact e.mX i b
 . simp only[Rel]
   exact⟨h,rfl,dA.new j.len⟩
section
variable {X:Cx}{tg iter elt:Expr}{ifs:List Expr}{scope:Scope}{pos cM:Pos}{N:List Str}{fr:List (Option Nat)}{fi:qJ}{t:FG}{c:FT}{e:FE}
theorem vV (J:X.xe=λ_ _=>False)(B:X.calm=true)(ok:eM X N fr scope)(A:vR X tg iter fi)(K:∀C s3 H fp b0,DG (ba X N scope C s3 H fp b0) tg t/\gF (ba X N scope C s3 H fp b0) ifs c/\DE (ba X N scope C s3 H fp b0) elt e)
   (E:∀x,aa7 iter X.env x=pure x):DE X (.ListComp elt [⟨tg,iter,ifs,0⟩] scope pos) (j4 cg fi fr t c e):=.of (by
 intro b0 s σ H Q I h;obtain⟨ι,σd,g,d,gg,G0,S0,h,p⟩:=h;obtain⟨⟨sh,L,g1⟩,i,h⟩:=bind_some h;dsimp only at h;split at h
 . rename_i z
   obtain⟨⟨all,g'⟩,h2,h⟩:=bind_some h;rw[eval_ListComp];refine nF (use:=none) J B ok A K E I G0 S0 i z h2 λv a ιo vs j C f fC ⟨m,hm⟩ u y hD r q qK=>?_;refine⟨m,hm,λvW sb=>⟨.ref j,a,?_,rfl,vT u y hD r q h p⟩⟩;obtain⟨f0,f1,f2,k,f4,l⟩:=fC;exact f.turned (t':=v.toks) (λb o n e=>sb.extBut b o n e) f0 f1 k f4 l
 . cases h)
theorem nG {mk:List D->G->Option (D×G)}{i:Nat}{x:Str}{px E:Pos}(U:∀{H ι H' ιo g' all vs Dl d gg Q},Ext H ι H' ιo->H Dl=none->aw X.kw H' (Ix.hide ιo Dl) g'->H' Dl=some (.lst vs)->ag X.kw H' (Ix.hide ιo Dl) all vs->Dl ∉ ιo.hd->mk all g'=some (d,gg)->fN X.kw H ι d gg Q->Q (.ref Dl) H')
   (P:X.xe=λ_ _=>False) (M:X.calm=true) (ok:eM X N fr scope) (B:vR X tg iter fi) (T:∀C s3 H fp b0,DG (ba X N scope C s3 H fp b0) tg t/\gF (ba X N scope C s3 H fp b0) ifs c/\DE (ba X N scope C s3 H fp b0) elt e)
   (S:X.N.Nodup) (J:X.N[i]? = some x) (R:Loc X.env.scope x)
   (W:adz (.ListComp elt [⟨tg,iter,ifs,0⟩] scope pos) (some (.Name x px)) E.line X.env=pure true)
   (O:∀x,aa7 iter X.env x=pure x) (K:X.fn x=true\/X.env.scope.names.lookup x=some .local):DS X (.Assign [.Name x px] (.ListComp elt [⟨tg,iter,ifs,0⟩] scope pos) E) (aD (j4 mk fi fr t c e) (gN i)):=.of (by
 intro b0 s σ H y I h;obtain⟨ι,q,g,r,bC,gg,G0,n,h0,p⟩:=h;obtain⟨⟨d,Y0⟩,yK,hr⟩:=bind_some h0;have et:some (F.nx,q.set i (some d),Y0)=some (r,bC,gg):=hr;clear h0;obtain⟨⟨sh,L,g1⟩,h1,f⟩:=bind_some (x:=fi q g) yK;dsimp only at f;split at f
 . rename_i hz
   obtain⟨⟨all,g'⟩,h2,h4⟩:=bind_some f;rw[exec_Assign_Name_used _ _ _ _ W];refine aaa (aei (aaa ?_));show wpAny _ X.A (do let _ <- comprehension (.ListComp elt [⟨tg,iter,ifs,0⟩] scope pos) scope X.env _ (newList []) false (eval iter X.env) (some (adG (.Name x px) X.env))) _ _ s;refine aaa (aex (nF (use:=some (adG (.Name x px) X.env)) (Q:=λ_ l=>SP X b0 y .next l) P M ok B T O I G0 n h1 hz h2 λl H' ιo vs Dl C I' fC ⟨m,hm⟩ e' G' hD r hn qK=>?_) (λ_ l hq=>aad (aad hq)) λ_ _ e=>e);show wpAny _ X.A (adG (.Name x px) X.env (.ref Dl)) _ _ _;refine wpAny_assign_Name (sZ I' S J R (v:=.ref Dl) rfl (λvm j ⟨a,sb,k⟩=>?_) K);obtain⟨f0,f1,f2,f3,f4,f5⟩:=fC;have Cp:C≠a:=by
    rcases k with rfl|k
    . exact f1
    . exact λz=>f4 _ _ k z.symm
   obtain⟨oc,es,ep,ho,rest⟩:=hm;refine⟨m,⟨oc,es,ep,(sb.2 C Cp).trans ho,rest⟩,λvW Y1=>?_⟩;refine⟨σ.set i (some (.ref Dl)),H',j.turned (t':=vm.toks) (λb o hb e=>Y1.extBut b o hb e) f0 f1 f3 f4 f5,?_⟩;cases et;exact U (Q:=λv H'=>y.nx (σ.set i (some v)) H') e' qK G' hD r hn h4 λH2 ι2 v u G2 r2=>p H2 ι2 u G2 _ ((n.ext u).set r2 i)
 . cases f)
theorem tU (J:X.xe=λ_ _=>False)(B:X.calm=true)(ok:eM X N fr scope)(A:vR X tg iter fi)(K:∀C s3 H fp b0,DG (ba X N scope C s3 H fp b0) tg t/\gF (ba X N scope C s3 H fp b0) ifs c/\DE (ba X N scope C s3 H fp b0) elt e)
   (E:∀x,aa7 iter X.env x=pure x):DE X (.ListComp elt [⟨tg,iter,ifs,0⟩] scope pos) (j4 jj fi fr t c e):=.of (by
 intro b0 s σ H Q I h;obtain⟨ι,σd,g,d,gg,G0,S0,h,p⟩:=h;obtain⟨⟨sh,L,g1⟩,i,h⟩:=bind_some h;dsimp only at h;split at h
 . rename_i z
   obtain⟨⟨all,g'⟩,h2,h⟩:=bind_some h;rw[eval_ListComp];refine nF (use:=none) J B ok A K E I G0 S0 i z h2 λv a ιo vs j C f fC ⟨m,hm⟩ u y hD r q qK=>?_;refine⟨m,hm,λvW sb=>⟨.ref j,a,?_,rfl,vU u qK y hD r q h p⟩⟩;obtain⟨f0,f1,f2,k,f4,l⟩:=fC;exact f.turned (t':=v.toks) (λb o n e=>sb.extBut b o n e) f0 f1 k f4 l
 . cases h)
end
noncomputable def Cq (a:FI):qJ:=λσ g=>(a σ g).map λr=>(λ_=>some r.1,r.1.length,r.2)
theorem nI {X:Cx}{tg iter:Expr}{z:FI}(h:DI X tg iter z):vR X tg iter (Cq z):=.of (PI.imp h.un λσ H Q q=>by
 obtain⟨ι,k,g,y,L,v,G0,u,s,p⟩:=q;obtain⟨⟨ds,g1⟩,c,e⟩:=aak.mp s;cases e;exact⟨ι,k,g,ds,g1,G0,u,c,λa d J b r l=>p a d J b r λi H1 n g2 f j xs o x=>by cases o;exact l i H1 n g2 f j⟩)
theorem rW {ds:List D}{t:FG}{c:FT}{e:FE}:∀(k:Nat) (σ:Sg) (g:G),k<=ds.length->dH (λ_=>some ds) ds.length t c e k σ g=cN t c e (ds.drop (ds.length-k)) σ g
 | 0,σ,g,_=>by simp[dH,cN]
 |k+1,σ,g,h=>by
  have a:ds.length-(k+1)<ds.length:=by omega
  rw[acd a,show ds.length-(k+1)+1=ds.length-k by omega];simp only[dH,cN,aaj,if_true,aag a];refine congrArg _ (funext λq=>congrArg _ (funext λb=>?_));split
  . refine congrArg _ (funext λr=>?_)
    rw[rW k _ _ (by omega)]
  . rw[rW k _ _ (by omega)]
theorem oD {mk:List D->G->Option (D×G)}{a:FI}{fr:List (Option Nat)}{t:FG}{c:FT}{e:FE}:cH mk a fr t c e=j4 mk (Cq a) fr t c e:=by
 funext σ g;unfold cH j4 Cq;cases a σ g with
 |none=>rfl
 |some r =>
  simp only[aaj,abn];rw[rW _ _ _ (aal _),adY,aeW]
section
variable {X:Cx}{tg iter elt:Expr}{ifs:List Expr}{scope:Scope}{pos cM:Pos}{N:List Str}{fr:List (Option Nat)}{fi:FI}{t:FG}{c:FT}{e:FE}
theorem Ju (f:X.xe=λ_ _=>False)(b:X.calm=true)(ok:eM X N fr scope)(a:DI X tg iter fi)(h:∀C s3 H fp b0,DG (ba X N scope C s3 H fp b0) tg t/\gF (ba X N scope C s3 H fp b0) ifs c/\DE (ba X N scope C s3 H fp b0) elt e)
  (d:∀x,aa7 iter X.env x=pure x):DE X (.ListComp elt [⟨tg,iter,ifs,0⟩] scope pos) (cH cg fi fr t c e):=by
 rw[oD];exact vV f b ok (nI a) h d
theorem Au {i:Nat}{x:Str}{px j:Pos}(q:X.xe=λ_ _=>False)(n:X.calm=true)(ok:eM X N fr scope)(h:DI X tg iter fi)(v:∀C s3 H fp b0,DG (ba X N scope C s3 H fp b0) tg t/\gF (ba X N scope C s3 H fp b0) ifs c/\DE (ba X N scope C s3 H fp b0) elt e)
  (u:X.N.Nodup) (k:X.N[i]? = some x) (s:Loc X.env.scope x) (y:adz (.ListComp elt [⟨tg,iter,ifs,0⟩] scope pos) (some (.Name x px)) j.line X.env=pure true)
  (o:∀x,aa7 iter X.env x=pure x) (l:X.fn x=true\/X.env.scope.names.lookup x=some .local):
  DS X (.Assign [.Name x px] (.ListComp elt [⟨tg,iter,ifs,0⟩] scope pos) j) (aD (cH cg fi fr t c e) (gN i)):=
 by rw[oD];exact nG (λf _ a hD r b d p=>vT f a hD r b d p) q n ok (nI h) v u k s y o l
theorem yg {i:Nat}{x:Str}{px k:Pos}(s:X.xe=λ_ _=>False)(o:X.calm=true)(ok:eM X N fr scope)(j:DI X tg iter fi)(y:∀C s3 H fp b0,DG (ba X N scope C s3 H fp b0) tg t/\gF (ba X N scope C s3 H fp b0) ifs c/\DE (ba X N scope C s3 H fp b0) elt e)
  (v:X.N.Nodup) (l:X.N[i]? = some x) (u:Loc X.env.scope x) (z:adz (.ListComp elt [⟨tg,iter,ifs,0⟩] scope pos) (some (.Name x px)) k.line X.env=pure true)
  (q:∀x,aa7 iter X.env x=pure x) (n:X.fn x=true\/X.env.scope.names.lookup x=some .local):
  DS X (.Assign [.Name x px] (.ListComp elt [⟨tg,iter,ifs,0⟩] scope pos) k) (aD (cH jj fi fr t c e) (gN i)):=
 by rw[oD];exact nG (λh a b hD r d f p=>vU h a b hD r d f p) s o ok (nI j) y v l u z q n
end
noncomputable def jA (sh:Sh)(L:Nat)(t:FG)(b:FS):Nat->FS
 | 0,σ,g=>(sh g).bind λxs=>if xs.length=L then some (.nx,σ,g)else none
 |r+1,σ,g=>(sh g).bind λxs=>if xs.length=L then(xs[L-(r+1)]?).bind λd=>(t d σ g).bind λq=>(b q.1 q.2).bind λa=>match a.1 with
   |.nx=>jA sh L t b r a.2.1 a.2.2|.ct=>jA sh L t b r a.2.1 a.2.2|.bk=>some (.nx,a.2.1,a.2.2)|.rt d=>some (.rt d,a.2.1,a.2.2)
  else none
def Av (a:qJ)(t:FG)(b:FS):FS:=λσ g=>(a σ g).bind λr=>jA r.1 r.2.1 t b r.2.1 σ r.2.2
section
variable {X:Cx}{tg:Expr}{pos:Pos}
inductive Fj (X:Cx)(t:FG)(b:FS)(sh:Sh)(L:Nat)(H1:Hp)(ι1:Ix)(r:F)(bC:Sg)(g':G)(i:Nat)(σ2:L2.St)(H2:Hp):Prop
 |mk (ι2:Ix) (kK:Sg) (g2:G) (e2:Ext H1 ι1 H2 ι2) (G2:aw X.kw H2 ι2 g2) (S2:bo X.kw H2 ι2 kK σ2) (hf:jA sh L t b (L-i) kK g2=some (r,bC,g')):Fj X t b sh L H1 ι1 r bC g' i σ2 H2
theorem Jv {iter:Expr}{body:List Stmt}{C:qJ}{t:FG}{b:FS}(E:aes (model X.prog X.w) X.A X.env X.xe)(K:X.calm=true)(B:vR X tg iter C)(I:DG X tg t)(N:kI X body b)
   (M:∀x,aa7 iter X.env x=pure x):DS X (.For tg iter body [] pos) (Av C t b):=.of (PS.imp (BF E K B.un I.un N.un M) λDn σ H h=>by
 obtain⟨ι,σd,g,r,bC,g',G0,S0,h,p⟩:=h;obtain⟨⟨n,L,g1⟩,h1,h⟩:=bind_some h;refine⟨ι,σd,g,n,L,g1,G0,S0,h1,λH1 z J j G1 J1=>?_⟩;dsimp only at h;refine⟨λi m o f=>m=L-i/\i<=L/\Fj X t b n L H1 z r bC g' i o f,
   ⟨L,by simp,aaR _,z,σd,g1,Ext.refl,G1,S0.ext j,by simpa using h⟩,?_⟩
 rintro i m o f ⟨rfl,B,q,kK,g2,e2,G2,S2,hf⟩;have j1:=J1 i f q g2 e2.dW G2;by_cases bM:i<L
 . rw[show L-i=(L-(i+1))+1 by omega]at hf
   simp only[jA]at hf;obtain⟨xs,hx,hf⟩:=bind_some hf;split at hf
   . rename_i s
     obtain⟨d0,tT,hf⟩:=bind_some hf;rw[show L-(L-(i+1)+1)=i by omega]at tT;obtain⟨⟨σ3,g3⟩,h3,hf⟩:=bind_some hf;obtain⟨⟨r4,σ4,g4⟩,h4,hf⟩:=bind_some hf;obtain⟨st,go⟩:=j1 xs hx s;obtain⟨go,yl⟩:=go d0 tT;refine .inr ⟨go,λσ5 H5=>Fj X t b n L H1 z r bC g' (i+1) σ5 H5,?_,?_⟩
     . rintro σ5 H5 ⟨ι5,MX,g5,e5,G5,S5,h5⟩
       exact⟨L-(i+1),by omega,rfl,bM,ι5,MX,g5,e5,G5,S5,h5⟩
     . intro x H' y
       obtain⟨e3,G3,r3⟩:=yl x H' y;refine⟨q,kK,g2,d0,σ3,g3,G3,S2.ext e3,r3,h3,λH6 ι6 σ6 e6 G6 S6=>?_⟩;refine⟨ι6,σ3,g3,r4,σ4,g4,G6,S6,h4,λH7 c e7 l=>?_⟩;have k:=e2.trans (e3.trans (e6.trans e7));cases r4 with
       |nx=>exact λu a=>⟨c,σ4,g4,k,l,a,hf⟩|ct=>exact λu a=>⟨c,σ4,g4,k,l,a,hf⟩|bk=>cases hf;exact λu a=>p H7 c (j.trans k) l u a|rt d=>cases hf;exact λv r7=>p H7 c (j.trans k) l v r7
   . cases hf
 . have e:i=L:=by omega
   subst e;rw[adY]at hf;simp only[jA]at hf;obtain⟨xs,hx,hf⟩:=bind_some hf;split at hf
   . rename_i s
     cases hf;obtain⟨st,_⟩:=j1 xs hx s;exact .inl ⟨st (aal _),p f q (j.trans e2) G2 o S2⟩
   . cases hf)
end
theorem yM {ds:List D}{t:FG}{b:FS}:∀(k:Nat) (σ:Sg) (g:G),k<=ds.length->jA (λ_=>some ds) ds.length t b k σ g=forL t b (ds.drop (ds.length-k)) σ g
 | 0,σ,g,_=>by simp[jA,forL]
 |k+1,σ,g,h=>by
  have a:ds.length-(k+1)<ds.length:=by omega
  rw[acd a,show ds.length-(k+1)+1=ds.length-k by omega];simp only[jA,forL,aaj,if_true,aag a,yM k _ _ (aeb h)]<;>rfl
theorem MY {a:FI}{t:FG}{b:FS}:dw a t b=Av (Cq a) t b:=by
 funext σ g;unfold dw Av Cq;cases a σ g with
 |none=>rfl
 |some r =>
  simp only[aaj,abn];rw[yM _ _ _ (aal _),adY,aeW]
theorem MZ {X:Cx}{tg:Expr}{a:Pos}{iter:Expr}{body:List Stmt}{c:FI}{t:FG}{b:FS}(e:aes (model X.prog X.w) X.A X.env X.xe)(h:X.calm=true)(d:DI X tg iter c)(f:DG X tg t)(j:kI X body b)
  (i:∀x,aa7 iter X.env x=pure x):DS X (.For tg iter body [] a) (dw c t b):=by
 rw[MY];exact Jv e h (nI d) f j i
noncomputable def bS (c:Int->Int->Bool)(f:Int->Int->Int)(b a:D)(g:G):Option (D×G):=match b,a with
 |.int i,.int j=>if c i j=true then some (.int (f i j),g)else none|_,_=>none
noncomputable def qM (f:Int->Int->Bool)(b a:D)(g:G):Option (D×G):=match b,a with
 |.int i,.int j=>some (.bl (f i j),g)|_,_=>none
noncomputable def eu (_ _:Int):Bool:=true
noncomputable def cI (i j:Int):Bool:=ad5 i.natAbs 18446744073709551615||ad5 j.natAbs 18446744073709551615
noncomputable def eX (_ j:Int):Bool:=ad5 1 j.toNat&&ad5 j.toNat 1073741823
noncomputable def cp (_ j:Int):Bool:=ad5 1 j.toNat
noncomputable def jB (i j:Int):Bool:=(match j with|.ofNat n=>ad5 n 1000000|.negSucc _=>false)&&ad5 i.natAbs 18446744073709551615
section
variable {X:Cx}
theorem lE {f:Value->Value->Sem Value}{C:Int->Int->Prop}{c:Int->Int->Bool}{r:Int->Int->Int}(h:bq X f (rI C λi j=>.int (r i j)))(A:∀i j,c i j=true->C i j):bq X f (dB X.kw (bS c r)):=by
 intro b0 s σ H x y v u Q I k l q;obtain⟨ι,g,n,e,d,o,G0,a,b,q,p⟩:=q;cases n with
 |int i =>
  cases e with
  |int j =>
   simp only[Rel]at a b;subst a;subst b;simp only[bS]at q;split at q
   . rename_i z
     cases q;exact h b0 s σ H _ _ v u Q I k l ⟨i,j,rfl,rfl,A i j z,p H ι _ Ext.refl G0 (by simp[Rel])⟩
   . cases q
  |_=>cases q
 |_=>cases q
theorem yN {g:Int->Int->V}{x y:V}{H:Hp}{Q:VK}(h:rI (λ_ _=>True) g x y H Q):pe g x y H Q:=let⟨i,j,a,b,_,q⟩:=h;⟨i,j,a,b,q⟩
theorem bq.imp {f:Value->Value->Sem Value}{r r':R2}(h:bq X f r)(i:∀x y H Q,r' x y H Q->r x y H Q):bq X f r':=λb0 s σ H x y v u Q I a b q=>h b0 s σ H x y v u Q I a b (i _ _ _ _ q)
theorem M0:bq X (abJ .Sub) (dB X.kw (bS eu (· - ·))):=lE (bq.imp LK λ_ _ _ _=>yN) λ_ _ _=>trivial
theorem Jw:bq X (abJ .Add) (dB X.kw (bS eu (· + ·))):=lE (bq.imp LJ λ_ _ _ _=>yN) λ_ _ _=>trivial
theorem Jx:bq X (abJ .Mult) (dB X.kw (bS cI (· * ·))):=lE LL λi j h=>by
 unfold cI at h;simp only[aa4]at h;rcases h with h|h
 . have:=abZ h
   exact .inl ⟨by omega,by omega⟩
 . have:=abZ h
   exact .inr ⟨by omega,by omega⟩
theorem Jy:bq X (abJ .FloorDiv) (dB X.kw (bS eX (· / ·))):=lE IM λi j h=>by unfold eX at h;simp only[aae]at h;have a:=abZ h.1;have b:=abZ h.2;exact⟨by omega,by omega⟩
theorem M1:bq X (abJ .Mod) (dB X.kw (bS cp (· % ·))):=lE LM λi j h=>by have a:=abZ (show ad5 1 j.toNat=true from h);show 0<j;omega
theorem M3:bq X (abJ .Pow) (dB X.kw (bS jB (λi j=>i ^ j.toNat))):=lE LN λi j h=>by
 unfold jB at h;simp only[aae]at h;have b:=abZ h.2;cases j with
 |ofNat n =>
  have a:=abZ (show ad5 n 1000000=true from h.1);exact⟨agZ n,(by show((n:Nat):Int)<=1000000;omega),(by omega)⟩
 |negSucc n=>exact absurd h.1 (by simp)
theorem uP {f:Value->Value->Sem Value}{o:Int->Int->Bool}(h:bq X f (pe λi j=>.bl (o i j))):bq X f (dB X.kw (qM o)):=by
 intro b0 s σ H x y v u Q I e k q;obtain⟨ι,g,l,c,d,n,G0,a,b,q,p⟩:=q;cases l with
 |int i =>
  cases c with
  |int j =>
   simp only[Rel]at a b;subst a;subst b;cases q;exact h b0 s σ H _ _ v u Q I e k ⟨i,j,rfl,rfl,p H ι _ Ext.refl G0 (by simp[Rel])⟩
  |_=>cases q
 |_=>cases q
theorem QP:bq X (abm .Lt) (dB X.kw (qM λi j=>decide (i<j))):=uP Qu
theorem QQ:bq X (abm .LtE) (dB X.kw (qM λi j=>decide (i<=j))):=uP Qv
theorem QR:bq X (abm .Gt) (dB X.kw (qM λi j=>decide (j<i))):=uP Qw
theorem QS:bq X (abm .GtE) (dB X.kw (qM λi j=>decide (j<=i))):=uP Qx
noncomputable def mj (d:D)(g:G):Option (D×G):=match d with|.int i=>some (.int (-i),g)|_=>none
theorem M4:BG X (unaryOp .USub) (Mz X.kw mj):=by
 intro b0 s σ H x v Q I b q;obtain⟨ι,g,c,d,e,G0,a,q,p⟩:=q;cases c with
 |int i =>
  simp only[Rel]at a;subst a;cases q;exact LO b0 s σ H _ v Q I b ⟨i,rfl,p H ι _ Ext.refl G0 (by simp[Rel])⟩
 |_=>cases q
mutual
noncomputable def flat:D->Bool
 |.ref _=>false|.dn=>false|.aC _=>false|.fn _ _=>false|.tup xs=>aQ xs|.lst xs=>aQ xs|_=>true
noncomputable def aQ:List D->Bool
 | []=>true|d::ds=>flat d&&aQ ds
end
mutual
noncomputable def aF:D->D->Bool
 |.ax,.ax=>true|.bl a,.bl b=>a == b|.bl a,.int b=>(if a then 1 else 0)== b|.int a,.bl b=>a == (if b then 1 else 0)|.int a,.int b=>a == b|.str a,.str b=>a == b|.tup xs,.tup ys=>fO xs ys|.lst xs,.lst ys=>fO xs ys|_,_=>false
noncomputable def fO:List D->List D->Bool
 | [],[]=>true|x::xs,y::ys=>aF x y&&fO xs ys|_,_=>false
end
mutual
noncomputable def dep:D->Nat
 |.tup xs=>bp xs+1|.lst xs=>bp xs+1|_=>0
noncomputable def bp:List D->Nat
 | []=>0|d::ds=>max (dep d) (bp ds)
end
mutual
theorem j5:∀d:D,flat d=true->aF d d=true
 |.ax,_=>by simp[aF]|.bl _,_=>by simp[aF]|.int _,_=>by simp[aF]|.str _,_=>by simp[aF]|.tup xs,h=>by simp only[aF];exact nJ xs h|.lst xs,h=>by simp only[aF];exact nJ xs h
theorem nJ:∀ds:List D,aQ ds=true->fO ds ds=true
 | [],_=>by simp[fO]|d::ds,h=>by simp only[aQ,aae]at h;simp only[fO,aae];exact⟨j5 d h.1,nJ ds h.2⟩
end
theorem j6:∀xs ys:List D,fO xs ys=((aba (min xs.length ys.length)).all (λj=>aF (xs[j]?.getD .ax) (ys[j]?.getD .ax))&&xs.length == ys.length)
 | [],[]=>by simp[fO]| [],y::ys=>by simp[fO]|x::xs,[]=>by simp[fO]|x::xs,y::ys=>by simp only[fO,j6 xs ys,abT,Nat.succ_min_succ,List.range_succ_eq_map,adK,ad9,ahC,List.all_map,ado,afS];rw[Bool.and_assoc];congr 2;simp
theorem oE {b0:List (Addr×Obj)}{σ:L2.St}{H:Hp}{s:aac}{a:Addr}{xs ys:List V}(I:Inv X b0 σ H s)(h:eS X.kw H a xs)(h':cS X.kw H a ys):False:=by obtain⟨e,_,c,_⟩:=I.tuple h;obtain⟨b,_,d,_⟩:=I.list h';exact SeqAt.ne_of_list_tuple d.isList c rfl
mutual
theorem Rel.inj {b0:List (Addr×Obj)}{σ:L2.St}{H:Hp}{s:aac}{ι:Ix}(I:Inv X b0 σ H s):∀(d1 d2:D) {v:V},flat d1=true->flat d2=true->Rel X.kw H ι d1 v->Rel X.kw H ι d2 v->d1=d2
 |.ax,d2,v,_,f2,r1,r2=>by simp only[Rel]at r1;subst r1;cases d2<;>simp_all[Rel,flat]|.bl _,d2,v,_,f2,r1,r2=>by simp only[Rel]at r1;subst r1;cases d2<;>simp_all[Rel,flat]|.int _,d2,v,_,f2,r1,r2=>by simp only[Rel]at r1;subst r1;cases d2<;>simp_all[Rel,flat]|.str _,d2,v,_,f2,r1,r2=>by simp only[Rel]at r1;subst r1;cases d2<;>simp_all[Rel,flat]
 |.tup xs,d2,v,f1,f2,r1,r2=>by
  simp only[Rel]at r1;obtain⟨a,i,rfl,d,h⟩:=r1;cases d2 with
  |tup ys =>
   simp only[Rel]at r2;obtain⟨f,ws,e,b,c⟩:=r2;cases e;have:=I.nt d.sq b.sq;subst this;rw[ag.inj I xs ys f1 f2 h c]
  |lst ys =>
   simp only[Rel]at r2;obtain⟨f,ws,e,b,c⟩:=r2;cases e;exact(oE I d.sq b.sq).elim
  |dn=>cases f2|ref n=>cases f2|aC n=>cases f2|fn x=>cases f2|_=>simp[Rel]at r2
 |.lst xs,d2,v,f1,f2,r1,r2=>by
  simp only[Rel]at r1;obtain⟨a,i,rfl,d,h⟩:=r1;cases d2 with
  |lst ys =>
   simp only[Rel]at r2;obtain⟨f,ws,e,b,c⟩:=r2;cases e;have:=I.lZ d.sq b.sq;subst this;rw[ag.inj I xs ys f1 f2 h c]
  |tup ys =>
   simp only[Rel]at r2;obtain⟨f,ws,e,b,c⟩:=r2;cases e;exact(oE I b.sq d.sq).elim
  |dn=>cases f2|ref n=>cases f2|aC n=>cases f2|fn x=>cases f2|_=>simp[Rel]at r2
 |.dn,d2,v,f1,_,_,_=>by cases f1|.ref _,d2,v,f1,_,_,_=>by cases f1|.aC _,d2,v,f1,_,_,_=>by cases f1|.fn _ _,d2,v,f1,_,_,_=>by cases f1
theorem ag.inj {b0:List (Addr×Obj)}{σ:L2.St}{H:Hp}{s:aac}{ι:Ix}(I:Inv X b0 σ H s):∀(ds es:List D) {vs:List V},aQ ds=true->aQ es=true->ag X.kw H ι ds vs->ag X.kw H ι es vs->ds=es
 | [],es,vs,_,_,r1,r2=>by
  simp only[ag]at r1;subst r1;cases es with
  |nil=>rfl|cons e es=>simp[ag]at r2
 |d::ds,es,vs,f1,f2,r1,r2=>by
  simp only[ag]at r1;obtain⟨v,j,rfl,a,i⟩:=r1;cases es with
  |nil=>simp[ag]at r2
  |cons e es =>
   simp only[ag]at r2;obtain⟨k,f,c,b,h⟩:=r2;cases c;simp only[aQ,aae]at f1 f2;rw[Rel.inj I d e f1.1 f2.1 a b,ag.inj I ds es f1.2 f2.2 i h]
end
theorem Rel.yO {K H ι d v b t}(r:Rel K H ι d v)(f:RelV v (.float b t)):False:=by
 cases d with
 |ax=>simp only[Rel]at r;subst r;cases f|bl _=>simp only[Rel]at r;subst r;cases f|int _=>simp only[Rel]at r;subst r;obtain⟨t,e⟩:=f;cases e
 |str _=>simp only[Rel]at r;subst r;obtain⟨t,e⟩:=f;cases e
 |tup _=>simp only[Rel]at r;obtain⟨a,c,rfl,_⟩:=r;cases f
 |lst _=>simp only[Rel]at r;obtain⟨a,c,rfl,_⟩:=r;cases f
 |dn=>simp only[Rel]at r;obtain⟨a,rfl,_⟩:=r;cases f
 |ref _=>simp only[Rel]at r;obtain⟨a,rfl,_⟩:=r;cases f
 |aC _=>simp only[Rel]at r;obtain⟨a,rfl,_⟩:=r;cases f
 |fn _=>simp only[Rel]at r;obtain⟨a,_,rfl,_⟩:=r;cases f
theorem in1_units (A:aaL):A.in1.units=A.units+1:=rfl
section
open SeqAt
variable {b0:List (Addr×Obj)}{σ:L2.St}{H:Hp}{s:aac}{ι:Ix}
theorem qN {A:aaL}{s:aac}{u v:Value}{k:Bool}(h:RcAt A s u v k)(d:u=v->k=true)(e:∀b t,u ≠ .float b t):EqAt A s u v k:=λprog w E Q a=>by
 unfold eqBool;refine aaW ?_;refine abo (λc=>?_) (λ_=>?_)
 . rw[d (eq_of_beq c)]at a
   exact aaa (ab8 (aad a))
 . cases u with
   |float b t=>exact absurd rfl (e b t)|_=>exact aaa (h prog w E _ (acG a))
set_option maxHeartbeats 4000000 in
mutual
theorem vX (I:Inv X b0 σ H s):∀(d1 d2:D) {A:aaL} {x y:V} {u v:Value},flat d1=true->flat d2=true->Rel X.kw H ι d1 x->Rel X.kw H ι d2 y->RelV x u->RelV y v->A.units+dep d1<cLine->RcAt A s u v (aF d1 d2)
 |.ax,d2,A,x,y,u,v,_,f2,r1,r2,ru,rv,hu=>by
  simp only[Rel]at r1;subst r1;cases ru;cases d2 with
  |ax=>simp only[Rel]at r2;subst r2;cases rv;exact .none_none|bl b=>simp only[Rel]at r2;subst r2;cases rv;exact .none_bool b|int b=>simp only[Rel]at r2;subst r2;obtain⟨t,rfl⟩:=rv;exact .none_int b t
  |str b=>simp only[Rel]at r2;subst r2;obtain⟨t,rfl⟩:=rv;exact .none_str b t
  |tup ys=>simp only[Rel]at r2;obtain⟨i,ws,rfl,e,h⟩:=r2;cases rv;obtain⟨f,_,c,_⟩:=I.tuple e.sq;exact .none_tuple c (by omega)
  |lst ys=>simp only[Rel]at r2;obtain⟨i,ws,rfl,e,h⟩:=r2;cases rv;obtain⟨f,_,c,_⟩:=I.list e.sq;exact .none_list c.isList (by omega)
  |_=>cases f2
 |.bl a,d2,A,x,y,u,v,_,f2,r1,r2,ru,rv,hu=>by
  simp only[Rel]at r1;subst r1;cases ru;cases d2 with
  |ax=>simp only[Rel]at r2;subst r2;cases rv;exact .bool_none a|bl b=>simp only[Rel]at r2;subst r2;cases rv;exact .bool_bool a b|int b=>simp only[Rel]at r2;subst r2;obtain⟨t,rfl⟩:=rv;exact .bool_int a b t
  |str b=>simp only[Rel]at r2;subst r2;obtain⟨t,rfl⟩:=rv;exact .bool_str a b t
  |tup ys=>simp only[Rel]at r2;obtain⟨i,ws,rfl,e,h⟩:=r2;cases rv;obtain⟨f,_,c,_⟩:=I.tuple e.sq;exact .bool_tuple a c (by omega)
  |lst ys=>simp only[Rel]at r2;obtain⟨i,ws,rfl,e,h⟩:=r2;cases rv;obtain⟨f,_,c,_⟩:=I.list e.sq;exact .bool_list a c.isList (by omega)
  |_=>cases f2
 |.int a,d2,A,x,y,u,v,_,f2,r1,r2,ru,rv,hu=>by
  simp only[Rel]at r1;subst r1;obtain⟨t0,rfl⟩:=ru;cases d2 with
  |ax=>simp only[Rel]at r2;subst r2;cases rv;exact .int_none a t0|bl b=>simp only[Rel]at r2;subst r2;cases rv;exact .int_bool a t0 b|int b=>simp only[Rel]at r2;subst r2;obtain⟨t,rfl⟩:=rv;exact .int_int a t0 b t
  |str b=>simp only[Rel]at r2;subst r2;obtain⟨t,rfl⟩:=rv;exact .int_str a t0 b t
  |tup ys=>simp only[Rel]at r2;obtain⟨i,ws,rfl,e,h⟩:=r2;cases rv;obtain⟨f,_,c,_⟩:=I.tuple e.sq;exact .int_tuple a t0 c (by omega)
  |lst ys=>simp only[Rel]at r2;obtain⟨i,ws,rfl,e,h⟩:=r2;cases rv;obtain⟨f,_,c,_⟩:=I.list e.sq;exact .int_list a t0 c.isList (by omega)
  |_=>cases f2
 |.str a,d2,A,x,y,u,v,_,f2,r1,r2,ru,rv,hu=>by
  simp only[Rel]at r1;subst r1;obtain⟨t0,rfl⟩:=ru;cases d2 with
  |ax=>simp only[Rel]at r2;subst r2;cases rv;exact .str_none a t0|bl b=>simp only[Rel]at r2;subst r2;cases rv;exact .str_bool a t0 b|int b=>simp only[Rel]at r2;subst r2;obtain⟨t,rfl⟩:=rv;exact .str_int a t0 b t
  |str b=>simp only[Rel]at r2;subst r2;obtain⟨t,rfl⟩:=rv;exact .str_str a t0 b t
  |tup ys=>simp only[Rel]at r2;obtain⟨i,ws,rfl,e,h⟩:=r2;cases rv;obtain⟨f,_,c,_⟩:=I.tuple e.sq;exact .str_tuple a t0 c (by omega)
  |lst ys=>simp only[Rel]at r2;obtain⟨i,ws,rfl,e,h⟩:=r2;cases rv;obtain⟨f,_,c,_⟩:=I.list e.sq;exact .str_list a t0 c.isList (by omega)
  |_=>cases f2
 |.tup xs,d2,A,x,y,u,v,f1,f2,r1,r2,ru,rv,hu=>by
  simp only[Rel]at r1;obtain⟨a,vs,rfl,e,h⟩:=r1;cases ru;obtain⟨f,p,c,_⟩:=I.tuple e.sq;simp only[dep]at hu;cases d2 with
  |ax=>simp only[Rel]at r2;subst r2;cases rv;exact .tuple_none c (by omega)|bl b=>simp only[Rel]at r2;subst r2;cases rv;exact .tuple_bool b c (by omega)|int b=>simp only[Rel]at r2;subst r2;obtain⟨t,rfl⟩:=rv;exact .tuple_int b t c (by omega)
  |str b=>simp only[Rel]at r2;subst r2;obtain⟨t,rfl⟩:=rv;exact .tuple_str b t c (by omega)
  |tup ys =>
   simp only[Rel]at r2;obtain⟨i,ws,rfl,n,l⟩:=r2;cases rv;obtain⟨d,o,k,_⟩:=I.tuple n.sq;simp only[aF,j6];have z:xs.length=f.toArray.size:=by rw[aar,<- p.length];exact h.length
   have r:ys.length=d.toArray.size:=by rw[aar,<- o.length];exact l.length
   rw[z,r];refine .tuples c k (by omega) λj q h2=>?_;have:=lF I xs ys (A:=A.in1) f1 f2 h l p o (by rw[in1_units];omega) j (by simpa using q) (by simpa using h2);simpa using this
  |lst ys =>
   simp only[Rel]at r2;obtain⟨i,ws,rfl,n,l⟩:=r2;cases rv;obtain⟨d,o,k,_⟩:=I.list n.sq;exact .tuple_list c k.isList (by omega)
  |_=>cases f2
 |.lst xs,d2,A,x,y,u,v,f1,f2,r1,r2,ru,rv,hu=>by
  simp only[Rel]at r1;obtain⟨a,vs,rfl,e,h⟩:=r1;cases ru;obtain⟨f,p,c,_⟩:=I.list e.sq;simp only[dep]at hu;cases d2 with
  |ax=>simp only[Rel]at r2;subst r2;cases rv;exact .list_none c.isList (by omega)|bl b=>simp only[Rel]at r2;subst r2;cases rv;exact .list_bool b c.isList (by omega)|int b=>simp only[Rel]at r2;subst r2;obtain⟨t,rfl⟩:=rv;exact .list_int b t c.isList (by omega)
  |str b=>simp only[Rel]at r2;subst r2;obtain⟨t,rfl⟩:=rv;exact .list_str b t c.isList (by omega)
  |lst ys =>
   simp only[Rel]at r2;obtain⟨i,ws,rfl,n,l⟩:=r2;cases rv;obtain⟨d,o,k,_⟩:=I.list n.sq;simp only[aF,j6];have z:xs.length=f.toArray.size:=by rw[aar,<- p.length];exact h.length
   have r:ys.length=d.toArray.size:=by rw[aar,<- o.length];exact l.length
   rw[z,r];by_cases hs:f.toArray.size=d.toArray.size
   . have e0:(f.toArray.size == d.toArray.size)=true:=by simpa using hs
     rw[e0,Bool.and_true,<- hs,Nat.min_self];refine .lists c.isList k.isList hs (by omega) λj q h2=>?_;have:=lF I xs ys (A:=A.in1) f1 f2 h l p o (by rw[in1_units];omega) j (by simpa using q) (by simpa using h2);simpa using this
   . have e0:(f.toArray.size == d.toArray.size)=false:=by simpa using hs
     rw[e0,agk];exact .lists_lengths c.isList k.isList (by simpa using hs) (by omega)
  |tup ys =>
   simp only[Rel]at r2;obtain⟨i,ws,rfl,n,l⟩:=r2;cases rv;obtain⟨d,o,k,_⟩:=I.tuple n.sq;exact .list_tuple c.isList k (by omega)
  |_=>cases f2
 |.dn,d2,A,x,y,u,v,f1,_,_,_,_,_,_=>by cases f1|.ref _,d2,A,x,y,u,v,f1,_,_,_,_,_,_=>by cases f1|.aC _,d2,A,x,y,u,v,f1,_,_,_,_,_,_=>by cases f1|.fn _ _,d2,A,x,y,u,v,f1,_,_,_,_,_,_=>by cases f1
theorem lF (I:Inv X b0 σ H s):∀(xs ys:List D) {A:aaL} {vs ws:List V} {us zs:List Value},aQ xs=true->aQ ys=true->ag X.kw H ι xs vs->ag X.kw H ι ys ws->Vals vs us->Vals ws zs->A.units+bp xs<cLine ->
  ∀(j:Nat) (h1:j<us.length) (h2:j<zs.length),EqAt A s us[j] zs[j] (aF (xs[j]?.getD .ax) (ys[j]?.getD .ax))
 | [],ys,A,vs,ws,us,zs,_,_,r1,_,ru,_,_,j,h1,_=>by simp only[ag]at r1;subst r1;cases ru;simp at h1
 |d::ds,ys,A,vs,ws,us,zs,f1,f2,r1,r2,ru,rz,hu,j,h1,h2=>by
  simp only[ag]at r1;obtain⟨v,n,rfl,a,l⟩:=r1;simp only[bp]at hu;simp only[aQ,aae]at f1;cases ru with
  |cons Hq Y2 =>
   cases ys with
   |nil=>simp only[ag]at r2;subst r2;cases rz;simp at h2
   |cons e es =>
    simp only[ag]at r2;obtain⟨w,wr,rfl,hw,k⟩:=r2;simp only[aQ,aae]at f2;cases rz with
    |cons SN Y4 =>
     cases j with
     |zero =>
      have rc:=vX I d e (A:=A) f1.1 f2.1 a hw Hq SN (by omega);simp only[List.getElem_cons_zero,ad9,ahC];refine qN rc (λc=>?_) (λb t h=>Rel.yO a (by rw[h]at Hq;exact Hq));subst c;have f:=Hq.inj SN;subst f;have i:=Rel.inj I d e f1.1 f2.1 a hw;subst i;exact j5 d f1.1
     |succ j =>
      have:=lF I ds es (A:=A) f1.2 f2.2 l k Y2 Y4 (by omega) j (by simpa using h1) (by simpa using h2);simpa using this
end
end
def oEq (a b:D)(g:G):Option (D×G):=if(flat a&&flat b&&decide (dep a<=60))=true then some (.bl (aF a b),g)else none
theorem QT (hu:X.A.units+64<cLine):bq X (abm .Eq) (dB X.kw oEq):=by
 intro b0 s σ H x y v u Q I c f q;obtain⟨ι,g,h,a,d,i,G0,b,e,q,p⟩:=q;unfold oEq at q;split at q
 . rename_i z
   simp only[aae,decide_eq_true_eq]at z;cases q;exact vX I h a z.1.1 z.1.2 b e c f (by omega) _ _ _ _ ⟨.bl _,H,I,rfl,p H ι _ Ext.refl G0 (by simp[Rel])⟩
 . cases q
noncomputable def jC:D->Bool
 |.ax=>true|_=>false
def Fl (b a:D)(g:G):Option (D×G):=match a with|.ax=>some (.bl (jC b),g)|_=>none
def Aw (b a:D)(g:G):Option (D×G):=match a with|.ax=>some (.bl (!jC b),g)|_=>none
theorem yP {K H ι d v}(r:Rel K H ι d v):decide (v=V.ax)=jC d:=by
 cases d with
 |ax=>simp only[Rel]at r;subst r;rfl|bl _=>simp only[Rel]at r;subst r;rfl|int _=>simp only[Rel]at r;subst r;rfl|str _=>simp only[Rel]at r;subst r;rfl|tup _=>simp only[Rel]at r;obtain⟨a,b,rfl,_⟩:=r;rfl
 |lst _=>simp only[Rel]at r;obtain⟨a,b,rfl,_⟩:=r;rfl
 |dn=>simp only[Rel]at r;obtain⟨a,rfl,_⟩:=r;rfl
 |ref _=>simp only[Rel]at r;obtain⟨a,rfl,_⟩:=r;rfl
 |aC _=>simp only[Rel]at r;obtain⟨a,rfl,_⟩:=r;rfl
 |fn _=>simp only[Rel]at r;obtain⟨a,_,rfl,_⟩:=r;rfl
theorem M8:bq X (abm .Is) (dB X.kw Fl):=by
 intro b0 s σ H x y v u Q I e f q;obtain⟨ι,g,i,b,d,h,G0,c,a,q,p⟩:=q;cases b with
 |ax =>
  simp only[Rel]at a;subst a;simp only[Fl]at q;cases q;exact LP b0 s σ H _ _ v u Q I e f ⟨rfl,by rw[yP c];exact p H ι _ Ext.refl G0 (by simp[Rel])⟩
 |_=>cases q
theorem Jz:bq X (abm .IsNot) (dB X.kw Aw):=by
 intro b0 s σ H x y v u Q I e f q;obtain⟨ι,g,i,b,d,h,G0,c,a,q,p⟩:=q;cases b with
 |ax =>
  simp only[Rel]at a;subst a;simp only[Aw]at q;cases q;refine IP b0 s σ H _ _ v u Q I e f ⟨rfl,?_⟩;rw[yP c];exact p H ι _ Ext.refl G0 (by simp[Rel])
 |_=>cases q
noncomputable def aT (d:D)(g:G):Option (List D):=match d with
 |.tup xs=>some xs|.lst xs=>some xs|.ref n=>g[n]?|_=>none
theorem kN {K H ι g d v xs}(G0:aw K H ι g)(r:Rel K H ι d v)(h:aT d g=some xs):∃a vs,v = .ref a/\(cS K H a vs\/eS K H a vs)/\ag K H ι xs vs:=by
 cases d with
 |tup ys=>cases h;simp only[Rel]at r;obtain⟨a,vs,rfl,b,c⟩:=r;exact⟨a,vs,rfl,.inr b.sq,c⟩
 |lst ys=>cases h;simp only[Rel]at r;obtain⟨a,vs,rfl,b,c⟩:=r;exact⟨a,vs,rfl,.inl b.sq,c⟩
 |ref n =>
  simp only[Rel]at r;obtain⟨a,rfl,e⟩:=r;obtain⟨vs,f,i⟩:=G0.at h e;exact⟨a,vs,rfl,.inl (.of f),i⟩
 |_=>cases h
def cz (b a:D)(g:G):Option (D×G):=match a with
 |.int i=>(aT b g).bind λxs=>(bJ xs i).map λd=>(d,g)|_=>none
theorem JA {K H ι}{xs:List D}{vs:List V}{i:Int}{d:D}(r:ag K H ι xs vs)(h:bJ xs i=some d):∃v,bJ vs i=some v/\Rel K H ι d v:=by unfold bJ at h ⊢;rw[<- r.length];obtain⟨j,b,e⟩:=bind_some h;obtain⟨v,a,c⟩:=r.get e;exact⟨v,by rw[b];exact a,c⟩
theorem JB:mT X (dB X.kw cz):=by
 intro value slice b0 s σ H x y v u Q I f l q k;obtain⟨ι,g,d1,n,d,g',G0,o,h,q,p⟩:=q;cases n with
 |int i =>
  simp only[Rel]at h;subst h;simp only[cz]at q;obtain⟨xs,r,q⟩:=bind_some q;cases h2:bJ xs i with
  |none=>rw[h2]at q;cases q
  |some e =>
   rw[h2]at q;cases q;obtain⟨a,j,rfl,b,hr⟩:=kN G0 o r;obtain⟨w,c,z⟩:=JA hr h2;have fin:=p H ι w Ext.refl G0 z;rcases b with b|b
   . exact BQ value slice b0 s σ H _ _ v u Q I f l (.inl ⟨a,j,i,w,rfl,rfl,b,c,fin⟩) k
   . exact BQ value slice b0 s σ H _ _ v u Q I f l (.inr (.inl ⟨a,j,i,w,rfl,rfl,b,c,fin⟩)) k
 |_=>cases q
def cK (ds:List D)(g:G):Option (D×G):=match ds with| [d]=>(aT d g).map λxs=>(.int xs.length,g)|_=>none
theorem M9:dk X (.builtin "len") (kH X.kw cK):=by
 intro b0 s σ H xs us Q I r q;obtain⟨ι,g,ds,d,j,G0,b,q,p⟩:=q;cases ds with
 |nil=>cases q|cons e Ct =>
 cases Ct with
 |cons _ _=>cases q
 |nil =>
  simp only[cK]at q;cases hx:aT e g with
  |none=>rw[hx]at q;cases q
  |some ys =>
   rw[hx]at q;cases q;simp only[ag]at b;obtain⟨v,_,rfl,h,rfl⟩:=b;obtain⟨a,c,rfl,f,i⟩:=kN G0 h hx;exact vy b0 s σ H _ us Q I r ⟨a,c,rfl,f,by rw[<- i.length];exact p H ι _ Ext.refl G0 (by simp[Rel])⟩
noncomputable def k9 (ds:List D)(g:G):Option (D×G):=match ds with| [.int i,.int j]=>some (.int (if j<i then j else i),g)|_=>none
theorem M_ (c:X.calm=true):dk X (.builtin "min") (kH X.kw k9):=by
 intro b0 s σ H xs us Q I r q;obtain⟨ι,g,ds,d,b,G0,a,q,p⟩:=q;unfold k9 at q;split at q
 . cases q
   simp only[ag,Rel]at a;obtain⟨_,_,rfl,rfl,_,_,rfl,rfl,rfl⟩:=a;exact BK c b0 s σ H _ us Q I r ⟨_,_,rfl,p H ι _ Ext.refl G0 (by simp[Rel])⟩
 . cases q
noncomputable def jk (ds:List D)(g:G):Option (D×G):=match ds with| [.int i]=>some (.int i,g)| [.bl k]=>some (.int (if k then 1 else 0),g)|_=>none
theorem Na:dk X (.type "int") (kH X.kw jk):=by
 intro b0 s σ H xs us Q I r q;obtain⟨ι,g,ds,d,b,G0,a,q,p⟩:=q;unfold jk at q;split at q
 . cases q
   simp only[ag,Rel]at a;obtain⟨_,_,rfl,rfl,rfl⟩:=a;exact tm b0 s σ H _ us Q I r (.inl ⟨_,rfl,p H ι _ Ext.refl G0 (by simp[Rel])⟩)
 . cases q
   simp only[ag,Rel]at a;obtain⟨_,_,rfl,rfl,rfl⟩:=a;exact tm b0 s σ H _ us Q I r (.inr ⟨_,rfl,p H ι _ Ext.refl G0 (by simp[Rel])⟩)
 . cases q
def jq (ds:List D)(g:G):Option (D×G):=match ds with| [d]=>(aT d g).bind λxs=>if az xs.length=true then some (.tup xs,g)else none|_=>none
theorem Nb:dk X (.type "tuple") (kH X.kw jq):=by
 intro b0 s σ H xs us Q I r q;obtain⟨ι,g,ds,d,g',G0,k,q,p⟩:=q;cases ds with
 |nil=>cases q|cons e Ct =>
 cases Ct with
 |cons _ _=>cases q
 |nil =>
  simp only[jq]at q;obtain⟨ys,h,q⟩:=bind_some q;split at q
  . rename_i z
    cases q;simp only[ag]at k;obtain⟨v,_,rfl,c,rfl⟩:=k;cases e with
    |tup zs =>
     cases h;simp only[Rel]at c;obtain⟨a,vs,rfl,b,j⟩:=c;exact mU b0 s σ H _ us Q I r ⟨a,vs,rfl,.inr ⟨b.sq,p H ι _ Ext.refl G0 (by simp only[Rel];exact⟨a,vs,rfl,b,j⟩)⟩⟩
    |_ =>
     obtain⟨a,vs,rfl,b,j⟩:=kN G0 c h;have y:cS X.kw H a vs:=by
      rcases b with b|b
      . exact b
      . exfalso
        first
         | (cases h;done)
         | (simp only[Rel]at c;obtain⟨u,Hs,i,x,_⟩:=c;cases i;exact oE I b x.sq)
         | (simp only[Rel]at c;obtain⟨u,i,n⟩:=c;cases i;obtain⟨ws,o,h2⟩:=G0.at h n;exact oE I b (.of o))
     refine mU b0 s σ H _ us Q I r ⟨a,vs,rfl,.inl ⟨y,λl f=>p _ _ _ (Ext.lay f) (G0.lay f) ?_⟩⟩;simp only[Rel];exact⟨l,vs,rfl,.inl ⟨.inl aR,G0.fresh f⟩,ag.ext (Ext.lay f) _ j⟩
  . cases q
end
section
variable {X:Cx}
inductive Ty|tuple
noncomputable def Ty.name:Ty->String
 |.tuple=>"tuple"
noncomputable def kO:Ty->D->Bool
 |.tuple,.tup _=>true|_,_=>false
noncomputable def isFn:D->Bool
 |.fn _ _=>true|_=>false
def Ax (T:Ty)(f:FE):FE:=λσ g=>(f σ g).bind λr=>if isFn r.1=true then none else some (.bl (kO T r.1),r.2)
theorem isi_call {b0:List (Addr×Obj)}{s:aac}{σ:L2.St}{H:Hp}{ι:Ix}{g:G}{d:D}{x:V}{u:Value}{Q:Value->aac->Prop}(T:Ty)(I:Inv X b0 σ H s)(G0:aw X.kw H ι g)(r:Rel X.kw H ι d x)(C:isFn d=false)(B:RelV x u)(h:∀tk,Q (.bool (kO T d)) { s with toks:=tk }):
  wpAny (model X.prog X.w) X.A (call (.builtin "isinstance") [u,.type T.name]) Q X.xe s:=by
 cases d with
 |ax=>simp only[Rel]at r;subst r;cases B;exact acp PySem.W.kitx_none I.gq afv (b:=kO T .ax) (by cases T<;>rfl) (λz=>nomatch z) h|bl b=>simp only[Rel]at r;subst r;cases B;exact acp PySem.W.kitx_bool I.gq afv (b:=kO T (.bl b)) (by cases T<;>rfl) (λz=>nomatch z) h|int b=>simp only[Rel]at r;subst r;obtain⟨t,rfl⟩:=B;exact acp PySem.W.kitx_int I.gq afv (b:=kO T (.int b)) (by cases T<;>rfl) (λz=>nomatch z) h
 |str b=>simp only[Rel]at r;subst r;obtain⟨t,rfl⟩:=B;exact acp PySem.W.kitx_str I.gq afv (b:=kO T (.str b)) (by cases T<;>rfl) (λz=>nomatch z) h
 |tup xs =>
  simp only[Rel]at r;obtain⟨a,j,rfl,l,hr⟩:=r;cases B;obtain⟨v,_,⟨o,e,f,_⟩,_⟩:=I.tuple l.sq;exact acp PySem.W.kitx_tuple I.gq ⟨o,e,f⟩ (b:=kO T (.tup xs)) (by cases T<;>rfl) (λz=>nomatch z) h
 |lst xs =>
  simp only[Rel]at r;obtain⟨a,j,rfl,l,hr⟩:=r;cases B;obtain⟨v,_,⟨o,n,e,f,_⟩,_⟩:=I.list l.sq;exact acp ahf I.gq ⟨o,e,f⟩ (b:=kO T (.lst xs)) (by cases T<;>rfl) (λz=>nomatch z) h
 |ref n =>
  simp only[Rel]at r;obtain⟨a,rfl,i⟩:=r;cases B;have k:n<g.length:=by rw[<- G0.len];exact(aab.mp i.1).1
  obtain⟨j,e,f⟩:=G0.at (aag k) i;obtain⟨v,_,⟨o,n,e,f,_⟩,_⟩:=I.list (cS.of e);exact acp ahf I.gq ⟨o,e,f⟩ (b:=true&&kO T (.lst [])) (by cases T<;>rfl) (λz=>nomatch z) (by cases T<;>exact h)
 |dn =>
  simp only[Rel]at r;obtain⟨a,rfl,i,_⟩:=r;cases B;obtain⟨_,_,j,_,p⟩:=(show dj X.prog X.w H s.heap a (.dK []) from I.aU a _ i)
  obtain⟨o,q,ep,e,f,_⟩:=p;exact acp ahg I.gq ⟨o,e,f.1⟩ (b:=kO T .dn) (by cases T<;>rfl) (λz=>nomatch z) h
 |aC n =>
  simp only[Rel]at r;obtain⟨a,rfl,i⟩:=r;cases B;have k:n<g.length:=by rw[<- G0.len];exact(aab.mp i.1).1
  obtain⟨q,j,c,e,_⟩:=G0.tR (aag k) i;have f:=((show dj X.prog X.w H s.heap a (dO a q c) from I.aU a _ e)).1;exact acp ahg I.gq ⟨_,f,rfl⟩ (b:=kO T (.aC n)) (by cases T<;>rfl) (λz=>nomatch z) h
 |fn y=>cases C
theorem Nc {a:Expr}{E:FE}{p A B:Pos}(T:Ty)(N:X.mg "isinstance" = none)(J:X.mg (aaD T.name)=none)(K:DE X a E)(L:Gl X "isinstance")(M:Gl X (aaD T.name))
   (C:aay [a,.Name (aaD T.name) A] X.env=(false,eval a X.env)::aay [.Name (aaD T.name) A] X.env):DE X (.Call (.Name "isinstance" p) [a,.Name (aaD T.name) A] [] B) (Ax T E):=.of (by
 have y:acr (aaD T.name)=some (.type T.name):=by
   cases T;exact ahr
 have k:dk X (.builtin "isinstance") (λxs H Q=>∃x ι g d,xs = [x,.ty T.name]/\aw X.kw H ι g/\Rel X.kw H ι d x/\isFn d=false/\Q (.bl (kO T d)) H):=by intro b0 s σ H xs us Q I r q;obtain⟨x,ι,g,d,rfl,G0,z,nf,q⟩:=q;obtain⟨u,w',rfl,l,n⟩:=vals2 r;cases n;exact isi_call T I G0 z nf l λtk=>⟨.bl _,H,I.tok _,rfl,q⟩
 refine PE.imp (vp k L N PyProof.Rows.boot_isinstance (fV K.un (fV (IE (v:=.ty T.name) M J y rfl (by cases T<;>decide) (by cases T<;>decide)) jS (by rfl)) C) (by decide) (by decide) C rfl) λσ H Q h=>?_;obtain⟨ι,σd,g,d,j,G0,S0,h,p⟩:=h;obtain⟨⟨o,g1⟩,i,h⟩:=bind_some h;dsimp only at h;split at h
 . cases h
 rename_i nf;cases h;exact tD.bind G0 S0 i λH1 b v e c S1 f=>⟨v,b,j,o,rfl,c,f,by simpa using nf,p H1 b _ e c (by simp[Rel])⟩)
end
end L3
namespace L3
open PyProof.Rows L2
open Sem (wp)
open Builtin
theorem tuple_addW0 (l b:Addr)(items o:Array Value)(n p:Nat)(k q:Option Addr)(r u:Array (Option Value))(v:items.isEmpty=true):
  Meets (ab5.«tuple.__add__» ⟨[.ref l,.ref b],[]⟩) (λ_ R s=>s.heap.get? l=some { cls:=.type "tuple",dict:=k,data:=.seq items n,slots:=r }/\s.heap.get? b=some { cls:=.type "tuple",dict:=q,data:=.seq o p,slots:=u }/\R (.ok (.ret (acZ b))) { s with heap:=s.heap,toks:=s.toks }):=
 .of_wp λprog w A R s h=>by obtain⟨f,g,d,e,os⟩:=s;obtain⟨c,a,h⟩:=h;have f1:=ac7;have f2:=acE;have i:=aeg;have f4:=afT;have j:=afU;wp_walk using abd c,abd a;exact⟨_,rfl,h⟩
theorem pV:fillsNumberSlot (.type "tuple") "mul" = pure false :=
 afw (id:="tuple.__mul__") (r:=some (.builtin "tuple.__rmul__")) F.slot_tuple_mul.lookup (by decide +kernel) F.slot_tuple_rmul.lookup (by decide +kernel)
theorem vY:agw (.type "tuple")=pure (some (.builtin "tuple.__mul__")):=by unfold agw;rw[aeo (T:="tuple") (name:="__mul__") (id:="tuple.__mul__") F.slot_tuple_mul.lookup (by decide +kernel),aeo (T:="tuple") (name:="__rmul__") (id:="tuple.__rmul__") F.slot_tuple_rmul.lookup (by decide +kernel)];rfl
theorem rX (a:Int)(t:Tok)(l:Addr)(items:Array Value)(n:Nat)(f:Option Addr)(i:Array (Option Value)):
  Meets (ab5.«int.__rmul__» ⟨[.int a t,.ref l],[]⟩) (λ_ R s=>s.heap.get? l=some { cls:=.type "tuple",dict:=f,data:=.seq items n,slots:=i }/\R (.ok (.ret agx)) s):=
 .of_wp λprog w A R s h=>by obtain⟨c,g,d,b,os⟩:=s;obtain⟨e,h⟩:=h;wp_walk;exact⟨_,rfl,h⟩
theorem Ay (l:Addr)(items:Array Value)(n:Nat)(f:Option Addr)(j:Array (Option Value))(x:Int)(u:Tok)(i:¬(decide (x < -(2 ^ 63))||decide (x>=2 ^ 63))=true)(k:¬(items.isEmpty||x == 1)=true)(o:¬(decide (x<=0)||items.isEmpty)=true)
  (e:¬(items.size:Int)*x>(2 ^ 63-1) / 8) (p:¬aga ((items.size:Int)*x)=true) (q:((aap x.toNat items).foldl (· ++ ·) #[]).size<=aax):
  Meets (ab5.«tuple.__mul__» ⟨[.ref l,.int x u],[]⟩) (λ_ R s=>s.heap.get? l=some { cls:=.type "tuple",dict:=f,data:=.seq items n,slots:=j }/\R (.ok (.ret (acZ s.heap.objs.size))) { s with heap:=s.heap.push { cls:=abg "tuple",data:=Data.seq ((aap x.toNat items).foldl (· ++ ·) #[]) },toks:=s.toks }):=
 .of_wp λprog w A R s h=>by
  obtain⟨c,g,d,b,os⟩:=s;obtain⟨a,h⟩:=h;have f1:=ac7;have f2:=acE
  wp_walk using abd a
  refine aeH (decide_eq_false i) ?_
  wp_walk using abd a
  refine aeH (decide_eq_false e) ?_
  wp_walk using abd a
  exact⟨_,rfl,h⟩
theorem yh (l:Addr)(items:Array Value)(n:Nat)(e:Option Addr)(i:Array (Option Value))(x:Int)(u:Tok)(f:¬(decide (x < -(2 ^ 63))||decide (x>=2 ^ 63))=true)(j:(items.isEmpty||x == 1)=true):
  Meets (ab5.«tuple.__mul__» ⟨[.ref l,.int x u],[]⟩) (λ_ R s=>s.heap.get? l=some { cls:=.type "tuple",dict:=e,data:=.seq items n,slots:=i }/\R (.ok (.ret (acZ l))) { s with heap:=s.heap,toks:=s.toks }):=
 .of_wp λprog w A R s h=>by
  obtain⟨c,g,d,b,os⟩:=s;obtain⟨a,h⟩:=h;have f1:=ac7;have f2:=acE
  wp_walk using abd a
  refine aeH (decide_eq_false f) ?_
  wp_walk using abd a
  exact⟨_,rfl,h⟩
theorem yi (l:Addr)(items:Array Value)(n:Nat)(e:Option Addr)(i:Array (Option Value))(x:Int)(u:Tok)(f:¬(decide (x < -(2 ^ 63))||decide (x>=2 ^ 63))=true)(j:¬(items.isEmpty||x == 1)=true)(k:(decide (x<=0)||items.isEmpty)=true):
  Meets (ab5.«tuple.__mul__» ⟨[.ref l,.int x u],[]⟩) (λ_ R s=>s.heap.get? l=some { cls:=.type "tuple",dict:=e,data:=.seq items n,slots:=i }/\R (.ok (.ret (acZ s.heap.objs.size))) { s with heap:=s.heap.push { cls:=abg "tuple",data:=Data.seq #[] },toks:=s.toks }):=
 .of_wp λprog w A R s h=>by
  obtain⟨c,g,d,b,os⟩:=s;obtain⟨a,h⟩:=h;have f1:=ac7;have f2:=acE
  wp_walk using abd a
  refine aeH (decide_eq_false f) ?_
  wp_walk using abd a
  exact⟨_,rfl,h⟩
section
variable {X:Cx}
def QU (K:KW):R2:=λx y H Q=>∃a k xs,x = .ref a/\y = .int k/\eS K H a xs /\ -(2 ^ 63)<=k/\k<2 ^ 63/\xs.length*k.toNat<=16777216 /\
 ((xs = []\/k=1)->Q (.ref a) H)/\(xs ≠ []->k<=0->∀p,H p=none->Q (.ref p) (upd H p (.tup [])))/\(xs ≠ []->2<=k->∀p,H p=none->Q (.ref p) (upd H p (.tup (aap k.toNat xs).flatten)))
theorem JC:bq X (abJ .Mult) (QU X.kw):=by
 intro b0 s σ H x y v u Q I rx ry h;obtain⟨a,k,xs,rfl,rfl,hq,h1,h2,l,q1,q0,q2⟩:=h;cases rx;obtain⟨t,rfl⟩:=ry;obtain⟨c,r,ht,Y8⟩:=I.tuple hq;have hl:=r.length;obtain⟨⟨cls,f,data,i⟩,d,z,n,hd⟩:=id ht;simp only at z hd;subst z hd;have j:¬(decide (k < -(2 ^ 63))||decide (k>=2 ^ 63))=true:=by rw[aa4,decide_eq_true_eq,decide_eq_true_eq];omega
 refine afx (T:="tuple") (U:="int") (by decide) ⟨_,d,rfl⟩ (λs'=>afs s' k t) pV F.fills_int_mul F.slot_int_rmul vY F.slot_int_index.lookup
   (acX F.slot_int_rmul (afs s k t) F.entry_int_rmul (F.args_int_rmul_2 _ _) (rX k t a c.toArray n f i) ⟨d,rfl,⟨_,d,rfl⟩,?_⟩)
 by_cases c1:xs = []\/k=1
 . refine acX F.slot_tuple_mul ⟨_,d,rfl⟩ F.entry_tuple_mul (F.args_tuple_mul_2 _ _) (yh a c.toArray n f i k t j ?_) ⟨d,.ref a,H,I,rfl,q1 c1⟩
   rcases c1 with c1|c1
   . subst c1
     cases r;simp
   . subst c1;simp
 . have o:xs ≠ []:=λe=>c1 (.inl e)
   have Cu:k≠1:=λe=>c1 (.inr e);have hi:c ≠ []:=λe=>o (by subst e;cases r;rfl);have n1:¬(c.toArray.isEmpty||k == 1)=true:=by simp[hi,Cu]
   have fresh:H s.heap.objs.size=none:=I.aU.fresh (aal _);by_cases c0:k<=0
   . refine acX F.slot_tuple_mul ⟨_,d,rfl⟩ F.entry_tuple_mul (F.args_tuple_mul_2 _ _) (yi a c.toArray n f i k t j n1 (by simp[c0])) ⟨d,?_⟩
     refine⟨.ref _,_,I.laid (t':=s.toks) (λb u e=>aaf _ e) (aal _) ?_,rfl,q0 o c0 _ fresh⟩;exact⟨aaR _,[],.nil,⟨_,aaq _ rfl,rfl,⟨_,rfl⟩,rfl⟩⟩
   . have q:agt (λx1 x2=>x1++x2) #[] (aap k.toNat c.toArray)=(aap k.toNat c).flatten.toArray:=by
       have:=foldl_rep c k.toNat [];rw[acq]at this;exact this
     have hs:aax=16777216:=ac0;have ir:(c.length:Int)*k<=16777216:=by have p:((xs.length*k.toNat:Nat):Int)<=16777216:=Int.ofNat_le.mpr l;rw[Int.natCast_mul,ada (by omega),hl]at p;exact p
     refine acX F.slot_tuple_mul ⟨_,d,rfl⟩ F.entry_tuple_mul (F.args_tuple_mul_2 _ _) (Ay a c.toArray n f i k t j n1 (by simp[c0,hi]) (by rw[aar];omega) ?_ ?_) ⟨d,?_⟩
     . rw[aar]
       unfold aga;simp;omega
     . rw[q,aar,len_rep,<- hl,adv,hs];exact l
     . rw[q]
       refine⟨.ref _,_,I.laid (t':=s.toks) (λb u e=>aaf _ e) (aal _) ?_,rfl,q2 o (by omega) _ fresh⟩;exact⟨by rw[len_rep,adv,hs];exact l,_,r.rep k.toNat,⟨_,aaq _ rfl,rfl,⟨_,rfl⟩,rfl⟩⟩
theorem ag.rep {K H ι}{xs:List D}{vs:List V}(r:ag K H ι xs vs):∀k:Nat,ag K H ι (aap k xs).flatten (aap k vs).flatten
 | 0=>by simp[ag]|k+1=>by rw[abU,abU,abW,abW];exact ag.append r (ag.rep r k)
def dI (b a:D)(g:G):Option (D×G):=match b,a with
 |.int i,.int j=>if cI i j=true then some (.int (i*j),g)else none|.tup xs,.int k=>if(d9 k&&az (xs.length*k.toNat))=true then some (.tup (aap k.toNat xs).flatten,g)else none|_,_=>none
theorem v9:bq X (abJ .Mult) (dB X.kw dI):=by
 intro b0 s σ H x y v u Q I n ry q;obtain⟨ι,g,d1,d2,d,g',G0,f,h,q,p⟩:=q;unfold dI at q;split at q
 . split at q
   . rename_i i j z
     exact Jx b0 s σ H x y v u Q I n ry ⟨ι,g,.int i,.int j,d,g',G0,f,h,by simp only[bS];rw[if_pos z];exact q,p⟩
   . cases q
 . split at q
   . rename_i xs k z
     simp only[aae]at z;have z1:=d9.and z.1;have z2:=az.le z.2;cases q;simp only[Rel]at f h;obtain⟨a,o,rfl,hq,e⟩:=f;subst h;have r:=e.length;have new:∀{zs:List D} {ws:List V},ag X.kw H ι zs ws->zs=(aap k.toNat xs).flatten->∀q,H q=none->Q (.ref q) (upd H q (.tup ws)):=fun {zs ws} rz ez q b=>by subst ez;refine p _ _ _ (Ext.lay b) (G0.lay b) ?_;simp only[Rel];exact⟨q,ws,rfl,.inl ⟨.inl aR,G0.fresh b⟩,ag.ext (Ext.lay b) _ rz⟩
     refine JC b0 s σ H _ _ v u Q I n ry ⟨a,k,o,rfl,rfl,hq.sq,(by omega),(by omega),by rw[<- r];exact z2,λc=>?_,λhx hk=>?_,λhx hk=>?_⟩
     . refine p H ι _ Ext.refl G0 ?_
       simp only[Rel];refine⟨a,o,rfl,hq,?_⟩;rcases c with c|c
       . subst c
         have:xs = []:=adl (by simpa using r);subst this;have l:(aap k.toNat ([]:List D)).flatten = []:=by simp
         rw[l];exact e
       . subst c
         have l:(aap (1:Int).toNat xs).flatten=xs:=by simp
         rw[l];exact e
     . refine new (zs:=[]) (by simp[ag]) ?_
       have:k.toNat=0:=by omega
       rw[this];simp
     . exact new (e.rep k.toNat) rfl
   . cases q
 . cases q
theorem Fm:bq X (abJ .Add) (λx y H Q=>∃a b ys,x = .ref a/\y = .ref b/\eS X.kw H a []/\eS X.kw H b ys/\Q (.ref b) H):=by
 intro b0 s σ H x y v u Q I r ry h;obtain⟨a,b,ys,rfl,rfl,i,z,q⟩:=h;cases r;cases ry;obtain⟨au,j,p1,_⟩:=I.tuple i;obtain⟨p,r2,k,_⟩:=I.tuple z;obtain⟨⟨cls,o,data,sl⟩,d,c,n,hd⟩:=id p1;obtain⟨⟨EO,tG,data2,l⟩,e,f,n2,hd2⟩:=id k;simp only at c hd f hd2;subst c hd f hd2;exact afG ⟨_,d,rfl⟩ ⟨_,e,rfl⟩ afH agD aed ad8 (adV _ _)
  (tuple_addW0 a b au.toArray p.toArray n n2 o tG sl l (by cases j;simp)) ⟨d,e,.ref b,H,I,rfl,q⟩
theorem JD:bq X (abJ .Add) (λx y H Q=>∃a b xs ys,x = .ref a/\y = .ref b/\cS X.kw H a xs/\cS X.kw H b ys/\xs.length+ys.length<=aax /\ ∀p,H p=none->Q (.ref p) (upd H p (.lst (xs++ys)))):=by
 intro b0 s σ H x y v u Q I rx ry h;obtain⟨a,b,xs,ys,rfl,rfl,ha,hb,o,q⟩:=h;cases rx;cases ry;obtain⟨d,f,p1,_⟩:=I.list ha;obtain⟨c,k,p2,_⟩:=I.list hb;obtain⟨⟨cls,dd,data,sl⟩,n,r,i,j,hd⟩:=id p1;obtain⟨⟨EO,tG,data2,jT⟩,n2,z,kF,l,hd2⟩:=id p2;simp only at i hd kF hd2 j l;subst i hd kF hd2 j l;have e:d.toArray++c.toArray=(d++c).toArray:=by simp
 have hl:d.length+c.length<=aax:=by rw[<- f.length,<- k.length];exact o
 refine afG ⟨_,r,rfl⟩ ⟨_,z,rfl⟩ noFill_list_add seq_list_add PySem.F.slot_list_add PySem.F.entry_list_add (PySem.F.args_list_add_2 _ _) (list_addW a b d.toArray c.toArray n n2 none none sl jT (by simpa using hl)) ⟨r,z,?_⟩;rw[e];exact⟨.ref _,_,I.Vj (t':=s.toks) (f.append k) (by rw[aai];exact o),rfl,q _ I.fresh⟩
noncomputable def hU (d:D)(g:G):Option (List D):=match d with
 |.lst xs=>some xs|.ref n=>g[n]?|_=>none
theorem j8 {K H ι g d v xs}(G0:aw K H ι g)(r:Rel K H ι d v)(h:hU d g=some xs):∃a vs,v = .ref a/\cS K H a vs/\ag K H ι xs vs:=by
 cases d with
 |lst ys =>
  cases h;simp only[Rel]at r;obtain⟨a,vs,rfl,e,i⟩:=r;exact⟨a,vs,rfl,e.sq,i⟩
 |ref n =>
  simp only[Rel]at r;obtain⟨a,rfl,b⟩:=r;obtain⟨vs,c,f⟩:=G0.at h b;exact⟨a,vs,rfl,.of c,f⟩
 |_=>cases h
def bI (b a:D)(g:G):Option (D×G):=match b,a with
 |.int i,.int j=>some (.int (i+j),g)|.tup xs,.tup ys=>if az (xs.length+ys.length)=true then some (.tup (xs++ys),g)else none|.str i,.str j=>if az (i.length+j.length)=true then some (.str (i++j),g)else none
 |b,a=>match hU b g,hU a g with
  |some xs,some ys=>if az (xs.length+ys.length)=true then some (.lst (xs++ys),g)else none|_,_=>none
theorem Nd:bq X (abJ .Add) (dB X.kw bI):=by
 intro b0 s σ H x y v u Q I n ry q;obtain⟨ι,g,d1,d2,d,g',G0,k,l,q,p⟩:=q;unfold bI at q;split at q
 . rename_i i j
   exact Jw b0 s σ H x y v u Q I n ry ⟨ι,g,.int i,.int j,d,g',G0,k,l,q,p⟩
 . split at q
   . rename_i xs ys z
     cases q;simp only[Rel]at k l;obtain⟨a,o,rfl,hq,h⟩:=k;obtain⟨b,ws,rfl,r,f⟩:=l;by_cases hx:o = []
     . subst hx
       have:xs = []:=adl (by simpa using h.length);subst this;refine Fm b0 s σ H _ _ v u Q I n ry ⟨a,b,ws,rfl,rfl,hq.sq,r.sq,p H ι _ Ext.refl G0 ?_⟩;simp only[Rel,acq];exact⟨b,ws,rfl,r,f⟩
     . refine IY b0 s σ H _ _ v u Q I n ry ⟨a,b,o,ws,rfl,rfl,hq.sq,r.sq,hx,by rw[<- h.length,<- f.length];exact az.le z,λe=>?_,λe q' c=>?_⟩
       . subst e
         have:ys = []:=adl (by simpa using f.length);subst this;refine p H ι _ Ext.refl G0 ?_;simp only[Rel,abb];exact⟨a,o,rfl,hq,h⟩
       . refine p _ _ _ (Ext.lay c) (G0.lay c) ?_
         simp only[Rel];exact⟨q',_,rfl,.inl ⟨.inl aR,G0.fresh c⟩,ag.ext (Ext.lay c) _ (ag.append h f)⟩
   . cases q
 . split at q
   . rename_i x1 y1 z
     cases q;simp only[Rel]at k l;subst k l;exact Aa b0 s σ H _ _ v u Q I n ry ⟨x1,y1,rfl,rfl,az.le z,p H ι _ Ext.refl G0 (by simp[Rel])⟩
   . cases q
 . split at q
   . rename_i xs ys e1 e2
     split at q
     . rename_i z
       cases q;obtain⟨a,o,rfl,hq,h⟩:=j8 G0 k e1;obtain⟨b,ws,rfl,r,f⟩:=j8 G0 l e2;refine JD b0 s σ H _ _ v u Q I n ry ⟨a,b,o,ws,rfl,rfl,hq,r,by rw[<- h.length,<- f.length];exact az.le z,λq' c=>?_⟩;refine p _ _ _ (Ext.lay c) (G0.lay c) ?_;simp only[Rel];exact⟨q',_,rfl,.inl ⟨.inl aR,G0.fresh c,G0.gZ c⟩,ag.ext (Ext.lay c) _ (ag.append h f)⟩
     . cases q
   . cases q
abbrev FO:=Sg->G->Option (Option Int×G)
inductive SQ (K:KW)(f:FO)(σ:L2.St)(H:Hp)(Q:(Option Int->Hp->Prop)):Prop
 |mk (ι:Ix) (σd:Sg) (g:G) (o:Option Int) (g':G) (h0:aw K H ι g) (h1:bo K H ι σd σ) (h2:f σd g=some (o,g')) (h3:qF K H ι g' (Q o)):SQ K f σ H Q
structure DO (X:Cx)(e:Option Expr)(f:FO):Prop where of ::
 un:PO X e (SQ X.kw f)
theorem PO.imp {X:Cx}{e:Option Expr}{t t':TO}(h:PO X e t)(i:∀σ H Q,t' σ H Q->t σ H Q):PO X e t':=λb0 s σ H Q I q=>h b0 s σ H Q I (i σ H Q q)
noncomputable def pW:FO:=λ_ g=>some (none,g)
noncomputable def eB (f:FE):FO:=λσ g=>(f σ g).bind λr=>match r.1 with|.int i=>some (some i,r.2)|_=>none
theorem JE:DO X none pW:=.of (PO.imp IW λσ H Q h=>by obtain⟨ι,a,g,o,b,G0,c,h,p⟩:=h;cases h;exact p H ι Ext.refl G0)
theorem JF {e:Expr}{f:FE}(h:DE X e f):DO X (some e) (eB f):=.of (PO.imp (IX h.un) λσ H Q h=>by
 obtain⟨ι,r,g,o,q,G0,l,h,p⟩:=h;obtain⟨⟨d,g1⟩,c,h⟩:=bind_some h;cases d with
 |int i =>
  cases h;exact tD.bind G0 l c λH1 j v a k n b=>⟨i,by simpa[Rel]using b,p H1 j a k⟩
 |_=>cases h)
def cutD (xs:List D)(a b:Option Int):List D:=(xs.drop (HT.bf xs.length 0 a)).take (HT.bf xs.length xs.length b-HT.bf xs.length 0 a)
def lG (n:Nat)(b a:Option Int):Bool:=decide (HT.bf n 0 b=0)&&decide (HT.bf n n a=n)
def Nf (d:D)(b a:Option Int)(g:G):Option (D×G):=match d with
 |.tup xs=>if lG xs.length b a=true then none else some (.tup (cutD xs b a),g)|.lst xs=>some (.lst (cutD xs b a),g)|.ref n=>match g[n]? with|some xs=>some (.lst (cutD xs b a),g)|none=>none
 |_=>none
theorem ag.Ng {K H ι}{xs:List D}{vs:List V}(r:ag K H ι xs vs)(b a:Option Int):ag K H ι (cutD xs b a) (nA vs b a):=by unfold cutD nA;rw[<- r.length];exact ag.take _ (ag.drop _ r)
def Nh (K:KW):V->Option Int->Option Int->Hp->VK->Prop:=λx lo a H Q=>LX K x lo a H Q\/L_ K x lo a H Q
theorem JG:pj X (Nh X.kw):=by
 intro b0 s σ H x v c i lo a f Q I d b e pu h;rcases h with h|h
 . exact LY b0 s σ H x v c i lo a f Q I d b e pu h
 . exact I_ b0 s σ H x v c i lo a f Q I d b e pu h
theorem big {b0:List (Addr×Obj)}{σ:L2.St}{H:Hp}{s:aac}(I:Inv X b0 σ H s):adh<s.heap.objs.size:=by obtain⟨o,b,c,e,_⟩:=I.mod.glob;have a:=aas (I.bk _ _ e);exact afK (by decide) a
theorem Fo {i:Pos}:DE X (.Dict [] [] i) (fC .dn):=.of (by
 intro b0 s σ H Q I h;obtain⟨ι,c,g,d,a,G0,f,h,p⟩:=h;cases h;have hf:H s.heap.objs.size=none:=I.aU.fresh (aal _);refine wpAny_Dict_empty ⟨.ref s.heap.objs.size,upd H s.heap.objs.size (.dK []),I.laid (t':=s.toks) (λb u e=>aaf _ e) (aal _) ?_,rfl,p _ _ _ (Ext.lay hf) (G0.lay hf) ?_⟩
 . exact⟨aaR _,beq_eq_false_iff_ne.mpr (aaN (aaH (big I))),[],.nil,Heap.DictOf.new _⟩
 . simp only[Rel]
   exact⟨_,rfl,aR,G0.fresh hf⟩)
end
end L3
namespace L3
open PyProof.Rows L2
def oLt:=qM λi j=>decide (i<j)
def oLe:=qM λi j=>decide (i<=j)
def wa:=qM λi j=>decide (j<i)
def Cw:=qM λi j=>decide (j<=i)
noncomputable def rY (S:Scope)(a N:List Str)(fr:List (Option Nat))(scope:Scope):Bool :=
 decide (scope.kind = .function)&&scope.names.all (λy=>!decide (y.2 = .cell)||decide (scope.names.lookup y.1=some .cell))&&scope.names.all (λy=>!decide (y.2 = .local)||decide (scope.names.lookup y.1=some .local)) &&
 scope.names.all (λy=>!decide (y.2 = .free)||(decide (scope.names.lookup y.1=some .free)&&(decide (S.names.lookup y.1=some .cell)||decide (S.names.lookup y.1=some .free)))) &&
 decide (fr.length=N.length)&&(aba fr.length).all (λj=>match fr[j]? with
  |some (some i)=>match N[j]? with
   |some x=>decide (a[i]? = some x)&&decide (scope.names.lookup x=some .free)|none=>false
  |_=>true)
theorem Cy {X:Cx}{N:List Str}{fr:List (Option Nat)}{scope:Scope}{S:Scope}{p:List Str}(q:X.env.scope=S)(r:X.N=p)(h:rY S p N fr scope=true):eM X N fr scope:=by
 unfold rY at h;simp only[aae,decide_eq_true_eq,abS,aa4,aaV,decide_eq_false_iff_not]at h;obtain⟨⟨⟨⟨⟨f,n⟩,c⟩,l⟩,k⟩,o⟩:=h;refine⟨f,λy a e=>?_,λy a e=>?_,λy a e=>?_,k,λj i hf=>?_⟩
 . rcases n y a with z|z
   . exact absurd e z
   . exact z
 . rcases c y a with z|z
   . exact absurd e z
   . exact z
 . rcases l y a with z|z
   . exact absurd e z
   . refine⟨z.1,?_⟩
     show X.env.scope.names.lookup y.1=_\/X.env.scope.names.lookup y.1=_;rw[q];exact z.2
 . have b:j∈aba fr.length:=agd.mpr (aab.mp hf).1
   have:=o j b;rw[hf]at this;dsimp only at this;split at this
   . rename_i x d
     simp only[aae,decide_eq_true_eq]at this;exact⟨x,d,by rw[r];exact this.1,this.2⟩
   . cases this
noncomputable def dy (f:FE):FI:=λσ g=>(f σ g).bind λr=>match r.1 with|.tup xs=>some (xs,r.2)|.lst xs=>some (xs,r.2)|_=>none
theorem wb {X:Cx}{tg l:Expr}{j:FE}(k:DE X l j):DI X tg l (dy j):=.of (by
 intro b0 s σ H R I h;obtain⟨ι,b,g,ds,a,G0,f,h,p⟩:=h;obtain⟨⟨i,g1⟩,e,d⟩:=bind_some h;cases i with
 |tup xs =>
  have c:uN j b g=some (ds,a):=by unfold uN;rw[e];exact d
  exact(MO k).un b0 s σ H R I ⟨ι,b,g,ds,a,G0,f,c,p⟩
 |lst xs =>
  have c:uO j b g=some (ds,a):=by unfold uO;rw[e];exact d
  exact(MP k).un b0 s σ H R I ⟨ι,b,g,ds,a,G0,f,c,p⟩
 |_=>cases d)
end L3
namespace L3
open L2
section
variable {σ:Sg}{g:G}{fa fb fc:FE}{fr:FA}{ga gb:FT}{f1 f2:FS}{o o':D->D->G->Option (D×G)}{fn:Fn}{t:FG}{ts:pB}
@[simp] theorem Ht {d}:fC d σ g=some (d,g):=rfl
@[simp] theorem lH {i:Nat}:aa i σ g=(match σ[i]? with|some (some d)=>some (d,g)|_=>none):=rfl
@[simp] theorem hZ:ak o fa fb σ g=(fa σ g).bind λr=>(fb σ r.2).bind λq=>o r.1 q.1 q.2:=rfl
@[simp] theorem Y9 {o:D->G->Option (D×G)}:qG o fa σ g=(fa σ g).bind λr=>o r.1 r.2:=rfl
@[simp] theorem Y_ {b:Bool}:dq (some (.bl b,g))=some (b,g):=rfl
@[simp] theorem cY:aH fa σ g=dq (fa σ g):=rfl
@[simp] theorem XR:nE fa σ g=(fa σ g).bind λr=>(iE r.1 r.2).map λb=>(b,r.2):=rfl
@[simp] theorem SR {b:Bool}:iE (.bl b) g=some b:=rfl
@[simp] theorem QV {i:Int}:iE (.int i) g=some (i != 0):=rfl
@[simp] theorem yQ:jZ ga gb σ g=(ga σ g).bind λr=>if r.1=true then gb σ r.2 else some (false,r.2):=rfl
@[simp] theorem Ni:B9 ga gb σ g=(ga σ g).bind λr=>if r.1=true then some (true,r.2)else gb σ r.2:=rfl
@[simp] theorem XS:Al ga σ g=(ga σ g).bind λr=>some (!r.1,r.2):=rfl
@[simp] theorem Fp:jz fa fb σ g=(dq (fa σ g)).bind λr=>if r.1=true then fb σ r.2 else some (.bl false,r.2):=rfl
@[simp] theorem XT:E3 fa fb σ g=(dq (fa σ g)).bind λr=>if r.1=true then some (.bl true,r.2)else fb σ r.2:=rfl
@[simp] theorem JH:An ga fa fb σ g=(ga σ g).bind λr=>if r.1=true then fa σ r.2 else fb σ r.2:=rfl
@[simp] theorem XU:aj σ g=some ([],g):=rfl
@[simp] theorem j9:af fa fr σ g=(fa σ g).bind λr=>(fr σ r.2).bind λq=>some (r.1::q.1,q.2):=rfl
@[simp] theorem Cz {m:List D->G->Option (D×G)}:aM m fr σ g=(fr σ g).bind λr=>m r.1 r.2:=rfl
theorem JI {n:Nat}:az n=decide (n<=16777216):=rfl
@[simp] theorem abq {n:Nat}(h:n<=16777216):az n=true:=decide_eq_true h
@[simp] theorem SS {ds:List D}:aI ds g=if az ds.length=true then some (.tup ds,g)else none:=rfl
@[simp] theorem SU {ds:List D}:bQ ds g=if az ds.length=true then some (.lst ds,g)else none:=rfl
@[simp] theorem SV {ds:List D}:mkRef ds g=if az ds.length=true then some (.ref g.length,g ++ [ds])else none:=rfl
@[simp] theorem Vz:bb σ g=some (.nx,σ,g):=rfl
@[simp] theorem oF:ay f1 f2 σ g=(f1 σ g).bind λr=>match r.1 with|.nx=>f2 r.2.1 r.2.2|_=>some r:=rfl
@[simp] theorem jK:aO fa σ g=(fa σ g).bind λr=>some (.rt r.1,σ,r.2):=rfl
@[simp] theorem wc:cy ga f1 f2 σ g=(ga σ g).bind λr=>if r.1=true then f1 σ r.2 else f2 σ r.2:=rfl
@[simp] theorem VA:eI fa σ g=(fa σ g).bind λr=>some (.nx,σ,r.2):=rfl
@[simp] theorem yR:aD fa t σ g=(fa σ g).bind λr=>(t r.1 σ r.2).bind λq=>some (.nx,q.1,q.2):=rfl
@[simp] theorem abr {i:Nat}{d:D}:gN i d σ g=some (σ.set i (some d),g):=rfl
@[simp] theorem VB:g_ [] σ g=some (σ,g):=rfl
@[simp] theorem SX {d:D}{r:List D}:bR t ts (d::r) σ g=(t d σ g).bind λq=>ts r q.1 q.2:=rfl
@[simp] theorem abt {n:Nat}{xs:List D}:gT n ts (.tup xs) σ g=if xs.length=n then ts xs σ g else none:=rfl
@[simp] theorem mq:aq fn fr σ g=(fr σ g).bind λr=>fn r.1 r.2:=rfl
@[simp] theorem XW {T:Ty}:Ax T fa σ g=(fa σ g).bind λr=>if isFn r.1=true then none else some (.bl (kO T r.1),r.2):=rfl
@[simp] theorem gK {i:FI}:dw i t f1 σ g=(i σ g).bind λr=>forL t f1 r.1 σ r.2:=rfl
@[simp] theorem XX:dy fa σ g=(fa σ g).bind λr=>match r.1 with|.tup xs=>some (xs,r.2)|.lst xs=>some (xs,r.2)|_=>none:=rfl
@[simp] theorem VC:uN fa σ g=(fa σ g).bind λr=>match r.1 with|.tup xs=>some (xs,r.2)|_=>none:=rfl
@[simp] theorem VD:uO fa σ g=(fa σ g).bind λr=>match r.1 with|.lst xs=>some (xs,r.2)|_=>none:=rfl
@[simp] theorem we {mk:List D->G->Option (D×G)}{a:FI}{fr:List (Option Nat)}{c:FT}:cH mk a fr t c fa σ g=(a σ g).bind λr=>if az r.1.length=true then(cN t c fa r.1 (cf fr σ) r.2).bind λq=>mk q.1 q.2 else none:=rfl
@[simp] theorem XY {ds:List D}:cg ds g=some (.lst ds,g):=rfl
@[simp] theorem VE:dZ σ g=some (true,g):=rfl
@[simp] theorem Za {c:Int->Int->Bool}{f:Int->Int->Int}{i j:Int}:bS c f (.int i) (.int j) g=if c i j=true then some (.int (f i j),g)else none:=rfl
@[simp] theorem VF {i j:Int}:eu i j=true:=rfl
@[simp] theorem Zb {i j:Int}:oLt (.int i) (.int j) g=some (.bl (decide (i<j)),g):=rfl
@[simp] theorem Zc {i j:Int}:oLe (.int i) (.int j) g=some (.bl (decide (i<=j)),g):=rfl
@[simp] theorem Zd {i j:Int}:wa (.int i) (.int j) g=some (.bl (decide (j<i)),g):=rfl
@[simp] theorem Ze {i j:Int}:Cw (.int i) (.int j) g=some (.bl (decide (j<=i)),g):=rfl
@[simp] theorem XZ {i:Int}:mj (.int i) g=some (.int (-i),g):=rfl
@[simp] theorem X0 {i j:Int}:bI (.int i) (.int j) g=some (.int (i+j),g):=rfl
@[simp] theorem X1 {i j:Int}:dI (.int i) (.int j) g=if cI i j=true then some (.int (i*j),g)else none:=rfl
@[simp] theorem Zf {d:D}{i:Int}:cz d (.int i) g=(aT d g).bind λxs=>(bJ xs i).map λe=>(e,g):=rfl
@[simp] theorem X2 {xs:List D}:aT (.tup xs) g=some xs:=rfl
@[simp] theorem X3 {xs:List D}:aT (.lst xs) g=some xs:=rfl
@[simp] theorem X4 {n:Nat}:aT (.ref n) g=g[n]?:=rfl
@[simp] theorem X5 {d:D}:cK [d] g=(aT d g).map λxs=>(.int xs.length,g):=rfl
@[simp] theorem X6 {i j:Int}:k9 [.int i,.int j] g=some (.int (if j<i then j else i),g):=rfl
@[simp] theorem VG {k:Bool}:jk [.bl k] g=some (.int (if k then 1 else 0),g):=rfl
@[simp] theorem VH {i:Int}:jk [.int i] g=some (.int i,g):=rfl
@[simp] theorem X7 {d:D}:jq [d] g=(aT d g).bind λxs=>if az xs.length=true then some (.tup xs,g)else none:=rfl
@[simp] theorem X8 {i j:Int}:oEq (.int i) (.int j) g=some (.bl (i == j),g):=rfl
@[simp] theorem X9 {i j:Bool}:oEq (.bl i) (.bl j) g=some (.bl (i == j),g):=rfl
@[simp] theorem X_ {i j:Str}:oEq (.str i) (.str j) g=some (.bl (i == j),g):=rfl
@[simp] theorem Ya {d:D}:Fl d .ax g=some (.bl (jC d),g):=rfl
@[simp] theorem VI {d:D}:Aw d .ax g=some (.bl (!jC d),g):=rfl
theorem bL {c a:Nat}{ds:List D}{b:FS}{σ':Sg}{d:D}{g':G}(i:ds.length=a)(h:b (ds.map some++aap (c-a) none) g=some (.rt d,σ',g'))(f:g'.length=g.length):ao false c a b ds g=some (d,g'):=by
 unfold ao;rw[if_pos i,h];have e:settle g.length d g'=some (d,g'):=by unfold settle;rw[if_pos f]
 simpa using e
theorem yS {c a:Nat}{ds:List D}{b:FS}{σ':Sg}{d:D}{g':G}(e:ds.length=a)(h:b (ds.map some++aap (c-a) none) g=some (.rt d,σ',g')):ao true c a b ds g=some (d,g'):=by unfold ao;rw[if_pos e,h];rfl
end
theorem fY {t:FG}{c:FT}{e:FE}{h:D->D}(I:Sg->Prop):∀(ds:List D) (σ:Sg) (g:G),I σ->(∀d∈ds,∀σ,I σ->∃σ1,t d σ g=some (σ1,g)/\c σ1 g=some (true,g)/\e σ1 g=some (h d,g)/\I σ1)->cN t c e ds σ g=some (ds.map h,g)
 | [],_,_,_,_=>rfl|d::ds,σ,g,hi,hh=>by obtain⟨σ1,f,j,a,i⟩:=hh d aaC σ hi;simp only[cN,f,j,a,aaj,if_true,fY I ds σ1 g i λx b=>hh x (aau _ b),aa5]
@[simp] theorem VJ {a:Type}{σ:List (Option a)}:cf [] σ = []:=rfl
@[simp] theorem SY {a:Type}{σ:List (Option a)}{fr:List (Option Nat)}:cf (none::fr) σ=none::cf fr σ:=rfl
@[simp] theorem S4 {a:Type}{σ:List (Option a)}{fr:List (Option Nat)}{i:Nat}:cf (some i::fr) σ=(σ[i]?).join::cf fr σ:=rfl
end L3
namespace L3
open PyProof.Rows L2
noncomputable def Az (c:Bool):D->Bool
 |.bl b=>b == c|_=>false
def isLit (a b:D):Option Bool:=match b with
 |.ax=>some (jC a)|.bl c=>some (Az c a)|_=>none
def yT (c a:D)(g:G):Option (D×G):=(isLit c a).map λb=>(.bl b,g)
def uQ (c a:D)(g:G):Option (D×G):=(isLit c a).map λb=>(.bl (!b),g)
section
variable {X:Cx}
theorem CA {K H ι d v u c}(r:Rel K H ι d v)(f:RelV v u):(u == afq c)=Az c d/\PySem.plainIs u (.bool c)=true:=by
 cases d with
 |ax=>simp only[Rel]at r;subst r;cases f;exact⟨rfl,rfl⟩|bl b=>simp only[Rel]at r;subst r;cases f;exact⟨by cases b<;>cases c<;>rfl,rfl⟩|int _=>simp only[Rel]at r;subst r;obtain⟨t,rfl⟩:=f;exact⟨rfl,rfl⟩
 |str _=>simp only[Rel]at r;subst r;obtain⟨t,rfl⟩:=f;exact⟨rfl,rfl⟩
 |tup _=>simp only[Rel]at r;obtain⟨a,e,rfl,_⟩:=r;cases f;exact⟨rfl,rfl⟩
 |lst _=>simp only[Rel]at r;obtain⟨a,e,rfl,_⟩:=r;cases f;exact⟨rfl,rfl⟩
 |dn=>simp only[Rel]at r;obtain⟨a,rfl,_⟩:=r;cases f;exact⟨rfl,rfl⟩
 |ref _=>simp only[Rel]at r;obtain⟨a,rfl,_⟩:=r;cases f;exact⟨rfl,rfl⟩
 |aC _=>simp only[Rel]at r;obtain⟨a,rfl,_⟩:=r;cases f;exact⟨rfl,rfl⟩
 |fn _=>simp only[Rel]at r;obtain⟨a,_,rfl,_⟩:=r;cases f;exact⟨rfl,rfl⟩
theorem QW:bq X (abm .Is) (dB X.kw yT):=by
 intro b0 s σ H x y v u Q I f h q;obtain⟨ι,g,k,i,d,j,G0,b,a,q,p⟩:=q;cases i with
 |ax=>exact M8 b0 s σ H x y v u Q I f h ⟨ι,g,k,.ax,d,j,G0,b,a,q,p⟩
 |bl c =>
  simp only[Rel]at a;subst a;cases h;simp only[yT,isLit,abn]at q;cases q;obtain⟨e,z⟩:=CA (c:=c) b f;refine wpAny_is_plain z ?_;rw[e];exact⟨.bl _,H,I,rfl,p H ι _ Ext.refl G0 (by simp[Rel])⟩
 |_=>cases q
theorem JJ:bq X (abm .IsNot) (dB X.kw uQ):=by
 intro b0 s σ H x y v u Q I f h q;obtain⟨ι,g,k,i,d,j,G0,b,a,q,p⟩:=q;cases i with
 |ax=>exact Jz b0 s σ H x y v u Q I f h ⟨ι,g,k,.ax,d,j,G0,b,a,q,p⟩
 |bl c =>
  simp only[Rel]at a;subst a;cases h;simp only[uQ,isLit,abn]at q;cases q;obtain⟨e,z⟩:=CA (c:=c) b f;refine wpAny_isNot_plain z ?_;rw[e];exact⟨.bl _,H,I,rfl,p H ι _ Ext.refl G0 (by simp[Rel])⟩
 |_=>cases q
end
@[simp] theorem Zg {c a:D}{g:G}:yT c a g=(isLit c a).map λb=>(.bl b,g):=rfl
@[simp] theorem VL {c a:D}{g:G}:uQ c a g=(isLit c a).map λb=>(.bl (!b),g):=rfl
@[simp] theorem S_ {a:D}:isLit a .ax=some (jC a):=rfl
@[simp] theorem Ta {d:D}{c:Bool}:isLit d (.bl c)=some (Az c d):=rfl
@[simp] theorem Yb {b c:Bool}:Az c (.bl b)=(b == c):=rfl
noncomputable def Ix.none (ι:Ix):Ix:=⟨[],ι.ix++ι.hd,ι.kd⟩
noncomputable def Fq:HO->Bool
 |.tup _=>true|.mS _ _=>true|.dK _=>true|.iq _=>true|_=>false
mutual
theorem Rel.toN {K H ι}:∀(d:D) {v:V},bB 0 d=true->Rel K H ι d v->Rel K H (Ix.none ι) d v
 |.ax,v,_,h=>by simpa[Rel]using h|.bl _,v,_,h=>by simpa[Rel]using h|.int _,v,_,h=>by simpa[Rel]using h|.str _,v,_,h=>by simpa[Rel]using h
 |.tup xs,v,z,h=>by
  simp only[Rel]at h ⊢;obtain⟨a,i,e,b,f⟩:=h;refine⟨a,i,e,?_,ag.toN xs z f⟩;rcases b with⟨b,hn⟩|b
  . exact .inl ⟨b,by simp[Ix.none]⟩
  . exact .inr b
 |.lst xs,v,z,h=>by
  simp only[Rel]at h ⊢;obtain⟨a,i,e,b,f⟩:=h;refine⟨a,i,e,?_,ag.toN xs z f⟩;rcases b with⟨b,hn,hh⟩|b
  . exact .inl ⟨b,by simp[Ix.none],λm=>(aao.mp m).elim hn hh⟩
  . exact .inr b
 |.dn,v,_,h=>by simp only[Rel]at h ⊢;obtain⟨a,e,b,f⟩:=h;exact⟨a,e,b,by simp[Ix.none]⟩
 |.ref k,v,z,h=>by simp[bB]at z|.aC k,v,z,h=>by simp[bB]at z|.fn x ds,v,z,h=>by simp only[Rel]at h ⊢;obtain⟨a,i,e,b,f⟩:=h;exact⟨a,i,e,b.mono λc u _ q=>⟨q.1,by simp[Ix.none],λy m=>(aao.mp m).elim q.2.1 (q.2.2 y)⟩,ag.toN ds z f⟩
theorem ag.toN {K H ι}:∀(ds:List D) {vs:List V},aA 0 ds=true->ag K H ι ds vs->ag K H (Ix.none ι) ds vs
 | [],vs,_,h=>by simpa[ag]using h|d::ds,vs,z,h=>by simp only[ag]at h ⊢;simp only[aA,aae]at z;obtain⟨v,a,b,c,e⟩:=h;exact⟨v,a,b,Rel.toN d z.1 c,ag.toN ds z.2 e⟩
end
mutual
theorem Rel.qO {K H ι p}(hh:p.hd=ι.ix++ι.hd)(n:∀a∈ι.ix,∃o,H a=some o/\Fq o=false):∀(d:D) {v:V},bB 0 d=true->Rel K H p d v->Rel K H ι d v
 |.ax,v,_,h=>by simpa[Rel]using h|.bl _,v,_,h=>by simpa[Rel]using h|.int _,v,_,h=>by simpa[Rel]using h|.str _,v,_,h=>by simpa[Rel]using h
 |.tup xs,v,z,h=>by
  simp only[Rel]at h ⊢;obtain⟨a,l,i,b,j⟩:=h;refine⟨a,l,i,?_,ag.qO hh n xs z j⟩;rcases b with⟨b,hn⟩|b
  . refine .inl ⟨b,λm=>?_⟩
    obtain⟨us,e,f⟩:=n a m;rcases b with b|⟨o,b⟩<;>rw[e]at b<;>cases b<;>cases f
  . exact .inr b
 |.lst xs,v,z,h=>by
  simp only[Rel]at h ⊢;obtain⟨a,l,i,b,j⟩:=h;refine⟨a,l,i,?_,ag.qO hh n xs z j⟩;rcases b with⟨b,hn,hk⟩|b
  . rw[hh]at hk
    exact .inl ⟨b,λm=>hk (aao.mpr (.inl m)),λm=>hk (aao.mpr (.inr m))⟩
  . exact .inr b
 |.dn,v,_,h=>by simp only[Rel]at h ⊢;obtain⟨a,i,b,j⟩:=h;refine⟨a,i,b,λm=>?_⟩;obtain⟨us,e,f⟩:=n a m;rw[e]at b;cases b;cases f
 |.ref k,v,z,h=>by simp[bB]at z|.aC k,v,z,h=>by simp[bB]at z
 |.fn x ds,v,z,h=>by
  simp only[Rel]at h ⊢;obtain⟨a,l,i,b,j⟩:=h;exact⟨a,l,i,b.mono λc u y q=>⟨q.1,λm=>(by
    cases he:Sx u with
    |true=>exact q.2.2 he (by rw[hh];exact aew _ m)
    |false =>
     obtain⟨us,e,f⟩:=n c m;rw[q.1]at e;cases e;cases u<;>first| (cases f;done)| (cases he;done)| (cases y;done)),λz m=>q.2.2 z (by rw[hh];exact abf _ m)⟩,ag.qO hh n ds z j⟩
theorem ag.qO {K H ι i}(hh:i.hd=ι.ix++ι.hd)(j:∀a∈ι.ix,∃o,H a=some o/\Fq o=false):∀(ds:List D) {vs:List V},aA 0 ds=true->ag K H i ds vs->ag K H ι ds vs
 | [],vs,_,h=>by simpa[ag]using h|d::ds,vs,z,h=>by simp only[ag]at h ⊢;simp only[aA,aae]at z;obtain⟨v,b,c,e,f⟩:=h;exact⟨v,b,c,Rel.qO hh j d z.1 e,ag.qO hh j ds z.2 f⟩
end
theorem aw.lst {K H ι g}(h:aw K H ι g){a:Addr}(n:a∈ι.ix):∃o,H a=some o/\Fq o=false:=by
 obtain⟨i,c,e⟩:=abR.mp n;have j:i<g.length:=by rw[<- h.len];exact c
 obtain⟨b,o,l,d,k,f,_⟩:=h.at_ i _ (aag j);rw[aag c,e]at d;cases d;generalize ι.kd i=kk at f;exact⟨o,k,by cases f<;>rfl⟩
def gu (fn:Fn):Fn:=λds g=>if aA 0 ds=true then(fn ds []).bind λr=>if bB 0 r.1=true then some (r.1,g)else none else none
theorem iQ {fn:Fn}{ds g d g'}(h:gu fn ds g=some (d,g')):aA 0 ds=true/\(∃gx,fn ds []=some (d,gx))/\bB 0 d=true/\g'=g:=by
 unfold gu at h;split at h
 . rename_i z
   obtain⟨⟨c,g1⟩,b,h⟩:=bind_some h;split at h
   . rename_i a
     cases h;exact⟨z,⟨g1,b⟩,a,rfl⟩
   . cases h
 . cases h
theorem JK {P:aaG}{K:KW}{base:Heap}{k n f A ps}{fn:Fn}(F:dU P K.w K.fr K.mg base gY k f A ps (kL K n fn)):dU P K.w K.fr K.mg base gY k f A ps (kL K n (gu fn)):=
 dU.imp F λl H Q E ⟨y,ι,g,ds,d,g',G0,r,h,p⟩=>by
  obtain⟨z,⟨gx,hx⟩,u,rfl⟩:=iQ h;refine⟨y,Ix.none ι,[],ds,d,gx,⟨acM,rfl,λb x=>⟨by simp[Ix.none],?_⟩,λi xs q=>by simp at q,λq hq=>⟨(G0.tb q hq).1,by simp[Ix.none]⟩⟩,ag.toN ds z r,hx,λj ι' v e G1 rv=>?_⟩
  . rcases aao.mp x with m|m
    . exact G0.kC m
    . exact(G0.ck b m).2
  . have same:∀a∈ι.ix,j a=H a:=λa c=>by
      obtain⟨l,ev,_⟩:=G0.lst c;rw[ev];exact e.same a _ ev (by simp[Ix.none])
    have s:Ext H ι j ι:=⟨λa o q _=>e.same a o q (by simp[Ix.none]),e.there,⟨[],by simp,λ_ q=>by simp at q⟩,rfl,λ_ _=>rfl⟩
    refine p j ι v s (G0.ext s same) (Rel.qO e.ck (λa c=>?_) d u rv);obtain⟨l,ev,f⟩:=G0.lst c;exact⟨l,by rw[same a c];exact ev,f⟩
theorem AA {fn:Fn}{n:Nat}(h:∀ds g r,fn ds g=some r->ds.length=n):∀ds g r,gu fn ds g=some r->ds.length=n:=λds g r q=>by obtain⟨_,⟨gx,a⟩,_⟩:=iQ (d:=r.1) (g':=r.2) q;exact h _ _ _ a
end L3
namespace L3
open L2
def wp {b:Type}(o:Option b)(Q:b->Prop):Prop:=∃a,o=some a/\Q a
section
variable {α β:Type}{o:Option α}{Q R:α->Prop}
@[simp] theorem fZ {a:α}:wp (some a) Q=Q a:=by simp[wp]
@[simp] theorem Yc:wp (none:Option α) Q=False:=by simp[wp]
@[simp] theorem wp_bind {f:α->Option β}{Q:β->Prop}:wp (o.bind f) Q=wp o λa=>wp (f a) Q:=by cases o<;>simp[wp]
@[simp] theorem wp_map {f:α->β}{Q:β->Prop}:wp (o.map f) Q=wp o λa=>Q (f a):=by cases o<;>simp[wp]
theorem wp_mono (h:wp o R)(i:∀a,R a->Q a):wp o Q:=let⟨a,e,r⟩:=h;⟨a,e,i a r⟩
end
@[simp] theorem Zh {o:Option (D×G)}{Q:Bool×G->Prop}:wp (dq o) Q=wp o λr=>∃b,r.1 = .bl b/\Q (b,r.2):=by
 cases o with
 |none=>simp[dq]
 |some r =>
  obtain⟨d,g⟩:=r;cases d with
  |bl b=>cases b<;>simp[dq]|_=>simp[dq]
section
variable {σ:Sg}{g:G}{fa:FE}{fl fh:FO}
@[simp] theorem VM {xs ys:List D}:bI (.tup xs) (.tup ys) g=if az (xs.length+ys.length)=true then some (.tup (xs++ys),g)else none:=rfl
@[simp] theorem VN {xs ys:List D}:bI (.lst xs) (.lst ys) g=if az (xs.length+ys.length)=true then some (.lst (xs++ys),g)else none:=rfl
@[simp] theorem VO {x y:Str}:bI (.str x) (.str y) g=if az (x.length+y.length)=true then some (.str (x++y),g)else none:=rfl
@[simp] theorem Yd:pW σ g=some (none,g):=rfl
@[simp] theorem VP:eB fa σ g=(fa σ g).bind λr=>match r.1 with|.int i=>some (some i,r.2)|_=>none:=rfl
theorem CB {n a:Nat}(h:a<=n):HT.bf n n (some (a:Int))=a:=by rw[HT.yw];omega
theorem j_ {n a:Nat}(h:a<=n):HT.bf n 0 (some (a:Int))=a:=by rw[HT.yw];omega
end
theorem f6 {t:FG}{b:FS}{Q:F×Sg×G->Prop}(I:Nat->Sg->G->Prop):∀(ds:List D) (i:Nat) (σ:Sg) (g:G),I i σ g ->
  (∀(j:Nat) (d:D) σ g,ds[j]? = some d->I (i+j) σ g->wp (t d σ g) λq=>wp (b q.1 q.2) λr=>match r.1 with
   |.nx=>I (i+j+1) r.2.1 r.2.2|.ct=>I (i+j+1) r.2.1 r.2.2|.bk=>Q (.nx,r.2.1,r.2.2)|.rt d=>Q (.rt d,r.2.1,r.2.2))->(∀σ g,I (i+ds.length) σ g->Q (.nx,σ,g))->wp (forL t b ds σ g) Q
 | [],i,σ,g,hi,_,he=>by simp only[forL,fZ];exact he σ g hi
 |d::ds,i,σ,g,hi,hs,he=>by
  simp only[forL,wp_bind];refine wp_mono (hs 0 d σ g rfl hi) λq f=>wp_mono f λr a=>?_;have go:I (i+0+1) r.2.1 r.2.2->wp (forL t b ds r.2.1 r.2.2) Q:=λz =>
   f6 I ds (i+1) _ _ z (λj d σ g e h=>by have q:=hs (j+1) d σ g (by simpa using e) (by rw[show i+(j+1)=i+1+j by omega];exact h);rw[show i+(j+1)+1=i+1+j+1 by omega]at q;exact q) λσ g h=>he σ g (by rw[abT,show i+(ds.length+1)=i+1+ds.length by omega];exact h)
  obtain⟨c,k⟩:=r;cases c with
  |nx=>exact go a|ct=>exact go a|bk=>simp only[fZ];exact a|rt d=>simp only[fZ];exact a
theorem iF {t:FG}{c:FT}{e:FE}{Q:List D×G->Prop}(I:Nat->List D->Sg->G->Prop):∀(ds:List D) (i:Nat) (σ:Sg) (g:G) (acc:List D),I i acc σ g ->
  (∀(j:Nat) (d:D) acc σ g,ds[j]? = some d->I (i+j) acc σ g->wp (t d σ g) λq=>wp (c q.1 q.2) λk=>if k.1=true then wp (e q.1 k.2) λr=>I (i+j+1) (acc ++ [r.1]) q.1 r.2 else I (i+j+1) acc q.1 k.2) ->
  (∀xs σ g,I (i+ds.length) (acc++xs) σ g->Q (xs,g))->wp (cN t c e ds σ g) Q
 | [],i,σ,g,acc,hi,_,he=>by simp only[cN,fZ];exact he [] σ g (by simpa using hi)
 |d::ds,i,σ,g,acc,hi,hs,he=>by
  simp only[cN,wp_bind];refine wp_mono (hs 0 d acc σ g rfl hi) λq l=>wp_mono l λk b=>?_;have go:∀(a:List D) (s:Sg) (h:G) (R:List D×G->Prop),I (i+1) a s h->(∀xs σ g,I (i+1+ds.length) (a++xs) σ g->R (xs,g))->wp (cN t c e ds s h) R:=λa s h R z he =>
    iF I ds (i+1) s h a z (λj d acc σ g e h=>by have q:=hs (j+1) d acc σ g (by simpa using e) (by rw[show i+(j+1)=i+1+j by omega];exact h);rw[show i+(j+1)+1=i+1+j+1 by omega]at q;exact q) he
  have f:i+(d::ds).length=i+1+ds.length:=by rw[abT];omega
  rw[f]at he;by_cases hc:k.1=true
  . rw[if_pos hc]at b ⊢
    simp only[wp_bind];refine wp_mono b λr n=>?_;refine go (acc ++ [r.1]) q.1 r.2 _ n λxs σ g h=>?_;simp only[fZ];exact he (r.1::xs) σ g (by simpa using h)
  . rw[if_neg hc]at b ⊢
    exact go acc q.1 k.2 _ b he
theorem wp_run {j i:Nat}{b:FS}{ds:List D}{g:G}{Q:D×G->Prop}(k:ds.length=i)(h:wp (b (ds.map some++aap (j-i) none) g) λr=>match r.1 with
  |.rt d=>r.2.2.length=g.length/\Q (d,r.2.2)|.nx=>r.2.2.length=g.length/\Q (.ax,r.2.2)|_=>False):wp (ao false j i b ds g) Q:=by
 obtain⟨⟨r,σ,f⟩,e,q⟩:=h;unfold ao;rw[if_pos k,e];cases r with
 |rt d =>
  obtain⟨c,a⟩:=q;dsimp only at c a;refine⟨_,?_,a⟩;simp[settle,c]
 |nx =>
  obtain⟨c,a⟩:=q;dsimp only at c a;refine⟨_,?_,a⟩;simp[settle,c]
 |bk=>exact q.elim|ct=>exact q.elim
theorem JL {f c:Nat}{b:FS}{ds:List D}{g:G}{Q:D×G->Prop}(i:ds.length=c)(h:wp (b (ds.map some++aap (f-c) none) g) λr=>match r.1 with
  |.rt d=>Q (d,r.2.2)|.nx=>Q (.ax,r.2.2)|_=>False):wp (ao true f c b ds g) Q:=by
 obtain⟨⟨r,σ,a⟩,e,q⟩:=h;unfold ao;rw[if_pos i,e];cases r with
 |rt d=>exact⟨_,rfl,q⟩|nx=>exact⟨_,rfl,q⟩|bk=>exact q.elim|ct=>exact q.elim
theorem jL {u s:Nat}{b:FS}{ds:List D}{g:G}{Q:D×G->Prop}(v:ds.length=s)(h:wp (b (ds.map some++aap (u-s) none) g) λr=>match r.1 with
  |.rt d=>bB g.length d=true/\(r.2.2.take g.length).all (aA g.length)=true/\g.length<=r.2.2.length/\Q (d,r.2.2.take g.length)|.nx=>(r.2.2.take g.length).all (aA g.length)=true/\g.length<=r.2.2.length/\Q (.ax,r.2.2.take g.length)|_=>False):wp (ao false u s b ds g) Q:=by
 obtain⟨⟨r,σ,a⟩,e,q⟩:=h;unfold ao;rw[if_pos v,e];have fin:∀d,bB g.length d=true->(a.take g.length).all (aA g.length)=true->g.length<=a.length->Q (d,a.take g.length)->wp (settle g.length d a) Q:=λd l n p f=>by
  by_cases hg:a.length=g.length
  . rw[abj (by omega)]at f
    exact⟨_,by unfold settle;rw[if_pos hg],f⟩
  . refine⟨_,?_,f⟩
    unfold settle;rw[if_neg hg,if_pos n];cases d with
    |ref k =>
     have z:k<g.length:=by simpa[bB]using l
     simp only[if_pos z]
    |_=>simp only[if_pos l]
 cases r with
 |rt d =>
  obtain⟨o,j,c,i⟩:=q;exact fin d o j c i
 |nx =>
  obtain⟨j,c,i⟩:=q;exact fin .ax rfl j c i
 |bk=>exact q.elim|ct=>exact q.elim
end L3
namespace L3
open PyProof.Rows L2
open SeqAt
theorem qP {M:Model}{A:aaL}{E:Value->aac->Prop}{s:aac}{a:Type}(f:Nat->a->Sem (ForInStep a))(I:List Nat->a->aac->Prop)(Q:a->aac->Prop){c d:Nat}{b:a}
  (turn:∀x rest b s,I (x::rest) b s->wpAny M A (f x b) (λr s'=>match r with|.yield b'=>I rest b' s'|.done b'=>Q b' s') E s)
  (fin:∀b s,I [] b s->Q b s) (h:I (ae0 c (d-c)) b s):wpAny M A (forIn [c:d] b f) Q E s:=by
 rw[agK];refine adD f I Q turn fin _ b ?_;simpa[akl]using h
theorem uD (l:Addr)(items:Array Value)(n:Nat)(C:Option Addr)(H:Array (Option Value))(x:Value)(e:Value->Bool)(j:Nat)(I:j<items.size)
  (B:e items[j]=true) (E:∀m (hm:m<items.size),m<j->e items[m]=false):
  Meets (ab5.«tuple.index» ⟨[.ref l,x],[]⟩)
   (λA R s=>s.heap.get? l=some { cls:=.type "tuple",dict:=C,data:=.seq items n,slots:=H }/\(∀y,y∈items->EqAt A.in1 s y x (e y))/\R (.ok (.ret (.int j s.toks))) { s with toks:=s.toks+1 }):=
 .of_wp λprog w A R s h=>by
  obtain⟨v,g,d,q,os⟩:=s;obtain⟨p,he,h⟩:=h
  wp_walk using wpAny_loadPart' p,qP _ (λrest b f=>b.1=none/\f=⟨v,g,d,q,os⟩ /\ ∃i,rest=ae0 i (items.size-i)/\i<=j) _
  case turn =>
   rintro y rest b f ⟨o,rfl,i,a,r⟩;have c:i<items.size:=by omega
   have k:ae0 i (items.size-i)=i::ae0 (i+1) (items.size-(i+1)):=by rw[show items.size-i=(items.size-(i+1))+1 by omega,List.range'_succ]
   rw[k]at a;injection a with h1 h2
   subst h1 h2;have u:items[y]? = some items[y]:=by simp[c]
   rw[u];refine aaa (he _ (afn c) prog w _ _ ?_);by_cases hy:y=j
   . subst hy
     rw[B]
     wp_walk
     exact⟨_,rfl,h⟩
   . rw[E y c (by omega)]
     wp_walk
     exact⟨rfl,rfl,y+1,rfl,by omega⟩
  case fin =>
   rintro⟨z,b2⟩ f ⟨o,rfl,i,a,r⟩;have:(ae0 i (items.size-i)).length=0:=by rw[<- a];rfl
   rw[List.length_range']at this;omega
  case h=>exact⟨rfl,rfl,0,by simp,aaR _⟩
noncomputable def gS:D->Bool
 |.ax=>true|.bl _=>true|.int _=>true|.str _=>true|_=>false
noncomputable def toV:D->V
 |.bl b=>.bl b|.int i=>.int i|.str x=>.str x|_=>.ax
theorem oG {K H ι d v}(h:gS d=true)(r:Rel K H ι d v):v=toV d/\jx v=true:=by
 cases d with
 |ax=>simp only[Rel]at r;subst r;exact⟨rfl,rfl⟩|bl _=>simp only[Rel]at r;subst r;exact⟨rfl,rfl⟩|int _=>simp only[Rel]at r;subst r;exact⟨rfl,rfl⟩|str _=>simp only[Rel]at r;subst r;exact⟨rfl,rfl⟩|_=>cases h
theorem rZ {K H ι d}(h:gS d=true):Rel K H ι d (toV d):=by
 cases d with
 |ax=>simp[Rel,toV]|bl _=>simp[Rel,toV]|int _=>simp[Rel,toV]|str _=>simp[Rel,toV]|_=>cases h
theorem wg {K H ι}:∀{xs:List D} {vs:List V},xs.all gS=true->ag K H ι xs vs->vs=xs.map toV/\vs.all jx=true
 | [],vs,_,r=>by simp only[ag]at r;subst r;exact⟨rfl,rfl⟩|d::xs,vs,h,r=>by simp only[ag]at r;obtain⟨v,f,rfl,b,c⟩:=r;rw[adK,aae]at h;obtain⟨a,f1⟩:=oG h.1 b;obtain⟨e,f2⟩:=wg h.2 c;subst a e;exact⟨rfl,by rw[adK,f1,f2];rfl⟩
theorem wj {K H ι}:∀{xs:List D},xs.all gS=true->ag K H ι xs (xs.map toV)
 | [],_=>by simp[ag]|d::xs,h=>by rw[adK,aae]at h;simp only[aa5,ag];exact⟨_,_,rfl,rZ h.1,wj h.2⟩
theorem QX {a b:D}(d:gS a=true)(c:gS b=true):tH (toV a) (toV b)=aF a b:=by cases a<;>cases b<;>first|rfl| (simp[toV,tH,aF];done)| (simp[gS]at d;done)| (simp[gS]at c;done)
section
variable {X:Cx}
def wk (a b:FE):FE:=λσ g=>(a σ g).bind λr=>(iE r.1 r.2).bind λc=>if c=true then some r else b σ r.2
theorem Nj {a b:Expr}{rest:List Expr}{A:Pos}{C B:FE}(E:DE X a C)(J:DE X (.BoolOp .Or (b::rest) A) B):DE X (.BoolOp .Or (a::b::rest) A) (wk C B):=.of (by
 intro b0 s σ H Q I h;obtain⟨ι,l,g,d,g',G0,q,h,p⟩:=h;obtain⟨⟨r,g1⟩,z,h⟩:=bind_some h;obtain⟨c,h2,h⟩:=bind_some h;have hA:=E.un b0 s σ H (λx H1=>∃e,Ext H ι H1 e/\aw X.kw H1 e g1/\bo X.kw H1 e l σ/\Rel X.kw H1 e r x) I ⟨ι,l,g,r,g1,G0,q,z,λH1 e v f i j=>⟨e,f,i,q.ext f,j⟩⟩;refine BoolOp_or (aY hA λv s1 ⟨x,H1,I1,j,e,f,i,y,o⟩=>?_);have hT:=BJ b0 s1 σ H1 x v (λk u=>k=c/\u=H1) I1 j ⟨c,yI i o h2,rfl,rfl⟩;refine aY hT λk s2 ⟨H2,n,e2,e3⟩=>?_;subst e2 e3;cases k with
 |true =>
  simp only[if_true]at h ⊢;cases h;exact⟨x,_,n,j,p _ e x f i o⟩
 |false =>
  simp only[aaz,if_false]at h ⊢;exact J.un b0 s2 σ _ Q n ⟨e,l,g1,d,g',i,y,h,p.mono f⟩)
end
def wm (K:KW)(d:D)(v:V):Prop:=(gS d=true/\v=toV d) \/
 ∃xs a o au n,d = .tup xs/\xs.all gS=true/\v = .ref a/\K.fr.lookup a=some o/\o.cls = .type "tuple" /\ o.dict=none/\o.data = .seq au n/\au.size<=aax/\Vals (xs.map toV) au.toList
def oH (w:World)(K:KW):List aa3->List (Str×D)->Prop
 | [],bU=>bU = []|e::es,bU=>∃x d rest,bU=(x,d)::rest/\(∃t,e.key = .str x t)/\e.hash=hashStr w x/\(∃v,RelV v e.val/\wm K d v)/\oH w K es rest
structure iR (w:World)(K:KW)(a:Addr)(bU:List (Str×D)):Prop where
 ex:∃o es ep,K.fr.lookup a=some o/\o.ExactDict/\o.data = .dict es ep/\oH w K es.toList bU
 sys:(a == adh)=false
noncomputable def pX (a:List (Str×D))(x:Str):Option D:=(a.find? λp=>decide (p.1=x)).map (·.2)
theorem oH.keys {P:aaG}{w:World}{K:KW}:∀{es:List aa3} {bU:List (Str×D)},oH w K es bU->∀e∈es,∃k,(eJ P w).is k e.key=true/\e.hash=(eJ P w).hash k
 | [],_,_,e,he=>nomatch he
 |e0::es,bU,h,e,he=>by
  obtain⟨x,d,rest,rfl,⟨t,b⟩,c,_,a⟩:=h;rcases aah.mp he with rfl|he
  . exact⟨.inr x,by rw[b];exact oZ P w x t,c⟩
  . exact a.keys e he
theorem Nk {P:aaG}{w:World}{x y:Str}{t:Tok}:(eJ P w).is (.inr x) (.str y t)=decide (y=x):=by
 show aeh x (.str y t)=_;by_cases h:y=x
 . subst h;simp[aeh]
 . simp[aeh,h,aaN h]
theorem oH.find {P:aaG}{w:World}{K:KW}{x:Str}:∀{es:List aa3} {bU:List (Str×D)},oH w K es bU ->
  match pX bU x with
  |some d=>∃u v,(es.find? λe=>(eJ P w).is (.inr x) e.key).map (·.val)=some u/\RelV v u/\wm K d v|none=>(es.find? λe=>(eJ P w).is (.inr x) e.key).map (·.val)=none
 | [],bU,h=>by have c:bU = []:=h;subst c;rfl
 |e0::es,bU,h=>by
  obtain⟨y,d,rest,rfl,⟨t,j⟩,k,⟨v,b,f⟩,i⟩:=h;have ih:=i.find (P:=P) (x:=x);have a:(eJ P w).is (.inr x) e0.key=decide (y=x):=by rw[j];exact Nk
  unfold pX at ih ⊢;rw[ahQ,ahQ];by_cases hy:y=x
  . subst hy
    simp only[decide_true,a];exact⟨_,v,rfl,b,f⟩
  . simp only[hy,decide_false,a]
    exact ih
theorem iR.map {P:aaG}{w:World}{K:KW}{a:Addr}{q:List (Str×D)}(h:iR w K a q){p:Heap}(r:K.fr.In p):∃f,p.MapOf (eJ P w) a f /\ ∀x:Str,match pX q x with
  |some d=>∃u v,f (.inr x)=some u/\RelV v u/\wm K d v|none=>f (.inr x)=none:=by
 obtain⟨o,c,n,j,l,i,b⟩:=h.ex;refine⟨_,⟨o,c,n,r a o j,l,i,λe he=>b.keys e (by simpa using he),λk=>rfl⟩,λx=>?_⟩;have:=b.find (P:=P) (x:=x);unfold findBy;rw[<- Array.find?_toList];exact this
def VQ (K:KW)(a:Addr)(b:List (Str×D)):R2:=λx y H Q=>∃k d,x = .ref a/\y = .str k/\pX b k=some d /\ ∀v,wm K d v->Q v H
section
variable {X:Cx}{a:Addr}{bU:List (Str×D)}
theorem Nl (hD:iR X.w X.kw a bU):mT X (VQ X.kw a bU):=by
 intro value slice b0 s σ H x y v u Q I l p h o;obtain⟨k,d,rfl,rfl,hd,q⟩:=h;cases l;obtain⟨f,hm,hf⟩:=hD.map (P:=X.prog) I.gq;have e:=hf k;rw[hd]at e;obtain⟨c,b,i,z,j⟩:=e;obtain⟨t,rfl⟩:=p;exact adk (x:=c) hm.typeIs aec.lookup
  (wpAny_getItem_of (k:=(.inr k:Key)) (Q:=λr n=>r=c/\EP X b0 σ Q r n) (oZ X.prog X.w k t) hm i ⟨rfl,b,H,I.tok _,z,q b j⟩) o
def AB (xs:List D)(d:D):Option Nat:=xs.findIdx? λy=>aF y d
def AD (bU:List (Str×D))(c b:FE):FE:=λσ g=>(c σ g).bind λr=>match r.1 with
 |.str x=>match pX bU x with
  |some (.tup xs)=>(b σ r.2).bind λq=>if(gS q.1&&xs.all gS)=true then(AB xs q.1).map λj=>(.int j,q.2)else none|_=>none
 |_=>none
def QY (K:KW):V->List V->Hp->VK->Prop:=λx a H Q=>∃xs y j,wm K (.tup xs) x/\a = [toV y]/\gS y=true/\xs.all gS=true/\AB xs y=some j/\Q (.int j) H
theorem CC:LZ X "tuple.index" (QY X.kw):=by
 intro b0 s σ H x vs v us Q I rx rv h;obtain⟨xs,y,j,f,rfl,c,e,d,q⟩:=h;rcases f with⟨f,_⟩|⟨yU,a,o,au,n,e0,qw,rfl,h1,h2,h3,h4,h5,h6⟩
 . cases f
 cases e0;cases rx;obtain⟨u,rfl,ru⟩:=rv.one;have l:=I.gq a o h1;obtain⟨cls,dd,data,sl⟩:=o;simp only at h2 h3 h4;subst h2 h3 h4;have fy:jx (toV y)=true:=(oG c (rZ (K:=X.kw) (H:=H) (ι:=⟨[],[],λ_=>0⟩) c)).2;have fx:(xs.map toV).all jx=true:=(wg e (wj (K:=X.kw) (H:=H) (ι:=⟨[],[],λ_=>0⟩) e)).2;unfold AB at d;rw[aef]at d;obtain⟨bM,hit,BP⟩:=d;have hlen:(xs.map toV).length=au.toList.length:=h6.length;rw[aaI]at hlen;have r:j<au.size:=by rw[<- adQ];omega
 have item:∀m (hm:m<xs.length) (p:m<au.size),GV (toV y) au[m]=aF xs[m] y:=λm hm p=>by obtain⟨u',k,r'⟩:=h6.get (i:=m) (x:=toV xs[m]) (by rw[aaP,aag hm];rfl);rw[aet,aa1 p]at k;cases k;have b:gS xs[m]=true:=abS.mp e _ (abc hm);rw[BR r' (oG b (rZ (K:=X.kw) (H:=H) (ι:=⟨[],[],λ_=>0⟩) b)).2,QX b c]
 refine acX F.slot_tuple_index ⟨_,l,rfl⟩ F.entry_tuple_index (F.args_tuple_index_2 _ _) (uD a au n none sl u (GV (toV y)) j r (by rw[item j bM r];exact hit) (λm hm Zi=>by
   have vI:m<xs.length:=by omega
   rw[item m vI hm];simpa using BP m Zi)) ⟨l,λz hz=>vx ru fy h6 fx z (by simpa using hz),?_⟩
 exact⟨.int j,H,I.tok _,⟨_,rfl⟩,q⟩
theorem JM {C:Str}{p A B E:Pos}{e x:Expr}{I J:FE}(hD:iR X.w X.kw a bU)(U:X.mg C=some (.ref a))(R:DE X e I)(L:DE X x J)(O:Gl X C)(S:oB e)(T:(C == ("__debug__":Str))=false)
  (P:aek (.Subscript (.Name C p) e A) "index" X.env (eval (.Subscript (.Name C p) e A) X.env)=eval (.Subscript (.Name C p) e A) X.env)
  (N:((acm E (aay [x] X.env)).all (λx=>!x.1)&&(backToKw E (ahp [] X.env)).all (λx=>x.1.isSome)
   && decide ([x].length+([]:List aeT).length+(if([]:List aeT).isEmpty then 0 else 1)<30))=true)
  (M:(B.endLine == E.line)=true) (K:aay [x] X.env=(false,eval x X.env)::aay [] X.env):
  DE X (.Call (.Attribute (.Subscript (.Name C p) e A) "index" B) [x] [] E) (AD bU I J):=.of (
 PE.imp (QD PySem.F.plainAttrs_tuple PySem.F.slot_tuple_index PySem.F.type_tuple_index CC (GU (Nl hD) (rP (v:=.ref a) O U rfl T) R.un S) (fV L.un jS K) P N M K (by rfl)) λσ H Q h=>by
  obtain⟨ι,σd,g,d,g',G0,S0,h,p⟩:=h;obtain⟨⟨d1,g1⟩,q,h⟩:=bind_some h;refine tD.bind G0 S0 q λH1 ι1 v i G1 l c=>?_;cases d1 with
  |str k =>
   simp only[Rel]at c;subst c;dsimp only at h;cases hk:pX bU k with
   |none=>rw[hk]at h;cases h
   |some d2 =>
    rw[hk]at h;cases d2 with
    |tup xs =>
     dsimp only at h;obtain⟨⟨f,g3⟩,y,h⟩:=bind_some h;refine⟨k,_,rfl,rfl,hk,λv b=>⟨?_,?_⟩⟩
     . rcases b with⟨b,_⟩|⟨yU,a',o,au,n,e0,qw,rfl,q1,q2,q3,q4,q5,q6⟩
       . cases b
       . exact .inr (.inl ⟨rfl,o,q1,q2,q3⟩)
     . refine tD.bind G1 l y λH2 ι2 u r s S2 r2=>?_
       dsimp only at h;split at h
       . rename_i z
         rw[aae]at z;cases hj:AB xs f with
         |none=>rw[hj]at h;cases h
         |some j =>
          rw[hj]at h;cases h;refine⟨xs,f,j,b,by rw[(oG z.1 r2).1],z.1,z.2,hj,p H2 ι2 _ (i.trans r) s (by simp[Rel])⟩
       . cases h
    |_=>cases h
  |_=>cases h)
end
end L3
namespace L3
open PyProof.Rows L2
theorem wo (l:Addr)(items:Array Value)(n:Nat)(b:Addr)(o:Array Value)(q:Nat)(u:Array (Option Value))(v:¬(!items.isEmpty&&acf (items.size+o.size))=true)(p:items.size<=aax)(r:items.size+o.size<=aax+1):
  Meets (ab5.«list.extend» ⟨[.ref l,.ref b],[]⟩) (λ_ R s=>s.heap.get? l=some { cls:=.type "list",dict:=none,data:=.seq items n,slots:=#[] }/\s.heap.get? b=some { cls:=.type "list",dict:=none,data:=.seq o q,slots:=u }/\R (.ok (.ret acg)) { s with heap:=s.heap.update l (acW λx=>x++o),toks:=s.toks }):=
 .of_wp λprog w A R s h=>by
  obtain⟨k,g,d,j,os⟩:=s;obtain⟨a,e,h⟩:=h;have f1:=ac7;have f2:=acE;have f:=aeg;have f4:=afT;have i:=afU;have c:(items++o).size<=aax+1:=by rw[Array.size_append];exact r
  wp_walk using (af1 a rfl (hz:=p) (_hz':=c)),wpAny_loadPart' a,wpAny_loadPart' e
  exact⟨_,rfl,h⟩
section
variable {X:Cx}
def Fs (K:KW):V->List V->Hp->VK->Prop:=λx a H Q=>∃l b xs zs,x = .ref l/\a = [.ref b]/\H l=some (.lst xs)/\cS K H b zs/\xs.length+zs.length<=aax/\Q .ax (upd H l (.lst (xs++zs)))
theorem AE:Sm X "list.extend" (Fs X.kw):=by
 intro b0 s σ H x vs v us Q I rx rv h;obtain⟨l,b,xs,zs,rfl,rfl,d,hB,hz,q⟩:=h;cases rx;obtain⟨u,rfl,y⟩:=rv.one;cases y;obtain⟨z,a,n,r,hl,e⟩:=I.Mc d;obtain⟨c,f,k,_⟩:=I.list hB;obtain⟨⟨EO,tG,data2,p⟩,n2,o,j,i,hd2⟩:=id k;simp only at j hd2 i;subst j hd2 i;have Mp:=f.length;have ir:a.toArray.size+c.toArray.size<=aax:=by rw[aar,aar];omega
 have AF:¬(!a.toArray.isEmpty&&acf (a.toArray.size+c.toArray.size))=true:=by rw[vB ir,agk];exact abK
 refine acX F.slot_list_extend ⟨_,e,rfl⟩ F.entry_list_extend (F.args_list_extend_2 _ _)
  (wo l a.toArray n b c.toArray n2 p AF (by rw[aar];omega) (by omega)) ⟨e,o,?_⟩
 refine⟨.ax,_,I.Mb (its':=a++c) d e (by simp) (r.append f) ?_,rfl,q⟩;rw[aai];omega
variable {o x:Expr}{fo fx:FE}{apos cM:Pos}
end
section
variable {X:Cx}
noncomputable def pY (i j:Nat)(fr:FA):FS:=λσ g=>(fr σ g).bind λr=>match r.1 with
 | [a,b]=>some (.nx,(σ.set i (some a)).set j (some b),r.2)|_=>none
theorem Nm {i j:Nat}{x y:Str}{a b:Expr}{fr:FA}{px B pt A:Pos}{kt k2 pt2}(E:X.calm=true)(K:X.N.Nodup)(C:X.N[i]? = some x)(L:X.N[j]? = some y)(M:i≠j)
  (I:X.env.scope.names.lookup x=some .local) (J:X.env.scope.names.lookup y=some .local) (O:DA X [a,b] fr)
  (hw:adf [.Tuple [.Name x px,.Name y B] kt pt] (.Tuple [a,b] k2 pt2) X.env=pure (some [x,y]))
  (P:adH [.Tuple [.Name x px,.Name y B] kt pt] (.Tuple [a,b] k2 pt2) A.line X.env=pure false):
  DS X (.Assign [.Tuple [.Name x px,.Name y B] kt pt] (.Tuple [a,b] k2 pt2) A) (pY i j fr):=.of (
 PS.imp (Lu E K C L M I J O.un hw P) λDn σ H h=>by
  obtain⟨ι,σd,g,r,bC,s,G0,q,h,p⟩:=h;obtain⟨⟨ds,g1⟩,f,h⟩:=bind_some h;refine iZ.bind G0 q f λH1 k z d n e c=>?_;dsimp only at h;split at h
  . rename_i a b
    cases h;simp only[ag]at c;obtain⟨v,vr,rfl,o,u,ur,rfl,l,rfl⟩:=c;exact⟨v,u,rfl,p H1 k d n _ ((e.set o i).set l j)⟩
  . cases h)
end
theorem uE {prog:aaG}{w:World}{A:aaL}{E:Value->aac->Prop}{s:aac}{l a:Addr}{i:Nat}{items:Array Value}{x:Value}{Q:Value->aac->Prop}(k:s.heap.IsTupleIter l a i)(q:s.heap.IsTuple a items)(n:items[i]? = some x)
  (p:∀h',h'.IsTupleIter l a (i+1)->acN l s.heap h'->Q x { s with heap:=h' }):wpAny (model prog w) A (aa9 (.ref l)) Q E s:=by
 obtain⟨o,c,e,b⟩:=id k;obtain⟨j,d,_,h,f⟩:=q;unfold aa9;refine aaa (abh (name:=aaD "__next__") k.typeIs F.slot_tuple_iterator_next (aa6 F.slot_tuple_iterator_next k.typeIs F.entry_tuple_iterator_next ?_ (F.args_tuple_iterator_next_1 _)));change wpAny _ _ (field (.ref l) 0 >>= λ_=>_) _ _ _;refine aaa (ab1 c b (x:=.ref a) rfl ?_);change wpAny _ _ (if(acZ a == acg)=true then _ else _) _ _ _;rw[if_neg (by exact abK)];change wpAny _ _ (field (.ref l) 1 >>= λ_=>_) _ _ _;refine aaa (ab1 c b (x:=.int i 0) rfl ?_);change wpAny _ _ (seqItems? (.ref a) >>= λ_=>_) _ _ _;refine aaa (acj d f ?_);simp only[abi,n];refine aaa (ad4 c b (by simp) ?_);refine aad ⟨x,rfl,aad (p _ ⟨_,abO _ c (Obj.isFreed_of_fields (ag0 b _)),(Obj.cls_mapFields ..).trans e,?_⟩ (acb ..))⟩;rw[ag0 b];simp[ac3]
theorem wq {prog:aaG}{w:World}{A:aaL}{E:Value->aac->Prop}{s:aac}{n a:Addr}{i:Nat}{items:Array Value}{Q:Value->aac->Prop}(hh:A.handled=none)(l:s.heap.IsTupleIter n a i)(r:s.heap.IsTuple a items)(q:items[i]? = none)
  (p:∀h' e,aeZ n s.heap h'->(∃o,h'.get? e=some o/\o.cls = .type "StopIteration")->E (.ref e) { s with heap:=h' }):wpAny (model prog w) A (aa9 (.ref n)) Q E s:=by
 obtain⟨o,b,j,c⟩:=id l;obtain⟨k,d,_,h,f⟩:=r;unfold aa9;refine aaa (abh (name:=aaD "__next__") l.typeIs F.slot_tuple_iterator_next (aa6 F.slot_tuple_iterator_next l.typeIs F.entry_tuple_iterator_next ?_ (F.args_tuple_iterator_next_1 _)));change wpAny _ _ (field (.ref n) 0 >>= λ_=>_) _ _ _;refine aaa (ab1 b c (x:=.ref a) rfl ?_);change wpAny _ _ (if(acZ a == acg)=true then _ else _) _ _ _;rw[if_neg (by exact abK)];change wpAny _ _ (field (.ref n) 1 >>= λ_=>_) _ _ _;refine aaa (ab1 b c (x:=.int i 0) rfl ?_);change wpAny _ _ (seqItems? (.ref a) >>= λ_=>_) _ _ _;refine aaa (acj d f ?_);simp only[abi,q];refine aaa (ab8 (aaa (ad4 b c (by simp) ?_)));change wpAny _ _ (newExc (.type "StopIteration") [] >>= λ_=>_) _ _ _;refine aaa ?_;simp only[newExc,newTuple];refine aaa (abH ?_ (by size_fits));refine aaa (m:=aeV _ _) (ahq (a:=acg) (by first|rfl| (simp only[aeV];rfl)) ?_);refine abH ?_ (by size_fits);simp only[raiseNew];refine aaa (wpAny_handled ?_);rw[show A.in1.handled=none from hh];exact aaa (aad (wpAny_throw (p _ _ (((acb ..).extBut.push _).push _) ⟨_,aaq _ rfl,rfl⟩)))
theorem r6 {X:Cx}{b0:List (Addr×Obj)}{σ:L2.St}{H:Hp}{s:aac}{h':Heap}{t':Nat}{ch:List Addr}(I:L2.Inv X b0 σ H s)(k:∀b o,b ∉ ch->s.heap.get? b=some o->h'.get? b=some o)(x:∀b∈ch,fK X b0 H b):
   L2.Inv X b0 σ H { s with heap:=h',toks:=t' }:=by
 have d:∀b u,H b=some u->b ∉ ch:=λb u e z=>by rw[(x b z).1]at e;cases e
 refine I.step (g':=s.gens) (d':=s.drawn) (ch:=ch) (λb i=>?_) (λb o _ _ a e _=>k b o a e) (λb o _ _ a e _=>⟨o.slots,k b o a e⟩) (λ_ _ _ _ n=>n)
   (λb o a e=>⟨o,k b o a e⟩) (λ_ _ e=>e) (λ_ _ _ e=>e) (λ_ _ _ e=>e) (λm hm=>?_) (λb u e=>?_) I.bare
 . obtain⟨f0,f1,f2,j,f4,l⟩:=x b i
   exact⟨j,f1,f4,l⟩
 . obtain⟨o,h,f,p,r⟩:=hm
   exact⟨o,h,f,k _ o (λz=>(x _ z).2.1 rfl) p,r⟩
 . refine(I.aU b u e).cu (λc v a q=>k c v ?_ q) (λ_ q=>q) (λ_ _ q=>q) λ_ _ q=>q
   rcases a with z|z
   . rw[z];exact d b u e
   . exact d c _ z
theorem AG {prog:aaG}{w:World}{A:aaL}(hh:A.handled=none)(k a:Addr)(items:Array Value)(n:Nat)(l:items.size<=n):
  Draws prog w A k [k,a] n (λ_ _=>True) (λj h=>j=n/\h.IsListIter k a n/\h.IsList a items) where
 live:=λ_ _ st=>let⟨o,ho,_⟩:=st.2.1;⟨o,ho⟩
 frame:=λ_ _ _ st b=>⟨st.1,st.2.1.at λo e=>b k (by simp) o e,st.2.2.at λo e=>b a (by simp) o e⟩
 item:=λi s Q E c st f=>absurd st.1 (aaH c)
 done:=λs Q E st d=>agl hh st.2.1 st.2.2 (by simp;exact l) d
noncomputable def Nq (K:aat)(a:Addr):It :=
 ⟨λi H=>∃xs x,cS K H a xs/\xs[i]? = some x,λi H x b=>∃T v,x = .ref T/\H T=none/\b=upd H T (.tup [.int i,v]) /\ ∀xs,cS K H a xs->xs[i]? = some v,λi H=>∃xs,cS K H a xs/\xs.length<=i⟩
theorem AH {P:aaG}{w:World}{K:aat}{B:List Expr}{kt:Nat}{J:Pos}(a e it:Addr)(C:e≠it):Turn P w K (.Tuple B kt J) (Nq K a) [e,it] e (λi h=>(∃old,IsEnum h e it i old)/\h.IsListIter it a i) where
 mem:=by simp
 obj:=λi h st b c=>by
  obtain⟨⟨old,j⟩,o,d,h3,h4⟩:=st;rcases aah.mp c with rfl|c
  . exact⟨_,j,λv z=>by cases z⟩
  . have gI:b=it:=by simpa using c
    subst gI;exact⟨o,d,λv z=>by rw[h4]at z;cases z⟩
 keep:=λi h n st k=>by obtain⟨⟨old,j⟩,d⟩:=st;exact⟨⟨old,k e (by simp) _ j⟩,d.at λo q=>k it (by simp) o q⟩
 item:=by
  intro X hP hw hK hc i b0 s σ H E I hf st hg;subst hP hw hK;obtain⟨⟨old,j⟩,d⟩:=st;obtain⟨xs,x,hq,hx⟩:=hg;obtain⟨y,rv,p,hz⟩:=I.list hq;obtain⟨u,hu,ru⟩:=rv.get hx;have ai:a≠it:=λz=>by obtain⟨o,l,r,_⟩:=p.isList;obtain⟨o',q3,q4,_⟩:=d;rw[z,q3]at l;cases l;rw[q4]at r;exact absurd r (by decide)
  have ae:e≠a:=λz=>by obtain⟨o,l,r,_⟩:=p.isList;rw[<- z,j]at l;cases l;exact absurd (show abg "enumerate" = abg "list" from r) (by decide)
  have hi:i<y.toArray.size:=by have:=(aab.mp hu).1;simpa using this
  refine wpAny_pyNext_enum_itemD (Draws.list (A:=X.A.in1) (I.ok.hd hc) it a ai y.toArray) j ⟨d,p.isList⟩ hi C (by simp[C,ae]) λx' n tk hP VR da hT ir hk=>?_;have ex:x'=u:=by
    have q:y.toArray[i]? = some x':=hP;have q':y[i]? = some x':=by simpa using q
    rw[hu]at q';exact(aa_ q').symm
  subst ex;refine⟨_,rfl,wpAny_letOwnedTupleGo_enum VR λvW Hu Nt=>?_⟩;have I1:L2.Inv X b0 σ (upd H s.heap.objs.size (.tup [.int i,x])) { s with heap:=s.heap.push { cls:=.type "tuple",data:=.seq #[.int i tk,x'] } }:=
    I.laid (t':=s.toks) (o:=.tup [.int i,x]) (λb o q=>aaf _ q) (aal _) (show dj X.prog X.w _ _ _ (.tup [.int i,x]) from⟨by show 2<=aax;decide,[.int i tk,x'],.cons ⟨tk,rfl⟩ (.cons ru .nil),fJ.new _ _⟩)
  have eT:e≠s.heap.objs.size:=aaH (aas j);have iT:it≠s.heap.objs.size:=by obtain⟨o',q3,_⟩:=d;exact aaH (aas q3)
  have I2:L2.Inv X b0 σ (upd H s.heap.objs.size (.tup [.int i,x])) { s with heap:=vW,toks:=tk+1 }:=r6 (s:={ s with heap:=s.heap.push { cls:=.type "tuple",data:=.seq #[.int i tk,x'] } }) (ch:=[e,it]) I1 (λb o c q=>by
    simp only[aah,ac8,or_false,not_or]at c;have h3:n.get? b=some o:=by
      by_cases Tb:b=s.heap.objs.size
      . subst Tb
        have:(s.heap.push { cls:=.type "tuple",data:=.seq #[.int i tk,x'] }).get? s.heap.objs.size=some o:=q;rw[aaq _ rfl]at this;rw[<- this];exact hT
      . exact hk b o c.1 c.2 ((ahh s.heap b _ Tb).symm.trans q)
    exact(Nt.2 b c.1).trans h3) (λb c=>by
      obtain⟨f0,f1,f2,f3,f4,f5⟩:=hf b c;refine⟨?_,f1,f2,f3,f4,f5⟩;rcases aah.mp c with rfl|c
      . rw[aB eT];exact f0
      . have gI:b=it:=by simpa using c
        subst gI;rw[aB iT];exact f0)
  refine⟨.ref s.heap.objs.size,_,I2,rfl,⟨_,x,rfl,I.fresh,rfl,λys hy=>by rw[I.lZ hy hq];exact hx⟩,⟨⟨_,by simpa using Hu⟩,?_⟩,λb c=>?_⟩
  . exact da.1.at λo q=>(Nt.2 it (aaN C)).trans q
  . rcases aah.mp c with rfl|c
    . rw[aB eT];exact(hf _ (by simp)).1
    . have gI:b=it:=by simpa using c
      subst gI;rw[aB iT];exact(hf _ (by simp)).1
 done:=by
  intro X hP hw hK hc i b0 s σ H E I hf st hg;subst hP hw hK;obtain⟨⟨old,j⟩,d⟩:=st;obtain⟨xs,hq,hx⟩:=hg;obtain⟨y,rv,p,hz⟩:=I.list hq;have ai:a≠it:=λz=>by obtain⟨o,l,r,_⟩:=p.isList;obtain⟨o',q3,q4,_⟩:=d;rw[z,q3]at l;cases l;rw[q4]at r;exact absurd r (by decide)
  have f:=hf it (by simp);have fin:∀n,aeZ it s.heap n->L2.Inv X b0 σ H { s with heap:=n }:=λn eb=>I.turned (t':=s.toks) (λb o c q=>eb b o c q) f.1 f.2.1 f.2.2.2.1 f.2.2.2.2.1 f.2.2.2.2.2;have hl:=rv.length;exact wpAny_pyNext_enum_endD (AG (A:=X.A.in1) (I.ok.hd hc) it a y.toArray i (by simp;omega)) j ⟨rfl,d,p.isList⟩ λn eb=>⟨rfl,fin n eb⟩
 self:=λ_ _ _ _ _ st h=>wpAny_pyIter_enum st.1.choose_spec h
noncomputable def oI (xs:List D):List D:=xs.zipIdx.map λp=>.tup [.int (p.2:Nat),p.1]
def CD (f:FE):FI:=λσ g=>(f σ g).bind λr=>match r.1 with|.lst xs=>some (oI xs,r.2)|_=>none
theorem mi.QZ {K H ι a vs ds}(p:mW K H ι a vs)(q:ag K H ι ds vs):mi K (Nq K a) H ι (oI ds):=λi H1 n g1 b f =>
 ⟨λj=>⟨vs,(p.dW b).sq,by rw[<- q.length];simpa[oI]using j⟩,λd hd=>by
  unfold oI at hd;rw[aaP,List.getElem?_zipIdx]at hd;cases hx:ds[i]? with
  |none=>rw[hx]at hd;cases hd
  |some d0 =>
   rw[hx]at hd;simp only[abn,acT,aaY]at hd;subst hd;obtain⟨v,e,k⟩:=(ag.dW b _ q).get hx;refine⟨⟨vs,v,(p.dW b).sq,e⟩,λx o y=>?_⟩;obtain⟨T,l,rfl,c,rfl,h⟩:=y;have:=h vs (p.dW b).sq;rw[e]at this;cases this;refine⟨Ext.lay c,f.lay c,?_⟩;simp only[Rel];refine⟨T,_,rfl,.inl ⟨.inl aR,f.fresh c⟩,?_⟩;simp only[ag,Rel];exact⟨_,_,rfl,rfl,_,_,rfl,Rel.ext (Ext.lay c) _ k,rfl⟩⟩
theorem Ft {X:Cx}{l:Expr}{E:FE}{p B K:Pos}{A:List Expr}{kt:Nat}(J:Gl X "enumerate")(M:X.mg "enumerate" = none)(L:DE X l E)
  (C:aay [l] X.env = [(false,eval l X.env)]):DI X (.Tuple A kt K) (.Call (.Name "enumerate" p) [l] [] B) (CD E):=.of (by
 intro b0 s σ H R I h;obtain⟨ι,σd,g,ds,g',G0,S0,h,q⟩:=h;obtain⟨⟨d1,g1⟩,x,h⟩:=bind_some h;cases d1 with
 |lst xs =>
  cases h;refine Call_ (gX I J M PyProof.Rows.boot_enumerate (ab2 (aY ((fV L.un jS C) B b0 s σ H (λj H1=>∃v c,j = [v]/\Ext H ι H1 c/\aw X.kw H1 c g1/\Rel X.kw H1 c (.lst xs) v) I ?_) λus s1 ⟨j,H1,d,f,v,c,e0,e,k,o⟩=>?_) C rfl) (by decide) (by decide))
  . exact⟨ι,σd,g,_,g1,G0,S0,x,λH1 c v e k f=>⟨v,c,rfl,e,k,f⟩⟩
  . subst e0
    obtain⟨u,rfl,y⟩:=vals1 f;simp only[Rel]at o;obtain⟨a,j,rfl,r,hr⟩:=o;cases y;obtain⟨au,rv,pt,hz⟩:=d.list r.sq;refine call_enumerate_list pt.isList λh' n z _ hk=>?_;refine wpAny_pyIter_enum n ?_;have eL:s1.heap.objs.size+1≠s1.heap.objs.size:=ahB _;refine⟨s1.heap.objs.size+1,[s1.heap.objs.size+1,s1.heap.objs.size],_,_,H1,rfl,d.kept (t':=s1.toks) hk,AH a _ _ eL,⟨⟨_,n⟩,z⟩,λb i=>?_,q H1 c _ e k (.QZ r hr)⟩;rcases aah.mp i with rfl|i
    . exact d.nu (agb _) (d.aU.fresh (agb _))
    . have gI:b=s1.heap.objs.size:=by simpa using i
      subst gI;exact d.nu (aal _) (d.aU.fresh (aal _))
 |_=>cases h)
def uR (f:FE):FI:=λσ g=>(f σ g).bind λr=>match r.1 with|.lst xs=>some (oI xs,r.2)|_=>none
theorem JN {X:Cx}{l:Expr}{k:FE}{p j r:Pos}{i:List Expr}{kt:Nat}(n:Gl X "enumerate")(v:X.mg "enumerate" = none)(u:DE X l k)
  (o:aay [l] X.env = [(false,eval l X.env)]):DI X (.Tuple i kt r) (.Call (.Name "enumerate" p) [l] [] j) (uR k):=.of (by
 intro b0 s σ H R I h;obtain⟨ι,e,g,ds,c,G0,d,h,q⟩:=h;obtain⟨⟨f,g1⟩,b,a⟩:=bind_some h;cases f with
 |lst xs=>exact(Ft n v u o).un b0 s σ H R I ⟨ι,e,g,ds,c,G0,d,by unfold CD;rw[b];exact a,q⟩|_=>cases a)
@[simp] theorem wt {a:FE}{σ:Sg}{g:G}:uR a σ g=(a σ g).bind λr=>match r.1 with|.lst xs=>some (oI xs,r.2)|_=>none:=rfl
noncomputable def pZ (i:Nat)(o:Int->Int->Int)(c:FE):FS:=λσ g=>match σ[i]? with
 |some (some (.int a))=>(c σ g).bind λr=>match r.1 with
  |.int b=>some (.nx,σ.set i (some (.int (o a b))),r.2)|_=>none
 |_=>none
section
variable {X:Cx}
theorem CG {i:Nat}{x:Str}{e:Expr}{C:FE}{op:adT}{o:Int->Int->Int}{A B:Pos}(L:X.N.Nodup)(E:X.N[i]? = some x)(M:Loc X.env.scope x)(I:GO X op (Lw o))(J:DE X e C)
  (K:X.fn x=true\/X.env.scope.names.lookup x=some .local):DS X (.AugAssign (.Name x A) op e B) (pZ i o C):=.of (
 PS.imp (Lv L E M J.un I K) λDn σ H h=>by
  obtain⟨ι,σd,g,r,bC,g',G0,f,h,p⟩:=h;unfold pZ at h;split at h
  . rename_i a k
    obtain⟨⟨d1,g1⟩,q,h⟩:=bind_some h;obtain⟨v,s,j⟩:=f.2 i _ k;simp only[Rel]at j;subst j;refine⟨.int a,s,?_⟩;refine tD.bind G0 f q λH1 y u l z n c=>?_;cases d1 with
    |int b =>
     cases h;simp only[Rel]at c;subst c;exact⟨a,b,rfl,rfl,p H1 y l z _ (n.set (d:=.int (o a b)) (by simp[Rel]) i)⟩
    |_=>cases h
  . cases h)
end
section
variable {σ:Sg}{g:G}{fa fb fo fx:FE}{fr:FA}
@[simp] theorem Ye {i:Nat}{o:Int->Int->Int}:pZ i o fa σ g=(match σ[i]? with
 |some (some (.int a))=>(fa σ g).bind λr=>match r.1 with
  |.int b=>some (.nx,σ.set i (some (.int (o a b))),r.2)|_=>none
 |_=>none):=rfl
@[simp] theorem Yf {i j:Nat}:pY i j fr σ g=(fr σ g).bind λr=>match r.1 with
 | [a,b]=>some (.nx,(σ.set i (some a)).set j (some b),r.2)|_=>none:=rfl
end
section
variable {X:Cx}{a:Addr}{bU:List (Str×D)}
end
section
variable {σ:Sg}{g:G}{fa fb:FE}
@[simp] theorem Yg:wk fa fb σ g=(fa σ g).bind λr=>(iE r.1 r.2).bind λc=>if c=true then some r else fb σ r.2:=rfl
@[simp] theorem Q0:iE .ax g=some false:=rfl
@[simp] theorem Q1 {xs:List D}:iE (.tup xs) g=some (!xs.isEmpty):=rfl
@[simp] theorem Q2 {xs:List D}:iE (.lst xs) g=some (!xs.isEmpty):=rfl
end
structure ZA (z ti tu j1 j2 a1 a2:Addr):Prop where
 n1:ti≠z
 n2:tu≠z
 n3:j1≠z
 n4:j2≠z
 n5:ti≠tu
 n6:tu≠j1
 n7:tu≠j2
 n8:j1≠j2
 n9:ti≠j1
 Hv:ti≠j2
 m1:a1≠z/\a1≠tu/\a1≠j1/\a1≠j2
 m2:a2≠z/\a2≠tu/\a2≠j1/\a2≠j2
def cu (cs:List Addr)(h h':Heap):Prop:=∀c o,c ∉ cs->h.get? c=some o->h'.get? c=some o
theorem cu.tr {cs h d h2}(a:cu cs h d)(b:cu cs d h2):cu cs h h2:=λc o n e=>b c o n (a c o n e)
theorem cu.of {cs h h1 c}(a:acN c h h1)(m:c∈cs):cu cs h h1:=λb o n e=>(a.2 b λz=>n (z ▸ m)).trans e
theorem Q3 {X:Cx}{b0:List (Addr×Obj)}{σ:L2.St}{H:Hp}{s:aac}{a c:Addr}{xs:List V}(I:L2.Inv X b0 σ H s)(f:fK X b0 H c)(h:eS X.kw H a xs):a≠c:=λz=>by
 subst z;obtain⟨f0,f1,f2,d,f4,e⟩:=f;rcases h with h|⟨o,au,n,hk,_⟩
 . rcases h with h|⟨o,h⟩<;>rw[f0]at h<;>cases h
 . have b:X.base.get? a=some o:=I.ok.mod.qr a o hk
   rcases d with q|q
   . exact I.ok.pP a o b q
   . exact abY _ (aaM (aas (I.ok.bs a o b).1) q)
noncomputable def kf (xs ys:List D):List D:=(xs.zip ys).map λp=>.tup [p.1,p.2]
section
variable {X:Cx}
section
open SeqAt
variable {b0:List (Addr×Obj)}{σ:L2.St}{H:Hp}{s:aac}{ι:Ix}
theorem Nu (I:Inv X b0 σ H s):∀(d1 d2:D) {A:aaL} {x y:V} {u v:Value},flat d1=true->flat d2=true->Rel X.kw H ι d1 x->Rel X.kw H ι d2 y->RelV x u->RelV y v->A.units+dep d1<cLine->RcNeAt A s u v (!aF d1 d2)
 |.ax,d2,A,x,y,u,v,_,f2,r1,r2,ru,rv,hu=>by
  simp only[Rel]at r1;subst r1;cases ru;cases d2 with
  |ax=>simp only[Rel]at r2;subst r2;cases rv;exact .none_none|bl b=>simp only[Rel]at r2;subst r2;cases rv;exact .none_bool b|int b=>simp only[Rel]at r2;subst r2;obtain⟨t,rfl⟩:=rv;exact .none_int b t
  |str b=>simp only[Rel]at r2;subst r2;obtain⟨t,rfl⟩:=rv;exact .none_str b t
  |tup ys=>simp only[Rel]at r2;obtain⟨i,ws,rfl,e,h⟩:=r2;cases rv;obtain⟨f,_,c,_⟩:=I.tuple e.sq;exact .none_tuple c (by omega)
  |lst ys=>simp only[Rel]at r2;obtain⟨i,ws,rfl,e,h⟩:=r2;cases rv;obtain⟨f,_,c,_⟩:=I.list e.sq;exact .none_list c.isList (by omega)
  |_=>cases f2
 |.bl a,d2,A,x,y,u,v,_,f2,r1,r2,ru,rv,hu=>by
  simp only[Rel]at r1;subst r1;cases ru;cases d2 with
  |ax=>simp only[Rel]at r2;subst r2;cases rv;exact .bool_none a|bl b=>simp only[Rel]at r2;subst r2;cases rv;exact .bool_bool a b|int b=>simp only[Rel]at r2;subst r2;obtain⟨t,rfl⟩:=rv;exact .bool_int a b t
  |str b=>simp only[Rel]at r2;subst r2;obtain⟨t,rfl⟩:=rv;exact .bool_str a b t
  |tup ys=>simp only[Rel]at r2;obtain⟨i,ws,rfl,e,h⟩:=r2;cases rv;obtain⟨f,_,c,_⟩:=I.tuple e.sq;exact .bool_tuple a c (by omega)
  |lst ys=>simp only[Rel]at r2;obtain⟨i,ws,rfl,e,h⟩:=r2;cases rv;obtain⟨f,_,c,_⟩:=I.list e.sq;exact .bool_list a c.isList (by omega)
  |_=>cases f2
 |.int a,d2,A,x,y,u,v,_,f2,r1,r2,ru,rv,hu=>by
  simp only[Rel]at r1;subst r1;obtain⟨t0,rfl⟩:=ru;cases d2 with
  |ax=>simp only[Rel]at r2;subst r2;cases rv;exact .int_none a t0|bl b=>simp only[Rel]at r2;subst r2;cases rv;exact .int_bool a t0 b|int b=>simp only[Rel]at r2;subst r2;obtain⟨t,rfl⟩:=rv;exact .int_int a t0 b t
  |str b=>simp only[Rel]at r2;subst r2;obtain⟨t,rfl⟩:=rv;exact .int_str a t0 b t
  |tup ys=>simp only[Rel]at r2;obtain⟨i,ws,rfl,e,h⟩:=r2;cases rv;obtain⟨f,_,c,_⟩:=I.tuple e.sq;exact .int_tuple a t0 c (by omega)
  |lst ys=>simp only[Rel]at r2;obtain⟨i,ws,rfl,e,h⟩:=r2;cases rv;obtain⟨f,_,c,_⟩:=I.list e.sq;exact .int_list a t0 c.isList (by omega)
  |_=>cases f2
 |.str a,d2,A,x,y,u,v,_,f2,r1,r2,ru,rv,hu=>by
  simp only[Rel]at r1;subst r1;obtain⟨t0,rfl⟩:=ru;cases d2 with
  |ax=>simp only[Rel]at r2;subst r2;cases rv;exact .str_none a t0|bl b=>simp only[Rel]at r2;subst r2;cases rv;exact .str_bool a t0 b|int b=>simp only[Rel]at r2;subst r2;obtain⟨t,rfl⟩:=rv;exact .str_int a t0 b t
  |str b=>simp only[Rel]at r2;subst r2;obtain⟨t,rfl⟩:=rv;exact .str_str a t0 b t
  |tup ys=>simp only[Rel]at r2;obtain⟨i,ws,rfl,e,h⟩:=r2;cases rv;obtain⟨f,_,c,_⟩:=I.tuple e.sq;exact .str_tuple a t0 c (by omega)
  |lst ys=>simp only[Rel]at r2;obtain⟨i,ws,rfl,e,h⟩:=r2;cases rv;obtain⟨f,_,c,_⟩:=I.list e.sq;exact .str_list a t0 c.isList (by omega)
  |_=>cases f2
 |.tup xs,d2,A,x,y,u,v,f1,f2,r1,r2,ru,rv,hu=>by
  simp only[Rel]at r1;obtain⟨a,vs,rfl,e,h⟩:=r1;cases ru;obtain⟨f,p,c,_⟩:=I.tuple e.sq;simp only[dep]at hu;cases d2 with
  |ax=>simp only[Rel]at r2;subst r2;cases rv;exact .tuple_none c (by omega)|bl b=>simp only[Rel]at r2;subst r2;cases rv;exact .tuple_bool b c (by omega)|int b=>simp only[Rel]at r2;subst r2;obtain⟨t,rfl⟩:=rv;exact .tuple_int b t c (by omega)
  |str b=>simp only[Rel]at r2;subst r2;obtain⟨t,rfl⟩:=rv;exact .tuple_str b t c (by omega)
  |tup ys =>
   simp only[Rel]at r2;obtain⟨i,ws,rfl,n,l⟩:=r2;cases rv;obtain⟨d,o,k,_⟩:=I.tuple n.sq;simp only[aF,j6];have z:xs.length=f.toArray.size:=by rw[aar,<- p.length];exact h.length
   have r:ys.length=d.toArray.size:=by rw[aar,<- o.length];exact l.length
   rw[z,r];refine .tuples c k (by omega) λj q h2=>?_;have:=lF I xs ys (A:=A.in1) f1 f2 h l p o (by rw[in1_units];omega) j (by simpa using q) (by simpa using h2);simpa using this
  |lst ys =>
   simp only[Rel]at r2;obtain⟨i,ws,rfl,n,l⟩:=r2;cases rv;obtain⟨d,o,k,_⟩:=I.list n.sq;exact .tuple_list c k.isList (by omega)
  |_=>cases f2
 |.lst xs,d2,A,x,y,u,v,f1,f2,r1,r2,ru,rv,hu=>by
  simp only[Rel]at r1;obtain⟨a,vs,rfl,e,h⟩:=r1;cases ru;obtain⟨f,p,c,_⟩:=I.list e.sq;simp only[dep]at hu;cases d2 with
  |ax=>simp only[Rel]at r2;subst r2;cases rv;exact .list_none c.isList (by omega)|bl b=>simp only[Rel]at r2;subst r2;cases rv;exact .list_bool b c.isList (by omega)|int b=>simp only[Rel]at r2;subst r2;obtain⟨t,rfl⟩:=rv;exact .list_int b t c.isList (by omega)
  |str b=>simp only[Rel]at r2;subst r2;obtain⟨t,rfl⟩:=rv;exact .list_str b t c.isList (by omega)
  |lst ys =>
   simp only[Rel]at r2;obtain⟨i,ws,rfl,n,l⟩:=r2;cases rv;obtain⟨d,o,k,_⟩:=I.list n.sq;simp only[aF,j6];have z:xs.length=f.toArray.size:=by rw[aar,<- p.length];exact h.length
   have r:ys.length=d.toArray.size:=by rw[aar,<- o.length];exact l.length
   rw[z,r];by_cases hs:f.toArray.size=d.toArray.size
   . have e0:(f.toArray.size == d.toArray.size)=true:=by simpa using hs
     rw[e0,Bool.and_true,<- hs,Nat.min_self];refine .lists c.isList k.isList hs (by omega) λj q h2=>?_;have:=lF I xs ys (A:=A.in1) f1 f2 h l p o (by rw[in1_units];omega) j (by simpa using q) (by simpa using h2);simpa using this
   . have e0:(f.toArray.size == d.toArray.size)=false:=by simpa using hs
     rw[e0,agk,aaB];exact .lists_lengths c.isList k.isList (by simpa using hs) (by omega)
  |tup ys =>
   simp only[Rel]at r2;obtain⟨i,ws,rfl,n,l⟩:=r2;cases rv;obtain⟨d,o,k,_⟩:=I.tuple n.sq;exact .list_tuple c.isList k (by omega)
  |_=>cases f2
 |.dn,d2,A,x,y,u,v,f1,_,_,_,_,_,_=>by cases f1|.ref _,d2,A,x,y,u,v,f1,_,_,_,_,_,_=>by cases f1|.aC _,d2,A,x,y,u,v,f1,_,_,_,_,_,_=>by cases f1|.fn _ _,d2,A,x,y,u,v,f1,_,_,_,_,_,_=>by cases f1
end
def bw (a b:D)(g:G):Option (D×G):=if(flat a&&flat b&&decide (dep a<=60))=true then some (.bl (!aF a b),g)else none
theorem Nv (hu:X.A.units+64<cLine):bq X (abm .NotEq) (dB X.kw bw):=by
 intro b0 s σ H x y v u Q I c f q;obtain⟨ι,g,h,a,d,i,G0,b,e,q,p⟩:=q;unfold bw at q;split at q
 . rename_i z
   simp only[aae,decide_eq_true_eq]at z;cases q;exact Nu I h a z.1.1 z.1.2 b e c f (by omega) _ _ _ _ ⟨.bl _,H,I,rfl,p H ι _ Ext.refl G0 (by simp[Rel])⟩
 . cases q
end
@[simp] theorem Yh {a b:D}{g:G}:bw a b g=if(flat a&&flat b&&decide (dep a<=60))=true then some (.bl (!aF a b),g)else none:=rfl
noncomputable def fF:List D->Option (List Int)
 | []=>some []|.int i::ds=>(fF ds).map (i :: ·)|_=>none
theorem AI {d:D}{ds:List D}{ns:List Int}(h:fF (d::ds)=some ns):∃i ms,d = .int i/\ns=i::ms/\fF ds=some ms:=by
 cases d with
 |int i =>
  simp only[fF,aak]at h;obtain⟨ms,a,rfl⟩:=h;exact⟨i,ms,rfl,rfl,a⟩
 |_=>simp[fF]at h
theorem nK {K H ι}:∀{xs:List D} {vs:List V} {us:List Value} {ns:List Int},fF xs=some ns->ag K H ι xs vs->Vals vs us->acL us ns
 | [],vs,us,ns,h,r,rv=>by simp only[ag]at r;subst r;cases rv;cases h;exact .nil
 |d::ds,vs,us,ns,h,r,rv=>by
  obtain⟨i,ms,rfl,rfl,a⟩:=AI h;simp only[ag,Rel]at r;obtain⟨v,c,rfl,rfl,b⟩:=r;cases rv with
  |cons r0 rr =>
   obtain⟨t,rfl⟩:=r0;exact .cons i t (nK a b rr)
theorem mr:∀{us:List Value} {ns:List Int},acL us ns->∃xs:List (Int×Tok),us=xs.map (λp=>ae1 p.1 p.2)/\ns=xs.map (·.1)
 |_,_,.nil=>⟨[],rfl,rfl⟩|_,_,.cons n t h=>by obtain⟨xs,rfl,rfl⟩:=mr h;exact⟨(n,t)::xs,rfl,rfl⟩
section
variable {X:Cx}
def h_ (ds:List D)(g:G):Option (D×G):=match ds with| [d]=>(hU d g).bind λxs=>(fF xs).bind λns=>ns.min?.map λm=>(.int m,g)|_=>none
theorem JO (hh:X.A.handled=none):dk X (.builtin "min") (kH X.kw h_):=by
 intro b0 s σ H xs us Q I r q;obtain⟨ι,g,ds,d,g',G0,c,q,p⟩:=q;cases ds with
 |nil=>cases q|cons e Ct =>
 cases Ct with
 |cons _ _=>cases q
 |nil =>
  simp only[h_]at q;obtain⟨ys,hx,q⟩:=bind_some q;obtain⟨ns,u,q⟩:=bind_some q;obtain⟨m,hm,q⟩:=aak.mp q;cases q;simp only[ag]at c;obtain⟨v,_,rfl,rv,rfl⟩:=c;obtain⟨a,vs,rfl,hq,hr⟩:=j8 G0 rv hx;cases r with
  |cons ru rr =>
   cases rr;cases ru;obtain⟨au,cU,o,_⟩:=I.list hq;obtain⟨b,rfl,rfl⟩:=mr (nK u hr cU);obtain⟨h,y⟩:=agm.mp hm;have z:(b.map (λp=>ae1 p.1 p.2)).toArray=intItems b.toArray:=by simp[intItems]
   have f:=o.isList;rw[z]at f;have l:0<b.toArray.size:=by
    cases b with
    |nil=>simp at h|cons _ _=>simp
   refine min_intList hh f l λv h' tk hv x=>?_;obtain⟨t,rfl⟩:=intItems_at hv;obtain⟨n,h2⟩:=argBest_lt (numAt b.toArray) (b.toArray.size-1);have e:numAt b.toArray (argBest (λi j=>decide (numAt b.toArray i<numAt b.toArray j)) (b.toArray.size-1))=m:=by
    have key:∀j,j<b.length->numAt b.toArray j=(b.map (·.1)).getD j 0:=λj k=>by rw[agy]
    have l1:numAt b.toArray (argBest (λi j=>decide (numAt b.toArray i<numAt b.toArray j)) (b.toArray.size-1))∈b.map (·.1):=by rw[agy];exact getD_mem (by rw[aaI];simp at l n ⊢;omega)
    refine Int.le_antisymm ?_ (y _ l1);obtain⟨j,k,ej⟩:=mem_getD h;rw[<- ej];have:=h2 j (by simp at k ⊢;omega);rw[agy]at this;rw[agy];simpa[agy]using this
   rw[e];exact⟨.int m,H,I.kept x,⟨_,rfl⟩,p H ι _ Ext.refl G0 (by simp[Rel])⟩
theorem iY:∀{us:List Value} {ns:List Int},acL us ns->Vals (ns.map V.int) us
 |_,_,.nil=>.nil|_,_,.cons n t h=>.cons ⟨t,rfl⟩ (iY h)
theorem qQ {K:KW}{H:Hp}{ι:Ix}:∀ns:List Int,ag K H ι (ns.map D.int) (ns.map V.int)
 | []=>by simp[ag]|n::ns=>by simp only[aa5,ag];exact⟨_,_,rfl,by simp[Rel],qQ ns⟩
end
section
variable {σ:Sg}{g:G}{fr:FA}
@[simp] theorem VS {d:D}:h_ [d] g=(hU d g).bind λxs=>(fF xs).bind λns=>ns.min?.map λm=>(.int m,g):=rfl
end
end L3
namespace L3
open PyProof.Rows L2 HT
section
variable {prog:aaG}{w:World}{A:aaL}{E:Value->aac->Prop}{s:aac}
theorem ni {t k:Addr}{items:Array Value}{l n:Value}{f j:Option Int}{Q:Value->aac->Prop}(i:IsTup s.heap t items)(o:s.heap.IsSliceOf k l n .none)(q:aeE l f)(p:aeE n j)
  (hw:bf items.size 0 f=0/\bf items.size items.size j=items.size)
  (h:Q (.ref t) s):wpAny (model prog w) A (aeS (.ref t) (.ref k)) Q E s:=by
 obtain⟨os,c,b,e⟩:=id o;have a:s.TypeIs (.ref k) "slice":=⟨os,c,b⟩
 unfold aeS;try with_reducible refine aaW ?_
 first|refine aaa (aad ?_)|skip
 refine aaa (aea i.typeIs (by decide) ?_);refine aaa (abh (name:=aaD "__getitem__") i.typeIs abI
  (aa6 abI i.typeIs agH ?_ (args_tuple_getitem _ _)))
 show wpAny _ _ (adI (.ref t) >>= _) _ _ s;refine aaa (tupleItemsOf_ i ?_);refine aaa (adt a ?_);rw[if_pos (by decide)];refine aaa (jU o q p ?_);have d:((((bf items.size 0 f:Nat):Int)== 0&&(1:Int)== 1&&(bf items.size items.size j-bf items.size 0 f)== items.size)=true):=by rw[hw.1,hw.2];simp
 show wpAny _ _ (if(((bf items.size 0 f:Nat):Int)== 0&&(1:Int)== 1&&(bf items.size items.size j-bf items.size 0 f)== items.size)=true then _ else _) _ _ s;rw[if_pos d];unfold Builtin.Tuple.tupleIsExact;refine aaa (aaa (adt i.typeIs (aad ?_)));rw[if_pos (by decide)];refine aaa (ab8 (aad ⟨_,rfl,aad h⟩))
end
section
variable {X:Cx}
def VU (K:KW):V->Option Int->Option Int->Hp->VK->Prop:=λx lo b H Q=>∃a xs,x = .ref a/\eS K H a xs/\(HT.bf xs.length 0 lo=0/\HT.bf xs.length xs.length b=xs.length)/\Q (.ref a) H
theorem Fu:pj X (VU X.kw):=by
 intro b0 s σ H x v o j lo k l Q I c d i pu h;obtain⟨a,xs,rfl,f,hw,q⟩:=h;cases c;obtain⟨e,r,b,n⟩:=I.tuple f;have hlen:e.toArray.size=xs.length:=by rw[aar];exact r.length.symm
 refine⟨"tuple",_,abI.lookup,b.typeIs,?_⟩;exact ni b d i pu (by rw[hlen];exact hw) ⟨.ref a,H,I,rfl,q⟩
def jr (d:D)(b a:Option Int)(g:G):Option (D×G):=match d with
 |.tup xs=>some (.tup (cutD xs b a),g)|d=>Nf d b a g
theorem CH {xs:List D}{b a:Option Int}(h:lG xs.length b a=true):cutD xs b a=xs:=by unfold lG at h;rw[aae,decide_eq_true_eq,decide_eq_true_eq]at h;unfold cutD;rw[h.1,h.2];simp
def js (b:FE)(a c:FO):FE:=λσ g=>(b σ g).bind λr=>(a σ r.2).bind λl=>(c σ l.2).bind λh=>jr r.1 l.1 h.1 h.2
theorem CI {a:Expr}{K C:Option Expr}{J:FE}{E I:FO}{L B:Pos}(A:DE X a J)(M:DO X K E)(hh:DO X C I):DE X (.Subscript a (.Slice K C none L) B) (js J E I):=.of (
 PE.imp (ES (pj.or JG Fu) A.un M.un hh.un) λσ H Q h=>by
  obtain⟨ι,σd,g,d,g',G0,S0,h,p⟩:=h;obtain⟨⟨d1,g1⟩,h1,h⟩:=bind_some h;obtain⟨⟨l,g2⟩,h2,h⟩:=bind_some h;obtain⟨⟨u,g3⟩,h3,h⟩:=bind_some h;refine tD.bind G0 S0 h1 λH1 ι1 v e1 G1 y r1=>?_;refine⟨ι1,σd,g1,l,g2,G1,y,h2,λH2 ι2 r G2=>?_⟩;refine⟨ι2,σd,g2,u,g3,G2,y.ext r,h3,λs ι3 e3 j=>?_⟩;have i:=Rel.ext (r.trans e3) _ r1;have o:=p.mono (e1.trans (r.trans e3));have lst:∀{xs:List D} {a:Addr} {e:List V},v = .ref a->cS X.kw s a e->ag X.kw s ι3 xs e->some (D.lst (cutD xs l u),g3)=some (d,g')->Nh X.kw v l u s Q:=fun {xs a e} ev k f hh=>by cases hh;refine .inr ⟨a,e,ev,k,λq b=>o _ _ _ (Ext.lay b) (j.lay b) ?_⟩;simp only[Rel];exact⟨q,_,rfl,.inl ⟨.inl aR,j.fresh b,j.gZ b⟩,ag.ext (Ext.lay b) _ (f.Ng l u)⟩
  dsimp only at h;cases d1 with
  |tup xs =>
   simp only[jr]at h;cases h;have r4:=i;simp only[Rel]at i;obtain⟨a,e,rfl,k,f⟩:=i;by_cases z:lG xs.length l u=true
   . refine .inr ⟨a,e,rfl,k.sq,?_,o _ _ _ Ext.refl j ?_⟩
     . unfold lG at z
       rw[f.length,aae,decide_eq_true_eq,decide_eq_true_eq]at z;exact z
     . rw[CH z];exact r4
   . refine .inl (.inl ⟨a,e,rfl,k.sq,λc=>z ?_,λq b=>o _ _ _ (Ext.lay b) (j.lay b) ?_⟩)
     . unfold lG
       rw[f.length,aae,decide_eq_true_eq,decide_eq_true_eq];exact c
     . simp only[Rel]
       exact⟨q,_,rfl,.inl ⟨.inl aR,j.fresh b⟩,ag.ext (Ext.lay b) _ (f.Ng l u)⟩
  |lst xs =>
   simp only[jr,Nf]at h;simp only[Rel]at i;obtain⟨a,e,x,k,f⟩:=i;exact .inl (lst x k.sq f h)
  |ref n =>
   simp only[jr,Nf]at h;split at h
   . rename_i xs hx
     simp only[Rel]at i;obtain⟨a,x,A⟩:=i;obtain⟨e,hv,f⟩:=j.at hx A;exact .inl (lst x (.of hv) f h)
   . cases h
  |_=>cases h)
end
@[simp] theorem Yi {c:FE}{a b:FO}{σ:Sg}{g:G}:js c a b σ g=(c σ g).bind λr=>(a σ r.2).bind λl=>(b σ l.2).bind λh=>jr r.1 l.1 h.1 h.2:=rfl
end L3
namespace L3
open PyProof.Rows L2
mutual
noncomputable def sm:D->Bool
 |.ax=>true|.bl _=>true|.int i=>decide (i.natAbs<10 ^ 19)|.str x=>decide ((reprText x).length<=20)|.tup xs=>Tc xs|.lst _=>false|.dn=>false|.ref _=>false|.aC _=>false|.fn _ _=>false
noncomputable def Tc:List D->Bool
 | []=>true|d::ds=>sm d&&Tc ds
end
mutual
noncomputable def nd:D->Nat
 |.tup xs=>Td xs+1|_=>1
noncomputable def Td:List D->Nat
 | []=>0|d::ds=>nd d+Td ds
end
noncomputable def kg (nn L:Nat)(t:FG)(c:FT)(e:FE):Nat->Sg->G->Option (List D×G)
 | 0,_,g=>(g[nn]?).bind λxs=>if xs.length=L then some ([],g)else none|r+1,σ,g=>(g[nn]?).bind λxs=>if xs.length=L then(xs[L-(r+1)]?).bind λd=>(t d σ g).bind λq=>(c q.1 q.2).bind λk=>if k.1=true then(e q.1 k.2).bind λa=>(kg nn L t c e r q.1 a.2).bind λz=>some (a.1::z.1,z.2)else kg nn L t c e r q.1 k.2 else none
abbrev pF:=Sg->G->Option (Nat×Nat×G)
def AJ (K:KW)(J:It)(H:Hp)(ι:Ix)(nn L:Nat):Prop :=
 ∀(i:Nat) H1 ι1 g1,i0 H ι H1 ι1->aw K H1 ι1 g1->∀xs,g1[nn]? = some xs->xs.length=L->(L<=i->J.stop i H1) /\ ∀d,xs[i]? = some d->J.go i H1 /\ ∀x H2,J.yt i H1 x H2->Ext H1 ι1 H2 ι1/\aw K H2 ι1 g1/\Rel K H2 ι1 d x
inductive Nw (K:KW)(f:pF)(σ:L2.St)(H:Hp)(R:(It->Hp->Prop)):Prop
 |mk (ι:Ix) (σd:Sg) (g:G) (nn:Nat) (L:Nat) (g':G) (h0:aw K H ι g) (h1:bo K H ι σd σ) (h2:f σd g=some (nn,L,g')) (h3:∀H' ι' J,Ext H ι H' ι'->aw K H' ι' g'->AJ K J H' ι' nn L->R J H'):Nw K f σ H R
structure Hw (X:Cx)(tg iter:Expr)(f:pF):Prop where of ::
 un:PI X tg iter (Nw X.kw f)
noncomputable def Fv (f:FE):pF:=λσ g=>(f σ g).bind λr=>match r.1 with|.ref n=>(r.2[n]?).bind λxs=>some (n,xs.length,r.2)|_=>none
theorem AJ.ref {K H ι a n L}(h:dA ι n a false):AJ K (GQ K a) H ι n L:=λi H1 q g1 j e xs o p=>by obtain⟨vs,k,f⟩:=e.at o (j.at h);have b:cS K H1 a vs:=.inl (.inl k);refine⟨λh=>⟨vs,b,by rw[<- f.length];omega⟩,λd hd=>?_⟩;obtain⟨v,c,l⟩:=f.get hd;refine⟨⟨vs,v,b,c⟩,λx r y=>?_⟩;obtain⟨rfl,y⟩:=y;have:=y vs b;rw[c]at this;cases this;exact⟨Ext.refl,e,l⟩
theorem yW {X:Cx}{tg l:Expr}{z:FE}(A:DE X l z):Hw X tg l (Fv z):=.of (PI.imp (yu A.un) λσ H Q h=>by
 obtain⟨ι,x,g,nn,L,u,G0,j,h,p⟩:=h;obtain⟨⟨r,g1⟩,f,h⟩:=bind_some h;cases r with
 |ref n =>
  obtain⟨xs,q,h⟩:=bind_some h;cases h;refine tD.bind G0 j f λH1 o v e d s c=>?_;simp only[Rel]at c;obtain⟨a,rfl,b⟩:=c;obtain⟨i,k,y⟩:=d.at q b;exact⟨a,rfl,⟨i,.inl (.inl k)⟩,p H1 o _ e d (.ref b)⟩
 |_=>cases h)
def lI (mk:List D->G->Option (D×G))(a:pF)(fr:List (Option Nat))(t:FG)(c:FT)(e:FE):FE:=λσ g=>(a σ g).bind λr=>if az r.2.1=true then(kg r.1 r.2.1 t c e r.2.1 (cf fr σ) r.2.2).bind λq=>mk q.1 q.2 else none
noncomputable def Nx (a:pF):qJ:=λσ g=>(a σ g).map λr=>(λg=>g[r.1]?,r.2.1,r.2.2)
theorem yX {X:Cx}{tg iter:Expr}{r:pF}(h:Hw X tg iter r):vR X tg iter (Nx r):=.of (PI.imp h.un λσ H Q q=>by obtain⟨ι,f,g,o,L,n,G0,l,k,p⟩:=q;obtain⟨⟨nn,L1,g1⟩,c,e⟩:=aak.mp k;cases e;exact⟨ι,f,g,nn,L1,g1,G0,l,c,λa d J b j i=>p a d J b j i⟩)
theorem wu {nn L:Nat}{t:FG}{c:FT}{e:FE}:∀(k:Nat) (σ:Sg) (g:G),kg nn L t c e k σ g=dH (λg=>g[nn]?) L t c e k σ g
 | 0,σ,g=>by simp only[kg,dH]|k+1,σ,g=>by simp only[kg,dH,wu k]
theorem wx {mk:List D->G->Option (D×G)}{a:pF}{fr:List (Option Nat)}{t:FG}{c:FT}{e:FE}:lI mk a fr t c e=j4 mk (Nx a) fr t c e:=by
 funext σ g;unfold lI j4 Nx;cases a σ g with
 |none=>rfl|some r=>simp only[aaj,abn,wu]
section
variable {X:Cx}{tg iter elt:Expr}{ifs:List Expr}{scope:Scope}{pos cM:Pos}{N:List Str}{fr:List (Option Nat)}{fi:pF}{t:FG}{c:FT}{e:FE}
theorem Fw (f:X.xe=λ_ _=>False)(b:X.calm=true)(ok:eM X N fr scope)(a:Hw X tg iter fi)(h:∀C s3 H fp b0,DG (ba X N scope C s3 H fp b0) tg t/\gF (ba X N scope C s3 H fp b0) ifs c/\DE (ba X N scope C s3 H fp b0) elt e)
  (d:∀x,aa7 iter X.env x=pure x):DE X (.ListComp elt [⟨tg,iter,ifs,0⟩] scope pos) (lI cg fi fr t c e):=by
 rw[wx];exact vV f b ok (yX a) h d
end
section
variable {σ:Sg}{g:G}{fa:FE}
@[simp] theorem Yj:Fv fa σ g=(fa σ g).bind λr=>match r.1 with|.ref n=>(r.2[n]?).bind λxs=>some (n,xs.length,r.2)|_=>none:=rfl
@[simp] theorem Te {mk:List D->G->Option (D×G)}{a:pF}{fr:List (Option Nat)}{t:FG}{c:FT}:lI mk a fr t c fa σ g=(a σ g).bind λr=>if az r.2.1=true then(kg r.1 r.2.1 t c fa r.2.1 (cf fr σ) r.2.2).bind λq=>mk q.1 q.2 else none:=rfl
end
section
variable {X:Cx}{tg iter elt:Expr}{ifs:List Expr}{scope:Scope}{pos cM:Pos}{N:List Str}{fr:List (Option Nat)}{fi:FI}{t:FG}{c:FT}{e:FE}
theorem Fx (f:X.xe=λ_ _=>False)(b:X.calm=true)(ok:eM X N fr scope)(a:DI X tg iter fi)(h:∀C s3 H fp b0,DG (ba X N scope C s3 H fp b0) tg t/\gF (ba X N scope C s3 H fp b0) ifs c/\DE (ba X N scope C s3 H fp b0) elt e)
  (d:∀x,aa7 iter X.env x=pure x):DE X (.ListComp elt [⟨tg,iter,ifs,0⟩] scope pos) (cH jj fi fr t c e):=by
 rw[oD];exact tU f b ok (nI a) h d
end
noncomputable def bu:FE:=λ_ _=>none
theorem bt {X:Cx}{e:Expr}:DE X e bu:=.of (λb0 s σ H Q I h=>by obtain⟨ι,a,g,d,b,G0,c,h,p⟩:=h;cases h)
@[simp] theorem VV {σ:Sg}{g:G}:bu σ g=none:=rfl
end L3
namespace L3
open PyProof.Rows L2
open Sem (wp)
open Builtin
section
variable {X:Cx}
theorem noFill_list_mul:fillsNumberSlot (.type "list") "mul" = pure false :=
 afw (id:="list.__mul__") (r:=some (.builtin "list.__rmul__")) F.slot_list_mul.lookup (by decide +kernel) F.slot_list_rmul.lookup (by decide +kernel)
theorem repeat_list:agw (.type "list")=pure (some (.builtin "list.__mul__")):=by unfold agw;rw[aeo (T:="list") (name:="__mul__") (id:="list.__mul__") F.slot_list_mul.lookup (by decide +kernel),aeo (T:="list") (name:="__rmul__") (id:="list.__rmul__") F.slot_list_rmul.lookup (by decide +kernel)];rfl
theorem uF (a:Int)(t:Tok)(l:Addr)(items:Array Value)(n:Nat)(f:Option Addr)(i:Array (Option Value)):
  Meets (ab5.«int.__rmul__» ⟨[.int a t,.ref l],[]⟩) (λ_ R s=>s.heap.get? l=some { cls:=.type "list",dict:=f,data:=.seq items n,slots:=i }/\R (.ok (.ret agx)) s):=
 .of_wp λprog w A R s h=>by obtain⟨c,g,d,b,os⟩:=s;obtain⟨e,h⟩:=h;wp_walk;exact⟨_,rfl,h⟩
theorem CJ (l:Addr)(items:Array Value)(n:Nat)(e:Option Addr)(i:Array (Option Value))(x:Int)(u:Tok)(o:¬(!adM x)=true)
  (j:¬items.size*x.toNat>(2 ^ 63-1) / 8) (k:¬acf (items.size*x.toNat)=true) (f:items.isEmpty=false) (p:((aap x.toNat items).foldl (· ++ ·) #[]).size<=aax):
  Meets (ab5.«list.__mul__» ⟨[.ref l,.int x u],[]⟩) (λ_ R s=>s.heap.get? l=some { cls:=.type "list",dict:=e,data:=.seq items n,slots:=i }/\R (.ok (.ret (acZ s.heap.objs.size))) { s with heap:=s.heap.push { cls:=abg "list",data:=Data.seq ((aap x.toNat items).foldl (· ++ ·) #[]) },toks:=s.toks }):=
 .of_wp λprog w A R s h=>by
  obtain⟨c,g,d,b,os⟩:=s;obtain⟨a,h⟩:=h;have f1:=ac7;have f2:=aeg
  wp_walk using abd a
  exact⟨_,rfl,by rw[if_neg (by simp[f])];exact h⟩
def Q4 (K:KW):R2:=λx y H Q=>∃a k xs,x = .ref a/\y = .int k/\cS K H a xs/\xs ≠ []/\0<=k/\k<2 ^ 62/\xs.length*k.toNat<=16777216 /\ ∀p,H p=none->Q (.ref p) (upd H p (.lst (aap k.toNat xs).flatten))
theorem yY:bq X (abJ .Mult) (Q4 X.kw):=by
 intro b0 s σ H x y v u Q I rx ry h;obtain⟨a,k,xs,rfl,rfl,hq,hx,h1,h2,q,q2⟩:=h;cases rx;obtain⟨t,rfl⟩:=ry;obtain⟨c,r,ht,Y8⟩:=I.list hq;have hl:=r.length;obtain⟨⟨cls,dd,data,p⟩,n,d,l,o,hd⟩:=id ht;simp only at l hd o;subst l hd o;refine afx (T:="list") (U:="int") (by decide) ⟨_,d,rfl⟩ (λs'=>afs s' k t) noFill_list_mul F.fills_int_mul F.slot_int_rmul repeat_list F.slot_int_index.lookup
   (acX F.slot_int_rmul (afs s k t) F.entry_int_rmul (F.args_int_rmul_2 _ _) (uF k t a c.toArray n none p) ⟨d,rfl,⟨_,d,rfl⟩,?_⟩)
 have hi:c ≠ []:=λe=>hx (by subst e;cases r;rfl);have fresh:H s.heap.objs.size=none:=I.aU.fresh (aal _);have i:agt (λx1 z=>x1++z) #[] (aap k.toNat c.toArray)=(aap k.toNat c).flatten.toArray:=by have:=foldl_rep c k.toNat [];rw[acq]at this;exact this
 have f:aax=16777216:=ac0;have j:c.length*k.toNat<=16777216:=by rw[<- hl];exact q
 have VX:¬(!adM k)=true:=by unfold adM;simp;omega
 have AF:¬acf (c.toArray.size*k.toNat)=true:=by rw[vB (by rw[aar,f];exact j)];simp
 refine acX F.slot_list_mul ⟨_,d,rfl⟩ F.entry_list_mul (F.args_list_mul_2 _ _) (CJ a c.toArray n none p k t VX (by rw[aar];omega) AF (by simp[hi]) ?_) ⟨d,?_⟩
 . rw[i,aar,len_rep,adv,f];exact j
 . rw[i]
   refine⟨.ref _,_,I.laid (t':=s.toks) (λb u e=>aaf _ e) (aal _) (show dj X.prog X.w _ _ _ (.lst (aap k.toNat xs).flatten) from⟨by rw[len_rep,adv,f];exact q,_,0,r.rep k.toNat,aaq _ rfl⟩),rfl,q2 _ fresh⟩
def gB (b a:D)(g:G):Option (D×G):=match b,a with
 |.lst xs,.int k=>if(!xs.isEmpty&&decide (0<=k)&&d9 k&&az (xs.length*k.toNat))=true then some (.lst (aap k.toNat xs).flatten,g)else none|b,a=>dI b a g
theorem JP:bq X (abJ .Mult) (dB X.kw gB):=by
 intro b0 s σ H x y v u Q I i l q;obtain⟨ι,g,d1,n,d,o,G0,c,f,q,p⟩:=q;unfold gB at q;split at q
 . rename_i xs k
   split at q
   . rename_i z
     simp only[aae,decide_eq_true_eq,aaV]at z;cases q;simp only[Rel]at c f;subst f;obtain⟨a,r,rfl,hq,h⟩:=c;have hk:=d9.and z.1.2;have j:=az.le z.2;rw[ac0]at j;refine yY b0 s σ H _ _ v u Q I i l ⟨a,k,r,rfl,rfl,hq.sq,?_,z.1.1.2,hk.2,by rw[<- h.length];exact j,λpp b=>?_⟩
     . intro e
       subst e;have:=h.length;simp at this;subst this;simp at z
     . refine p _ _ _ (Ext.lay b) (G0.lay b) ?_
       simp only[Rel];exact⟨pp,_,rfl,.inl ⟨.inl aR,G0.fresh b,G0.gZ b⟩,ag.ext (Ext.lay b) _ (h.rep _)⟩
   . cases q
 . exact v9 b0 s σ H x y v u Q I i l ⟨ι,g,d1,n,d,o,G0,c,f,q,p⟩
end
section
variable {σ:Sg}{g:G}
@[simp] theorem Tf {i j:Int}:gB (.int i) (.int j) g=if cI i j=true then some (.int (i*j),g)else none:=rfl
@[simp] theorem Tg {xs:List D}{k:Int}:gB (.tup xs) (.int k) g=dI (.tup xs) (.int k) g:=rfl
@[simp] theorem Th {xs:List D}{k:Int}:gB (.lst xs) (.int k) g=if(!xs.isEmpty&&decide (0<=k)&&d9 k&&az (xs.length*k.toNat))=true then some (.lst (aap k.toNat xs).flatten,g)else none:=rfl
end
end L3
namespace L3
open PyProof.Rows L2
theorem Ny {X:Cx}{b0:List (Addr×Obj)}{σ:L2.St}{H:Hp}{s:aac}{a c:Addr}{xs:List V}(I:L2.Inv X b0 σ H s)(f:fK X b0 H c)(h:cS X.kw H a xs):a≠c:=λz=>by
 subst z;obtain⟨f0,f1,f2,d,f4,e⟩:=f;rcases h with h|⟨o,au,n,hk,_⟩
 . rcases h with h|⟨o,h⟩<;>rw[f0]at h<;>cases h
 . have b:X.base.get? a=some o:=I.ok.mod.qr a o hk
   rcases d with q|q
   . exact I.ok.pP a o b q
   . exact abY _ (aaM (aas (I.ok.bs a o b).1) q)
end L3
namespace DK
open PyProof.Rows L2 L3 SeqAt
def f7 (s:aac)(m:Nat)(u:Value):Prop:=∀(prog:aaG) (w:World) (A:aaL) (E:Value->aac->Prop) (Q:Bool->aac->Prop),Q true s->wpAny (model prog w) A (af3 m u) Q E s
structure Hx (A:aaL)(s:aac)(key:Value)(h:Int)(es:Array aa3)(t:Nat->Bool):Prop where
 eq:∀i e,es[i]? = some e->e.hash=h->EqAt A s e.key key (t i)
 hs:∀i e,es[i]? = some e->t i=true->e.hash=h
 qk:f7 s 8 key
 qe:∀e∈es,f7 s 8 e.key
 rf:∀e∈es,e.key=key->e.hash=h
 un:∀i j,i<es.size->j<es.size->t i=true->t j=true->i=j
 st:∀x tk,key = .str x tk->∀i e,es[i]? = some e->isExactStrKey e.key=true->e.key.isStr x=t i
section
variable {prog:aaG}{w:World}{A:aaL}{E:Value->aac->Prop}{s:aac}{d:Addr}{o:Obj}{es:Array aa3}{ep:Nat}{key:Value}{h:Int}{t:Nat->Bool}{Q:Option Nat->aac->Prop}
theorem p_ {c:List Value}{Q:Bool->aac->Prop}(e:f7 s 8 key)(f:∀v∈c,f7 s 8 v)(q:Q false s):wpAny (model prog w) A (tableMayTell key c) Q E s:=by
 unfold tableMayTell;split
 . exact aad q
 refine aaa (e prog w _ _ _ ?_);simp only[aaA,aaz,if_false];refine aaa (adD _ (λrest r z=>z=s/\r=(none,()) /\ ∀v∈rest,f7 s 8 v) _ ?_ ?_ _ _ ⟨rfl,rfl,f⟩)
 . rintro x rest r z ⟨rfl,rfl,a⟩
   refine aaa (a x aaC prog w _ _ _ ?_);simp only[aaA,aaz,if_false];exact aad ⟨rfl,rfl,λv b=>a v (aau _ b)⟩
 . rintro r z ⟨rfl,rfl,_⟩
   exact aad q
theorem mw {i:Nat}:i∈abL es.size (λi=>es[i]?.map (·.hash)) h ↔ ∃e,es[i]? = some e/\e.hash=h:=by
 unfold abL;simp only[abM,agd,beq_iff_eq,aak];constructor
 . rintro⟨_,e,a,b⟩;exact⟨e,a,b⟩
 . rintro⟨e,a,b⟩;exact⟨(acR.mp a).1,e,a,b⟩
theorem wy:(abL es.size (λi=>es[i]?.map (·.hash)) h).Nodup:=by unfold abL;exact ahE.sublist adb
theorem r_ (B:s.heap.get? d=some o)(C:o.data = .dict es ep)(K:Hx A s key h es t)(I:(∀i,i<es.size->t i=false)->Q none s)(H:∀i,i<es.size->t i=true->Q (some i) s):
  wpAny (model prog w) A (dictFind d key h) Q E s:=by
 have none_of:(∀i∈abL es.size (λi=>es[i]?.map (·.hash)) h,t i=false)->Q none s:=λz=>I λi c=>by
  cases ht:t i with
  |false=>rfl
  |true =>
    have k:=aa1 c;rw[z i (mw.mpr ⟨_,k,K.hs i _ k ht⟩)]at ht;cases ht
 have gen:∀tells:Bool,tells=false->wpAny (model prog w) A (do
    let mut hit:Option Nat:=none
    for i in abL es.size (λi=>es[i]?.map (·.hash)) h do
      if let some e:=es[i]? then
        if e.hash == h then
          let before <- dictEpoch d (keyPart key);let same <- eqBool e.key key
          if(<- dictEpoch d (keyPart key)) != before then unsupported "dict.changed-during-lookup"
          if same then
            if hit.isSome then unsupported "dict.find:order-among-keys-of-one-hash"
            rule "dict.find.hit"
            if((abL es.size (λi=>es[i]?.map (·.hash)) h).filterMap λi=>es[i]?.map (·.key)).length<2 then return some i
            hit:=some i
          else
            rule "dict.find.same-hash-other-key"
            if tells && !(0<=h&&h<32)then unsupported "dict.find:asked-again-or-not-hangs-on-the-table"
    return hit) Q E s:=λtells Zl=>by
  subst Zl
  refine aaa (adD _ (λrest (b:Option (Option Nat)×Option Nat) z=>z=s /\ ∃done,abL es.size (λi=>es[i]?.map (·.hash)) h=done++rest/\b.1=none /\
    ((b.2=none /\ ∀i∈done,t i=false) \/ ∃i,b.2=some i/\i∈done/\i<es.size/\t i=true)) _ ?_ ?_ _ _ ⟨rfl,[],rfl,rfl,.inl ⟨rfl,λi z=>by simp at z⟩⟩)
  . rintro x rest ⟨b1,hit⟩ z ⟨rfl,done,j,rfl,f⟩
    have r:x∈abL es.size (λi=>es[i]?.map (·.hash)) h:=by rw[j];simp
    obtain⟨e,he,p⟩:=mw.mp r;have n:x<es.size:=(acR.mp he).1
    have y:abL es.size (λi=>es[i]?.map (·.hash)) h=(done ++ [x])++rest:=by rw[j];simp
    rw[he];dsimp only at f ⊢;rw[if_pos (by simpa using p)];refine aaa (adi B C (aaa (K.eq x e he p prog w _ _ (aaa (adi B C ?_)))));rw[if_neg (by simp)];cases ht:t x with
    |true =>
      have h0:hit=none:=by
        rcases f with⟨h0,_⟩|⟨i,_,c,eU,ke⟩
        . exact h0
        . have:=K.un i x eU n ke ht
          subst this;have nd:=wy (es:=es) (h:=h);rw[j,aco]at nd;exact absurd rfl (nd.2.2 i c i aaC)
      subst h0;simp only[if_true,ag1,aaz,if_false];try refine aaa (aad ?_)
      refine aaa (ab8 ?_);split
      . exact aad (aad (H x n ht))
      . exact aad ⟨rfl,done ++ [x],y,rfl,.inr ⟨x,rfl,by simp,n,ht⟩⟩
    |false =>
      simp only[aaz,if_false,aeQ];refine aaa (ab8 ?_);refine aad ⟨rfl,done ++ [x],y,rfl,?_⟩;rcases f with⟨h0,hz⟩|⟨i,l,c,eU,ke⟩
      . exact .inl ⟨h0,λi c=>by
          rcases aao.mp c with c|c
          . exact hz i c
          . simp at c;subst c;exact ht⟩
      . exact .inr ⟨i,l,aao.mpr (.inl c),eU,ke⟩
  . rintro⟨b1,hit⟩ z ⟨rfl,done,j,rfl,f⟩
    dsimp only at f ⊢;refine aad ?_;rcases f with⟨rfl,hz⟩|⟨i,rfl,_,eU,ke⟩
    . exact none_of (by rw[j];simpa using hz)
    . exact H i eU ke
 have plain:wpAny (model prog w) A (dictWalkPlain d key h es (abL es.size (λi=>es[i]?.map (·.hash)) h)) Q E s:=by
  unfold dictWalkPlain
  refine aaa (adD _ (λrest b z=>z=s /\ ∃done,abL es.size (λi=>es[i]?.map (·.hash)) h=done++rest/\b=(none,()) /\ ∀i∈done,t i=false) _ ?_ ?_ _ _ ⟨rfl,[],rfl,rfl,λi z=>by simp at z⟩)
  . rintro x rest b z ⟨rfl,done,j,rfl,f⟩
    have r:x∈abL es.size (λi=>es[i]?.map (·.hash)) h:=by rw[j];simp
    obtain⟨e,he,p⟩:=mw.mp r;have n:x<es.size:=(acR.mp he).1;rw[he];dsimp only;rw[if_pos (by simpa using p)];refine aaa (adi B C (aaa (K.eq x e he p prog w _ _ (aaa (adi B C ?_)))));rw[if_neg (by simp)];cases ht:t x with
    |true =>
      simp only[if_true];refine aaa (ab8 ?_);exact aad (aad (H x n ht))
    |false =>
      simp only[aaz,if_false];refine aaa (ab8 ?_);refine aad ⟨rfl,done ++ [x],by rw[j];simp,rfl,λi c=>?_⟩;rcases aao.mp c with c|c
      . exact f i c
      . simp at c;subst c;exact ht
  . rintro b z ⟨rfl,done,j,rfl,f⟩
    exact aad (none_of (by rw[j];simpa using f))
 have keys:∀v∈(abL es.size (λi=>es[i]?.map (·.hash)) h).filterMap (λi=>es[i]?.map (·.key)),f7 s 8 v:=λv hv=>by obtain⟨i,_,c⟩:=ab3.mp hv;obtain⟨e,he,rfl⟩:=aak.mp c;exact K.qe e (aeu he)
 unfold dictFind;refine aaW ?_;refine aaa (afo B C ?_);cases key with
 |str x tk =>
  refine abo (λme=>?_) (λ_=>?_)
  . unfold foundByValue
    have u:∀i e,es[i]? = some e->e.key.isStr x=t i:=λi e he=>K.st x tk rfl i e he (Array.all_eq_true_iff_forall_mem.mp me e (aeu he))
    cases hf:es.findIdx? (·.key.isStr x)with
    |none =>
      refine aad (I λi c=>?_);rw[<- u i _ (aa1 c)];simpa using (Array.findIdx?_eq_none_iff.mp hf) es[i] (afn c)
    |some i =>
      obtain⟨c,l,_⟩:=Array.findIdx?_eq_some_iff_getElem.mp hf;have k:=aa1 c;rw[u i _ k]at l;dsimp only;rw[k];refine aaa (adi B C (aaa (K.eq i _ k (K.hs i _ k l) prog w _ _ (aaa (adi B C ?_)))));refine abo (λz=>by simp at z) (λ_=>?_);rw[l];exact aaa (ab8 (aad (H i c l)))
  . refine abo (λ_=>plain) (λ_=>?_)
    refine abo (λ_=>aaa (aad ?_)) (λ_=>aaa (p_ K.qk keys ?_))<;>
      exact abo (λz=>by simp at z) (λ_=>gen false rfl)
 |ref a =>
  refine abo (λz=>by simp[carriedByValue]at z) (λ_=>?_);refine abo (λz=>?_) (λ_=>?_)
  . rw[<- Array.any_toList,afM]at z
    obtain⟨e,he,q⟩:=z;simp only[aae,beq_iff_eq,bne_iff_ne,ne_eq]at q;exact absurd (K.rf e (Array.mem_toList_iff.mp he) q.1) q.2
  . refine abo (λ_=>aaa (aad ?_)) (λ_=>aaa (p_ K.qk keys ?_))<;>
      exact abo (λz=>by simp at z) (λ_=>gen false rfl)
 |_ =>
  refine abo (λ_=>plain) (λ_=>?_);refine abo (λ_=>aaa (aad ?_)) (λ_=>aaa (p_ K.qk keys ?_))<;>
    exact abo (λz=>by simp at z) (λ_=>gen false rfl)
end
section
variable {X:Cx}{b0:List (Addr×Obj)}{σ:L2.St}{H:Hp}{ι:Ix}{prog:aaG}{E:Value->aac->Prop}
mutual
theorem qR:∀(d:D) {n:Nat} {s:aac} {A:aaL} {x:V} {u:Value} {Q:Int->aac->Prop},Inv X b0 σ H s->aW n d=true->Rel X.kw H ι d x->RelV x u->A.units+n<cLine ->
  (∀tk,Q (hD X.w d) { s with toks:=tk })->wpAny (model prog X.w) A (pyHash u) Q E s
 |.ax,n,s,A,x,u,Q,I,k,r,ru,hu,q=>by simp only[Rel]at r;subst r;cases ru;simp only[hD]at q;exact agL (T:="NoneType") rfl F.slot_NoneType_hash F.entry_NoneType_hash (F.args_NoneType_hash_1 _) (afN _) (.inr (by omega)) (aaa (aad (aaa (wpAny_mkInt (aad ⟨_,_,rfl,q _⟩)))))|.int i,n,s,A,x,u,Q,I,k,r,ru,hu,q=>by simp only[Rel]at r;subst r;obtain⟨t,rfl⟩:=ru;simp only[hD]at q;exact wpAny_pyHash_int (q _)
 |.str y,n,s,A,x,u,Q,I,k,r,ru,hu,q=>by simp only[Rel]at r;subst r;obtain⟨t,rfl⟩:=ru;simp only[hD]at q;exact wpAny_pyHash_str (q _)
 |.tup xs,n+1,s,A,x,u,Q,I,k,r,ru,hu,q=>by simp only[Rel]at r;obtain⟨a,v,rfl,h,p⟩:=r;cases ru;obtain⟨z,j,⟨o,c,l,m,e⟩,_⟩:=I.tuple h.sq;simp only[hD]at q;simp only[aW]at k;refine agL (T:="tuple") ⟨o,c,l⟩ F.slot_tuple_hash F.entry_tuple_hash (F.args_tuple_hash_1 _) (afN _) (.inr (by omega)) ?_;show wpAny _ _ (adI (.ref a) >>= _) _ _ s;refine aaa (wpAny_tupleItemsOf c e (aaa ?_));rw[<- ag2];refine yZ xs (acc:=#[]) I k p j (by rw[in1_units];omega) λtk b f=>?_;show wpAny _ _ (retInt (aft b.toList)) _ _ _;rw[f];exact aaa (wpAny_mkInt (aad ⟨_,_,rfl,q _⟩))
 |.tup xs,0,s,A,x,u,Q,I,k,r,ru,hu,q=>by simp[aW]at k|.bl _,n,s,A,x,u,Q,I,k,r,ru,hu,q=>by simp[aW]at k|.lst _,n,s,A,x,u,Q,I,k,r,ru,hu,q=>by simp[aW]at k|.dn,n,s,A,x,u,Q,I,k,r,ru,hu,q=>by simp[aW]at k|.ref _,n,s,A,x,u,Q,I,k,r,ru,hu,q=>by simp[aW]at k|.aC _,n,s,A,x,u,Q,I,k,r,ru,hu,q=>by simp[aW]at k|.fn _ _,n,s,A,x,u,Q,I,k,r,ru,hu,q=>by simp[aW]at k
theorem yZ:∀(ds:List D) {n:Nat} {s:aac} {A:aaL} {vs:List V} {us:List Value} {acc:Array Int} {Q:Array Int->aac->Prop},Inv X b0 σ H s->jX n ds=true->ag X.kw H ι ds vs->Vals vs us->A.units+n<cLine ->
  (∀tk b,b.toList=acc.toList++B6 X.w ds->Q b { s with toks:=tk }) ->
  wpAny (model prog X.w) A (forIn us acc λx r=>do let h <- pyHash x;pure agz;pure (acD (r.push h))) Q E s
 | [],n,s,A,vs,us,acc,Q,I,k,r,ru,hu,q=>by simp only[ag]at r;subst r;cases ru;exact aad (q s.toks acc (by simp[B6]))
 |d::ds,n,s,A,vs,us,acc,Q,I,k,r,ru,hu,q=>by
  simp only[ag]at r;obtain⟨v,i,rfl,a,f⟩:=r;simp only[jX,aae]at k;cases ru with
  |cons r0 rr =>
   rw[acQ];refine aaa (aaa (qR d I k.1 a r0 hu λtk=>aaa (aad (aad ?_))));exact yZ ds (I.tok tk) k.2 f rr hu λe b c=>q e b (by simp[c,B6])
end
mutual
theorem se:∀(d:D) {n m:Nat} {s:aac} {x:V} {u:Value},Inv X b0 σ H s->aW n d=true->n<=m->Rel X.kw H ι d x->RelV x u->f7 s m u
 |.ax,n,m,s,x,u,I,k,hm,r,ru=>by simp only[Rel]at r;subst r;cases ru;intro prog w A E Q q;unfold af3;exact aad q|.int i,n,m,s,x,u,I,k,hm,r,ru=>by simp only[Rel]at r;subst r;obtain⟨t,rfl⟩:=ru;intro prog w A E Q q;unfold af3;exact aad q
 |.str y,n,m,s,x,u,I,k,hm,r,ru=>by simp only[Rel]at r;subst r;obtain⟨t,rfl⟩:=ru;intro prog w A E Q q;unfold af3;exact aad q
 |.tup xs,n+1,m,s,x,u,I,k,hm,r,ru=>by
  simp only[Rel]at r;obtain⟨a,vs,rfl,hq,b⟩:=r;cases ru;obtain⟨au,cU,⟨o,e,h2,z,p⟩,_⟩:=I.tuple hq.sq;simp only[aW]at k;intro prog w A E Q q;have h:s.TypeIs (.ref a) "tuple":=⟨o,e,h2⟩
  obtain⟨m,rfl⟩:∃j,m=j+1:=⟨m-1,by omega⟩
  unfold af3;refine aaa (af0 h F.slot_tuple_eq.lookup ?_);show wpAny _ _ (isInstance (.ref a) (.type "tuple") >>= _) _ _ s;refine aaa (aem h isSubtype_tuple_tuple ?_);simp only[aaA,aaz,if_false];refine aaa (acj e p (aaa ?_));show wpAny _ _ (forIn au.toArray _ _) _ _ s;rw[<- ag2];have l:=wz xs (m:=m) I k (by omega) b cU;refine adD _ (λrest r c=>r.1=none/\c=s /\ ∀v∈rest,f7 s m v) _ ?_ ?_ _ _ ⟨rfl,rfl,l⟩
  . rintro v rest r c ⟨b,rfl,f⟩
    refine aaa (f v aaC prog w _ _ _ ?_);simp only[aaA,aaz,if_false];exact aad ⟨rfl,rfl,λu Zm=>f u (aau _ Zm)⟩
  . rintro⟨r1,r2⟩ c ⟨b,rfl,_⟩
    simp only at b;subst b;exact aad q
 |.tup xs,0,m,s,x,u,I,k,hm,r,ru=>by simp[aW]at k|.bl _,n,m,s,x,u,I,k,hm,r,ru=>by simp[aW]at k|.lst _,n,m,s,x,u,I,k,hm,r,ru=>by simp[aW]at k|.dn,n,m,s,x,u,I,k,hm,r,ru=>by simp[aW]at k|.ref _,n,m,s,x,u,I,k,hm,r,ru=>by simp[aW]at k|.aC _,n,m,s,x,u,I,k,hm,r,ru=>by simp[aW]at k|.fn _ _,n,m,s,x,u,I,k,hm,r,ru=>by simp[aW]at k
theorem wz:∀(ds:List D) {n m:Nat} {s:aac} {vs:List V} {us:List Value},Inv X b0 σ H s->jX n ds=true->n<=m->ag X.kw H ι ds vs->Vals vs us->∀v∈us,f7 s m v
 | [],n,m,s,vs,us,I,k,hm,r,ru=>by simp only[ag]at r;subst r;cases ru;intro v a;simp at a
 |d::ds,n,m,s,vs,us,I,k,hm,r,ru=>by
  simp only[ag]at r;obtain⟨v,e,rfl,a,c⟩:=r;simp only[jX,aae]at k;cases ru with
  |cons r0 rr =>
   intro z b;rcases aah.mp b with rfl|b
   . exact se d I k.1 hm a r0
   . exact wz ds I k.2 hm c rr z b
end
end
mutual
theorem gG:∀(d:D) {n:Nat},aW n d=true->flat d=true/\dep d<=n
 |.ax,n,h=>⟨rfl,aaR _⟩|.int _,n,h=>⟨rfl,aaR _⟩|.str _,n,h=>⟨rfl,aaR _⟩|.tup xs,n+1,h=>by simp only[aW]at h;obtain⟨a,b⟩:=tW xs h;exact⟨a,by simp only[dep];omega⟩
 |.tup xs,0,h=>by simp[aW]at h|.bl _,n,h=>by simp[aW]at h|.lst _,n,h=>by simp[aW]at h|.dn,n,h=>by simp[aW]at h|.ref _,n,h=>by simp[aW]at h|.aC _,n,h=>by simp[aW]at h|.fn _ _,n,h=>by simp[aW]at h
theorem tW:∀(ds:List D) {n:Nat},jX n ds=true->aQ ds=true/\bp ds<=n
 | [],n,h=>⟨rfl,aaR _⟩|d::ds,n,h=>by simp only[jX,aae]at h;obtain⟨a,b⟩:=gG d h.1;obtain⟨c,e⟩:=tW ds h.2;exact⟨by simp[aQ,a,c],by simp only[bp];omega⟩
end
mutual
theorem fu:∀(d e:D) {n m:Nat},aW n d=true->aW m e=true->(aF d e=true ↔ d=e)
 |.ax,e,n,m,h,k=>by cases e<;>simp_all[aW,aF]|.int _,e,n,m,h,k=>by cases e<;>simp_all[aW,aF]|.str _,e,n,m,h,k=>by cases e<;>simp_all[aW,aF]
 |.tup xs,e,n+1,m,h,k=>by
  cases e with
  |tup ys =>
   cases m with
   |zero=>simp[aW]at k
   |succ m =>
    simp only[aW]at h k;simp only[aF,D.tup.injEq];exact y0 xs ys h k
  |_=>simp_all[aW,aF]
 |.tup xs,e,0,m,h,k=>by simp[aW]at h|.bl _,e,n,m,h,k=>by simp[aW]at h|.lst _,e,n,m,h,k=>by simp[aW]at h|.dn,e,n,m,h,k=>by simp[aW]at h|.ref _,e,n,m,h,k=>by simp[aW]at h|.aC _,e,n,m,h,k=>by simp[aW]at h|.fn _ _,e,n,m,h,k=>by simp[aW]at h
theorem y0:∀(ds es:List D) {n m:Nat},jX n ds=true->jX m es=true->(fO ds es=true ↔ ds=es)
 | [],es,n,m,h,k=>by cases es<;>simp[fO]|d::ds,[],n,m,h,k=>by simp[fO]|d::ds,e::es,n,m,h,k=>by simp only[jX,aae]at h k;simp only[fO,aae,List.cons.injEq,fu d e h.1 k.1,y0 ds es h.2 k.2]
end
end DK
namespace L3
def aK:List D->D->Option D
 |k::v::r,key=>if aF k key=true then some v else aK r key|_,_=>none
def aP:List D->D->D->List D
 |k::v::r,key,val=>if aF k key=true then k::val::r else k::v::aP r key val|_,key,val=>[key,val]
def tq:List D->D->Nat->Bool
 |k::_::_,key,0=>aF k key|_::_::r,key,i+1=>tq r key i|_,_,_=>false
end L3
namespace DK
open PyProof.Rows L2 L3 SeqAt
inductive Ent (K:KW)(H:Hp)(ι:Ix):List D->List aa3->Prop
 |nil:Ent K H ι [] []
 |cons {k v:D} {kv vv:V} {r:List D} {e:aa3} {es:List aa3}:aW 6 k=true->e.hash=hD K.w k->Rel K H ι k kv->RelV kv e.key->Rel K H ι v vv->RelV vv e.val->Ent K H ι r es->Ent K H ι (k::v::r) (e::es)
theorem Ent.of {K H ι}:∀{es:List aa3} {xs:List D} {vs:List V},Vals vs (qE es)->jY K.w xs es->ag K H ι xs vs->Ent K H ι xs es
 | [],xs,vs,rv,h,r=>by cases h;exact .nil
 |e::es,xs,vs,rv,h,r=>by
  cases h with
  |cons h1 h2 h3 =>
   simp only[ag]at r;obtain⟨a,j,rfl,c,b,i,rfl,f,d⟩:=r;cases rv with
   |cons r1 rv=>cases rv with
    |cons r2 rv=>exact .cons h1 h2 c r1 f r2 (Ent.of rv h3 d)
theorem Ent.out {K H ι}:∀{es:List aa3} {xs:List D},Ent K H ι xs es->jY K.w xs es /\ ∃vs,Vals vs (qE es)/\ag K H ι xs vs
 | [],xs,h=>by cases h;exact⟨.nil,[],.nil,by simp[ag]⟩
 |e::es,xs,h=>by
  cases h with
  | @cons k v kv vv r _ _ h1 h2 h3 h4 h5 h6 h7 =>
   obtain⟨a,vs,b,c⟩:=h7.out;refine⟨.cons h1 h2 a,kv::vv::vs,.cons h4 (.cons h6 b),?_⟩;simp only[ag];exact⟨kv,_,rfl,h3,vv,_,rfl,h5,c⟩
theorem Ent.at {K H ι}:∀{es:List aa3} {xs:List D} {i:Nat} {e:aa3},Ent K H ι xs es->es[i]? = some e->∃k kv,aW 6 k=true/\(bY xs)[i]? = some k/\e.hash=hD K.w k/\Rel K H ι k kv/\RelV kv e.key /\ ∀key,tq xs key i=aF k key
 | [],xs,i,e,h,q=>by simp at q
 |e0::es,xs,i,e,h,q=>by
  cases h with
  |cons h1 h2 h3 h4 h5 h6 h7 =>
   cases i with
   |zero=>simp at q;subst q;exact⟨_,_,h1,rfl,h2,h3,h4,λ_=>rfl⟩
   |succ i =>
    obtain⟨k,kv,a,b,c,d,j,f⟩:=h7.at (i:=i) (by simpa using q);exact⟨k,kv,a,by simpa[bY]using b,c,d,j,λkey=>f key⟩
theorem Ent.len {K H ι}:∀{es:List aa3} {xs:List D},Ent K H ι xs es->(bY xs).length=es.length
 | [],xs,h=>by cases h;rfl
 |e::es,xs,h=>by
  cases h with
  |cons h1 h2 h3 h4 h5 h6 h7=>simp[bY,h7.len]
theorem Ent.none_ {K H ι}:∀{es:List aa3} {xs:List D} {key:D},Ent K H ι xs es->(∀i,i<es.length->tq xs key i=false)->aK xs key=none /\ ∀v,aP xs key v=xs ++ [key,v]
 | [],xs,key,h,q=>by cases h;exact⟨rfl,λ_=>rfl⟩
 |e::es,xs,key,h,q=>by
  cases h with
  |cons h1 h2 h3 h4 h5 h6 h7 =>
   have c:=q 0 (by simp);simp only[tq]at c;obtain⟨a,b⟩:=h7.none_ (key:=key) λi d=>by have:=q (i+1) (by simpa using d);simpa[tq]using this
   exact⟨by simp[aK,c,a],λv=>by simp[aP,c,b]⟩
theorem Ent.uS {K H ι}{key:D}:∀{es:List aa3} {xs:List D} {i:Nat},Ent K H ι xs es->i<es.length->tq xs key i=true->(∀j,j<es.length->tq xs key j=true->j=i) ->
  ∃e v vv,es[i]? = some e/\aK xs key=some v/\Rel K H ι v vv/\RelV vv e.val/\bY (aP xs key v)=bY xs /\
   ∀(w:D) (wv:V) (u:Value),Rel K H ι w wv->RelV wv u->Ent K H ι (aP xs key w) (es.modify i λe=>{ e with val:=u })/\bY (aP xs key w)=bY xs
 | [],xs,i,h,hi,q,un=>by simp at hi
 |e0::es,xs,i,h,hi,q,un=>by
  cases h with
  | @cons k v kv vv r _ _ h1 h2 h3 h4 h5 h6 h7 =>
   cases i with
   |zero =>
    simp only[tq]at q;refine⟨e0,v,vv,rfl,by simp[aK,q],h5,h6,by simp[aP,q,bY],λw wv u l o=>⟨?_,by simp[aP,q,bY]⟩⟩;simp only[aP,q,if_true,List.modify_zero_cons];exact .cons h1 h2 h3 h4 l o h7
   |succ i =>
    have n:aF k key=false:=by
     cases hk:aF k key with
     |false=>rfl|true=>exact absurd (un 0 (by simp) (by simpa[tq]using hk)) (by omega)
    obtain⟨e,p,x,a,b,c,d,f,g⟩:=h7.uS (i:=i) (by simpa using hi) (by simpa[tq]using q) λj s z=>by have:=un (j+1) (by simpa using s) (by simpa[tq]using z);omega
    refine⟨e,p,x,by simpa using a,by simp[aK,n,b],c,d,by simp[aP,n,bY,f],λw wv u l o=>?_⟩;obtain⟨g1,g2⟩:=g w wv u l o;simp only[aP,n,aaz,if_false,List.modify_succ_cons];exact⟨.cons h1 h2 h3 h4 h5 h6 g1,by simp[bY,g2]⟩
theorem Ent.push {K H ι}{k v:D}{c o:V}{e:aa3}(d:aW 6 k=true)(f:e.hash=hD K.w k)(i:Rel K H ι k c)(j:RelV c e.key)(n:Rel K H ι v o)(l:RelV o e.val):
  ∀{es:List aa3} {xs:List D},Ent K H ι xs es->Ent K H ι (xs ++ [k,v]) (es ++ [e])/\bY (xs ++ [k,v])=bY xs ++ [k]
 | [],xs,h=>by cases h;exact⟨.cons d f i j n l .nil,rfl⟩
 |e0::es,xs,h=>by
  cases h with
  |cons a1 a2 a3 a4 a5 a6 a7 =>
   obtain⟨a,b⟩:=Ent.push d f i j n l a7;exact⟨.cons a1 a2 a3 a4 a5 a6 a,by simp[bY,b]⟩
section
variable {X:Cx}{b0:List (Addr×Obj)}{σ:L2.St}{H:Hp}{ι:Ix}{s:aac}
theorem CK (I:Inv X b0 σ H s){A:aaL}{d e:D}{x y:V}{u v:Value}(j:flat d=true)(l:flat e=true)(rd:Rel X.kw H ι d x)(k:Rel X.kw H ι e y)(i:RelV x u)(n:RelV y v)(hu:A.units+dep d<cLine):EqAt A s u v (aF d e):=by refine qN (vX I d e (A:=A) j l rd k i n hu) (λa=>?_) (λb t f=>Rel.yO rd (by rw[f]at i;exact i));subst a;have c:=i.inj n;subst c;have h:=Rel.inj I d e j l rd k;subst h;exact j5 d j
theorem lJ (I:Inv X b0 σ H s){A:aaL}(hu:A.units+8<cLine){xs:List D}{es:List aa3}(en:Ent X.kw H ι xs es)(nd:(bY xs).Nodup){key:D}{x:V}{u:Value}(B:aW 6 key=true)(r:Rel X.kw H ι key x)(C:RelV x u):
  Hx A s u (hD X.w key) es.toArray (tq xs key) where
 eq:=λi e he hh=>by obtain⟨k,l,a,b,c,d,f,g⟩:=en.at (i:=i) (by simpa using he);rw[g key];obtain⟨f1,f2⟩:=gG k a;exact CK I f1 (gG key B).1 d r f C (by omega)
 hs:=λi e he o=>by obtain⟨k,l,a,b,c,d,f,g⟩:=en.at (i:=i) (by simpa using he);rw[g key]at o;rw[c,(fu k key a B).mp o]
 qk:=se key I B (by omega) r C
 qe:=λe he=>by obtain⟨i,n⟩:=acA.mp (by simpa using he);obtain⟨k,l,a,b,c,d,f,g⟩:=en.at n;exact se k I a (by omega) d f
 rf:=λe he ek=>by obtain⟨i,n⟩:=acA.mp (by simpa using he);obtain⟨k,l,a,b,c,d,f,g⟩:=en.at n;rw[ek]at f;have:=f.inj C;subst this;rw[c,Rel.inj I k key (gG k a).1 (gG key B).1 d r]
 un:=λi j n hj ti p=>by
  obtain⟨e,he⟩:∃e,es[i]? = some e:=⟨_,aag (by simpa using n)⟩
  obtain⟨e',Zo⟩:∃e,es[j]? = some e:=⟨_,aag (by simpa using hj)⟩
  obtain⟨k,l,a,b,c,d,f,g⟩:=en.at he;obtain⟨k',Zp,a',v,c',d',f',g'⟩:=en.at Zo;rw[g key]at ti;rw[g' key]at p;rw[(fu k key a B).mp ti]at b;rw[(fu k' key a' B).mp p]at v;exact(ahk (aab.mp b).1 nd).mp (b.trans v.symm)
 st:=λy tk e0 i e he h=>by
  subst e0;obtain⟨k,l,a,b,c,d,f,g⟩:=en.at (i:=i) (by simpa using he);rw[g key];have kx:key = .str y:=by
   cases key with
   |str z=>simp only[Rel]at r;subst r;obtain⟨t,q⟩:=C;cases q;rfl
   |ax=>simp only[Rel]at r;subst r;cases C|int z=>simp only[Rel]at r;subst r;obtain⟨t,q⟩:=C;cases q
   |tup z=>simp only[Rel]at r;obtain⟨_,_,rfl,_⟩:=r;cases C
   |_=>simp[aW]at B
  subst kx;cases k with
  |str z =>
   simp only[Rel]at d;subst d;obtain⟨t,q⟩:=f;rw[q];simp only[Value.isStr,aF]
  |ax=>simp only[Rel]at d;subst d;rw[f]at h;cases h|int z=>simp only[Rel]at d;subst d;obtain⟨t,q⟩:=f;rw[q]at h;cases h
  |tup z=>simp only[Rel]at d;obtain⟨_,_,rfl,_⟩:=d;rw[show e.key=_ from f]at h;cases h
  |_=>simp[aW]at a
end
section
variable {X:Cx}{b0:List (Addr×Obj)}{σ:L2.St}{H:Hp}{ι:Ix}{s:aac}{A:aaL}{E:Value->aac->Prop}{a:Addr}{xs:List D}{es:List aa3}{c:Nat}{key:D}{x:V}{u:Value}
theorem CM (I:Inv X b0 σ H s)(b:H a=some (dO a es c)):s.heap.get? a=some { cls:=.type "dict",data:=.dict es.toArray (es.length-c) }:=
 (show dj X.prog X.w H s.heap a (dO a es c) from I.aU a _ b).1
theorem uT (I:Inv X b0 σ H s)(b:H a=some (dO a es c)):∃ep,s.heap.get? a=some { cls:=.type "dict",data:=.dict es.toArray ep }:=⟨_,CM I b⟩
theorem AK (I:Inv X b0 σ H s)(b:H a=some (dO a es c)):s.TypeIs (.ref a) "dict":=let⟨_,h⟩:=uT I b;⟨_,h,rfl⟩
theorem tX (I:Inv X b0 σ H s)(hu:A.units+8<cLine)(B:H a=some (dO a es c))(en:Ent X.kw H ι xs es)(nd:(bY xs).Nodup)(q:aW 6 key=true)(r:Rel X.kw H ι key x)(y:RelV x u){Q:Option Value->aac->Prop}
   (J:aK xs key=none->∀tk,Q none { s with toks:=tk }) (C:∀v,aK xs key=some v->∀tk vv z,Rel X.kw H ι v vv->RelV vv z->Q (some z) { s with toks:=tk }):wpAny (model X.prog X.w) A (afD a u) Q E s:=by
 obtain⟨p,f⟩:=uT I B;unfold afD;refine aaW (aaa (qR key I q r y (by omega) λtk=>aaa (r_ (s:={ s with toks:=tk }) f rfl (lJ (I.tok tk) hu en nd q r y) (λz=>?_) (λi b d=>?_))))
 . exact aad (J (en.none_ λi b=>z i (by simpa using b)).1 tk)
 . have K:=lJ (I.tok tk) hu en nd q r y (A:=A)
   obtain⟨e,v,vv,l,o,h,n,_⟩:=en.uS (key:=key) (by simpa using b) d λj k z=>(K.un i j b (by simpa using k) d z).symm;refine aaa (afo (s:={ s with toks:=tk }) f rfl ?_);have:es.toArray[i]? = some e:=by simpa using l
   rw[this];exact aad (C v o tk vv _ h n)
theorem CN (I:Inv X b0 σ H s)(K:H a=some (dO a es c))(en:Ent X.kw H ι xs es)(nd:(bY xs).Nodup)(B:aW 6 key=true)(r:Rel X.kw H ι key x)(C:RelV x u){v:D}(J:aK xs key=some v):
   ∃vv z,Rel X.kw H ι v vv/\RelV vv z /\ ∀{A:aaL} {E:Value->aac->Prop} {Q:Option Value->aac->Prop},A.units+8<cLine->(∀tk,Q (some z) { s with toks:=tk })->wpAny (model X.prog X.w) A (afD a u) Q E s:=by
 obtain⟨ep,o⟩:=uT I K;have hex:∃i,i<es.length/\tq xs key i=true:=by
   refine afy λno=>?_;have:=(en.none_ (key:=key) λi b=>by
    cases h:tq xs key i with
    |false=>rfl|true=>exact absurd ⟨i,b,h⟩ no).1
   rw[J]at this;cases this
 obtain⟨i,b,d⟩:=hex;have un:∀j,j<es.length->tq xs key j=true->j=i:=λj f z=>by obtain⟨k,kv,a1,n,_,_,_,g⟩:=en.at (aag b);obtain⟨k',Zp,a2,l,_,_,_,g'⟩:=en.at (aag f);rw[g]at d;rw[g']at z;rw[(fu k key a1 B).mp d]at n;rw[(fu k' key a2 B).mp z]at l;exact(ahk (aab.mp l).1 nd).mp (l.trans n.symm)
 obtain⟨e,v',vv,y,p,h3,h4,_⟩:=en.uS (key:=key) b d un;rw[J]at p;cases p;refine⟨vv,e.val,h3,h4,fun {A E Q} hu q=>?_⟩;unfold afD;refine aaW (aaa (qR key I B r C (by omega) λtk=>aaa (r_ (s:={ s with toks:=tk }) o rfl (lJ (I.tok tk) hu en nd B r C) (λz=>?_) (λj f tj=>?_))))
 . have:=z i (by simpa using b);rw[d]at this;cases this
 . have:=un j (by simpa using f) tj
   subst this;refine aaa (afo (s:={ s with toks:=tk }) o rfl ?_);have:es.toArray[j]? = some e:=by simpa using y
   rw[this];exact aad (q tk)
theorem nL (I:Inv X b0 σ H s)(hu:A.units+8<cLine)(N:H a=some (dO a es c))(O:c<=es.length)(hz:es.length<=aax)(en:Ent X.kw H ι xs es)(nd:(bY xs).Nodup)(B:aW 6 key=true)(r:Rel X.kw H ι key x)(C:RelV x u){v:D}{J:V}{z:Value}(M:Rel X.kw H ι v J)(L:RelV J z){Q:Unit->aac->Prop}
   (h:∀tk h' c_,Ent X.kw H ι (aP xs key v) c_->(bY (aP xs key v)).Nodup->c_.length<=es.length+1->c<=c_.length->h'.get? a=some { cls:=.type "dict",data:=.dict c_.toArray (c_.length-c) }->acN a s.heap h'->Q () { s with heap:=h',toks:=tk }):
   wpAny (model X.prog X.w) A (dictSet a u z) Q E s:=by
 have d:=CM I N;unfold dictSet;refine aaW (aaa (qR key I B r C (by omega) λtk=>?_));unfold dictSetHashed;refine aaW (aaa (r_ (s:={ s with toks:=tk }) d rfl (lJ (I.tok tk) hu en nd B r C) (λy=>?_) (λi b f=>?_)))
 . obtain⟨_,n⟩:=en.none_ (key:=key) λi b=>y i (by simpa using b)
   obtain⟨e1,e2⟩:=Ent.push (e:=⟨hD X.w key,u,z⟩) B rfl r C M L en;refine aaa (ab8 (wpAny_updateDictKeys (hz:=by simpa using hz) (s:={ s with toks:=tk }) d rfl ?_));refine h tk _ (es ++ [⟨hD X.w key,u,z⟩]) (by rw[n];exact e1) ?_ (by simp) (by simp;omega) ?_ (acb ..)
   . rw[n,e2,aco]
     refine⟨nd,by simp,λk Cu k' o=>?_⟩;simp at o;subst o;rintro rfl;obtain⟨i,b,e⟩:=abR.mp Cu;have p:i<es.length:=by rw[<- en.len];exact b
     obtain⟨k,kv,a1,l,_,_,_,g⟩:=en.at (aag p);rw[aag b,e]at l;cases l;have:=y i (by simpa using p);rw[g,(fu _ _ B B).mpr rfl]at this;cases this
   . have q:=abO (h:=s.heap) (ahR (·.push ⟨hD X.w key,u,z⟩)) d rfl
     rw[q];simp[ahR];omega
 . have K:=lJ (I.tok tk) hu en nd B r C (A:=A)
   obtain⟨e,v0,ab,h1,h2,h3,h4,_,h5⟩:=en.uS (key:=key) (by simpa using b) f λj hj y=>(K.un i j b (by simpa using hj) f y).symm;obtain⟨h6,h7⟩:=h5 v J z M L;refine aaa (ab8 (aaa (wpAny_updateDict (s:={ s with toks:=tk }) d rfl ?_)));refine wpAny_point ?_;refine h tk _ (es.modify i λe=>{ e with val:=z }) h6 (by rw[h7];exact nd) (by simp) (by simpa using O) ?_ (acb ..)
   have q:=abO (h:=s.heap) (Obj.mapDict (·.modify i λe=>{ e with val:=z })) d rfl
   rw[q];simp[Obj.mapDict]
end
end DK
namespace L3
open PyProof.Rows L2 SeqAt DK
def av (b a:D)(g:G):Option (D×G):=match b with
 |.aC n=>(g[n]?).bind λxs=>if aW 6 a=true then(aK xs a).map λd=>(d,g)else none|b=>cz b a g
section
variable {X:Cx}
theorem JQ (hu:X.A.units+64<cLine):mT X (dB X.kw av):=by
 intro value slice b0 s σ H x y v u Q I j o q l;obtain⟨ι,g,d1,f,d,g',G0,e,k,q,p⟩:=q;cases d1 with
 |aC n =>
  simp only[av]at q;obtain⟨xs,hx,q⟩:=bind_some q;split at q
  . rename_i hk
    simp only[Rel]at e;obtain⟨a,rfl,r⟩:=e;cases j;obtain⟨es,vs,c,i,pG,fE,rv,hh,nd,sy,sz,rl⟩:=G0.tR hx r;have en:=Ent.of rv hh rl;cases hv:aK xs f with
    |none=>rw[hv]at q;cases q
    |some dv =>
     rw[hv]at q;cases q;obtain⟨h,z,h1,h2,h3⟩:=CN I i en nd hk k o hv;have b:=AK I i;refine adk (x:=z) b aec.lookup ?_ l;unfold aeS;refine aaW (aaa (aea b (by decide) ?_));refine aaa (abh (name:=aaD "__getitem__") b aec (aa6 aec b entry_dict_getitem ?_ (args_dict_getitem _ _)));show wpAny _ _ (afD a u >>= _) _ _ s;refine aaa (h3 (by rw[in1_units];omega) λtk=>?_);exact aad ⟨z,rfl,aad ⟨rfl,h,H,I.tok tk,h2,p H ι h Ext.refl G0 h1⟩⟩
  . cases q
 |_=>exact JB value slice b0 s σ H x y v u Q I j o ⟨ι,g,_,f,d,g',G0,e,k,q,p⟩ l
theorem NA {a b:Expr}{e d:FE}{c:Pos}(hu:X.A.units+64<cLine)(f:DE X a e)(j:DE X b d)(i:oB b):DE X (.Subscript a b c) (ak av e d):=.of (
 PE.imp (GU (JQ hu) f.un j.un i) λσ H Q h=>qH h)
end
def Hy (a:D)(xs:List D):Option Bool:=if(flat a&&aQ xs&&decide (bp xs<=50))=true then some (xs.any λy=>aF y a)else none
def nM (b a:D)(g:G):Option Bool:=match a with
 |.aC n=>(g[n]?).bind λxs=>if aW 6 b=true then some (aK xs b).isSome else none|a=>(aT a g).bind (Hy b)
def wA (c a:D)(g:G):Option (D×G):=(nM c a g).map λb=>(.bl b,g)
def si (c a:D)(g:G):Option (D×G):=(nM c a g).map λb=>(.bl (!b),g)
theorem CO {c a:D}{g:G}{b:Bool}(h:nM c a g=some b):(∃n,a = .aC n) \/ ∃xs,aT a g=some xs/\Hy c xs=some b:=by
 cases a with
 |aC n=>exact .inl ⟨n,rfl⟩|_=>simp only[nM]at h;exact .inr (bind_some h)
section
variable {X:Cx}
theorem tY:∀{xs:List D} {i:Nat} {d:D},aQ xs=true->xs[i]? = some d->flat d=true/\dep d<=bp xs
 | [],i,d,h,e=>by simp at e|x::xs,0,d,h,e=>by simp at e;subst e;simp only[aQ,aae]at h;exact⟨h.1,by simp only[bp];omega⟩|x::xs,i+1,d,h,e=>by simp only[aQ,aae]at h;obtain⟨a,b⟩:=tY (i:=i) h.2 (by simpa using e);exact⟨a,by simp only[bp];omega⟩
theorem wB {b0:List (Addr×Obj)}{σ:L2.St}{H:Hp}{s:aac}{ι:Ix}(I:Inv X b0 σ H s){A:aaL}{key:D}{x:V}{u:Value}(B:flat key=true)(r:Rel X.kw H ι key x)(C:RelV x u){n:Nat}(hu:A.units+n<cLine):
   ∀{xs:List D} {vs:List V} {us:List Value},aQ xs=true->bp xs<=n->ag X.kw H ι xs vs->Vals vs us->∃e:Value->Bool,(∀y,y∈us->EqAt A s y u (e y))/\us.any e=xs.any (λy=>aF y key):=by
 classical
 intro xs vs us j hn rl l;refine⟨λy=>decide (∃d v,Rel X.kw H ι d v/\RelV v y/\flat d=true/\aF d key=true),λy hy=>?_,?_⟩
 . obtain⟨i,hi,e⟩:=abR.mp hy
   have Zq:i<vs.length:=by rw[l.length];exact hi
   have p:i<xs.length:=by rw[rl.length];exact Zq
   obtain⟨v,h1,f⟩:=rl.get (aag p);obtain⟨z,q,o⟩:=l.get h1;rw[aag hi,e]at q;cases q;obtain⟨f1,f2⟩:=tY j (aag p);have h:=CK I f1 B f r o C (A:=A) (by omega);have:decide (∃d v,Rel X.kw H ι d v/\RelV v y/\flat d=true/\aF d key=true)=aF xs[i] key:=by
    cases hq:aF xs[i] key with
    |true=>exact decide_eq_true ⟨_,_,f,o,f1,hq⟩
    |false =>
     refine decide_eq_false ?_;rintro⟨d,v',a,b,c,k⟩;have:=b.inj o;subst this;rw[Rel.inj I d _ c f1 a f,hq]at k;cases k
   show EqAt A s y u (decide _);rw[this];exact h
 . induction xs generalizing vs us with
   |nil=>simp only[ag]at rl;subst rl;cases l;rfl
   |cons d ds ih =>
    simp only[ag]at rl;obtain⟨v,vr,rfl,f,hr⟩:=rl;cases l with
    |cons r0 rr =>
     simp only[aQ,aae]at j;simp only[bp]at hn;rw[abG,abG,ih j.2 (by omega) hr rr];congr 1;cases hq:aF d key with
     |true=>exact decide_eq_true ⟨_,_,f,r0,j.1,hq⟩
     |false =>
      refine decide_eq_false ?_;rintro⟨d',v',a,b,c,k⟩;have:=b.inj r0;subst this;rw[Rel.inj I d' _ c j.1 a f,hq]at k;cases k
theorem y_ (B:Bool)(hu:X.A.units+64<cLine):bq X (abm (if B then .NotIn else .In)) (dB X.kw λd1 d2 g=>(nM d1 d2 g).map λb=>(.bl (if B then !b else b),g)):=by
 intro b0 s σ H x y v u Q I r ry q;obtain⟨ι,g,d1,d2,d,g',G0,o,r2,q,p⟩:=q;obtain⟨b,h,q⟩:=aak.mp q;cases q;have fin:∀f,EP X b0 σ Q (.bool (if B then !b else b)) { s with toks:=f }:=λf=>⟨.bl _,H,I.tok f,rfl,p H ι _ Ext.refl G0 (by simp[Rel])⟩
 rcases CO h with⟨n,rfl⟩|⟨xs,hx,h⟩
 . simp only[nM]at h
   obtain⟨xs,hx,h⟩:=bind_some h;split at h
   . rename_i hk
     cases h;simp only[Rel]at r2;obtain⟨a,rfl,ha⟩:=r2;cases ry;obtain⟨es,vs,c,hH,pG,fE,rv,hh,nd,sy,sz,rl⟩:=G0.tR hx ha;have en:=Ent.of rv hh rl;have hT:=AK I hH;have core:∀{Q':Bool->aac->Prop},(∀f,Q' (aK xs d1).isSome { s with toks:=f })->wpAny (model X.prog X.w) X.A (contains (.ref a) v) Q' X.xe s:=fun {Q'} fin=>by
       unfold contains;refine aaW (aaa (af0 hT ae9.lookup ?_));refine abo (λz=>by rw[afN]at z;cases z) (λ_=>?_);refine aaa (wpAny_callSpecialUnlessNone?_slot (name:=aaD "__contains__") hT ae9 (aa6 ae9 hT entry_dict_contains ?_ (args_dict_contains _ _)));show wpAny _ _ (afD a v >>= _) _ _ s;refine aaa (tX I (by rw[in1_units];omega) hH en nd hk o r (λhn f=>?_) (λw hs f vv z _ _=>?_))
       . rw[hn]at fin
         show wpAny _ _ (Builtin.Dict.pendingKey? a v >>= _) _ _ _;exact aaa (wpAny_pendingKey_other sy (aad ⟨_,rfl,acG (fin f)⟩))
       . rw[hs]at fin
         show wpAny _ _ (ret (.bool true)) _ _ _;exact aad ⟨_,rfl,acG (fin f)⟩
     cases B with
     |false=>exact(show wpAny _ _ (do return afq (<- contains (.ref a) v)) _ _ s from aaa (core λf=>aad (fin f)))
     |true=>exact(show wpAny _ _ (do return afq (!(<- contains (.ref a) v))) _ _ s from aaa (core λf=>aad (fin f)))
   . cases h
 . unfold Hy at h
   split at h
   . rename_i z
     simp only[aae,decide_eq_true_eq]at z;cases h;obtain⟨a,vs,rfl,l,hr⟩:=kN G0 r2 hx;cases ry;rcases l with l|l
     . obtain⟨au,cU,k,_⟩:=I.list l
       obtain⟨e,j,h2⟩:=wB I (A:=X.A.in1) z.1.1 o r (n:=50) (by rw[in1_units];omega) z.1.2 z.2 hr cU;have fin:=fin s.toks;rw[<- h2]at fin;cases B with
       |false=>exact in_listAt e k.isList (λy i=>j y (by simpa using i)) (by simpa using fin)|true=>exact notIn_listAt e k.isList (λy i=>j y (by simpa using i)) (by simpa using fin)
     . obtain⟨au,cU,k,_⟩:=I.tuple l
       obtain⟨e,j,h2⟩:=wB I (A:=X.A.in1) z.1.1 o r (n:=50) (by rw[in1_units];omega) z.1.2 z.2 hr cU;have fin:=fin s.toks;rw[<- h2]at fin;cases B with
       |false=>exact in_tupleAt e k (λy i=>j y (by simpa using i)) (by simpa using fin)|true=>exact notIn_tupleAt e k (λy i=>j y (by simpa using i)) (by simpa using fin)
   . cases h
theorem NB (hu:X.A.units+64<cLine):bq X (abm .In) (dB X.kw wA):=y_ false hu
theorem CP (hu:X.A.units+64<cLine):bq X (abm .NotIn) (dB X.kw si):=y_ true hu
end
section
variable {X:Cx}{b0:List (Addr×Obj)}{σ:L2.St}{H:Hp}{ι:Ix}{s:aac}{g:G}{a:Addr}{n:Nat}{xs:List D}{es:List aa3}{c:Nat}
theorem qa (I:Inv X b0 σ H s)(l:H a=some (dO a es c)){i:List aa3}{h':Heap}{tk:Nat}(j:h'.get? a=some { cls:=.type "dict",data:=.dict i.toArray (i.length-c) })(p:acN a s.heap h'):
  Inv X b0 σ (upd H a (dO a i c)) { s with heap:=h',toks:=tk }:=by
 refine I.write (x:=a) (e:=a) (o:=dO a i c) (t':=tk) (by rw[l];exact afv) (.inl rfl) (λb u d q=>?_) ⟨_,j⟩ ⟨j,⟨_,j⟩,λf h q k=>k _ q⟩;rw[p.2 b d];exact q
theorem qb (G0:aw X.kw H ι g)(l:dA ι n a true)(q:ι.kd n=c+1)(o:H a=some (dO a es c)){j:List D}{i:List aa3}(en:Ent X.kw H ι j i)(nd:(bY j).Nodup)(k:(a == adh)=false)(p:c<=i.length)(sz:i.length<=aax):
  aw X.kw (upd H a (dO a i c)) ι (g.set n j):=by
 obtain⟨h,e,f,b⟩:=en.out;exact G0.Mu l o (by rw[q];exact .d c i e p f h nd k sz) b
end
def iz (xs:List D):Bool:=az (xs.length / 2+1)
def kh (o i v:D)(g:G):Option G:=match o with
 |.aC n=>(g[n]?).bind λxs=>if(aW 6 i&&iz xs)=true then some (g.set n (aP xs i v))else none|o=>putD o i v g
inductive HA (K:KW)(o i v:V)(H:Hp)(Q:Hp->Prop):Prop
 |mk (ι:Ix) (g:G) (d1 d2 d3:D) (g':G) (h0:aw K H ι g) (h1:Rel K H ι d1 o) (h2:Rel K H ι d2 i) (h3:Rel K H ι d3 v) (h4:kh d1 d2 d3 g=some g') (h5:∀H' ι',Ext H ι H' ι'->aw K H' ι' g'->Q H'):HA K o i v H Q
theorem sj {K H ι}{xs:List D}{es:List aa3}(en:Ent K H ι xs es):xs.length=2*es.length:=by
 induction en with
 |nil=>rfl|cons _ _ _ _ _ _ _ ih=>simp[ih];omega
section
variable {X:Cx}
theorem JR (hu:X.A.units+64<cLine):EE X (HA X.kw):=by
 intro b0 s σ H o i v ov iv u Q I z y rv q;obtain⟨ι,g,d1,d2,d3,g',G0,f,l,r3,q,p⟩:=q;cases d1 with
 |aC n =>
  simp only[kh]at q;obtain⟨xs,e,q⟩:=bind_some q;split at q
  . rename_i x
    simp only[aae]at x;cases q;simp only[Rel]at f;obtain⟨a,rfl,b⟩:=f;cases z;obtain⟨es,vs,c,d,pG,fE,CQ,hh,nd,sy,sz,rl⟩:=G0.tR e b;have en:=Ent.of CQ hh rl;have h:=AK I d;have hz:=az.le x.2;rw[sj en]at hz;unfold ag7;refine aaW (aaa (aea h (by decide) ?_));refine aaa (abh (name:=aaD "__setitem__") h slot_dict_setitem (aa6 slot_dict_setitem h entry_dict_setitem ?_ (args_dict_setitem _ _ _)));show wpAny _ _ (Builtin.Dict.notOrdered "__setitem__" ⟨[.ref a,iv,u],[]⟩ >>= _) _ _ s;refine aaa (agn h ?_);show wpAny _ _ (dictSet a iv u >>= _) _ _ s;refine aaa (nL I (by rw[in1_units];omega) d fE sz en nd x.1 l y r3 rv λtk h' c_ e1 e2 e3 e0 e4 e5=>aad ⟨.none,rfl,aad ?_⟩);exact⟨_,qa I d e4 e5,p _ ι (Ext.put b d) (qb G0 b pG d e1 e2 sy e0 (by omega))⟩
  . cases q
 |ref n =>
  refine set_list b0 s σ H o i v ov iv u Q I z y rv ?_;simp only[kh,putD]at q;cases d2 with
  |int k =>
    simp only[Rel]at f l;obtain⟨a,rfl,b⟩:=f;subst l;dsimp only at q;cases e:g[n]? with
    |none=>rw[e]at q;cases q
    |some xs =>
     rw[e]at q;dsimp only at q;cases hj:iu xs.length k with
     |none=>rw[hj]at q;cases q
     |some j =>
      rw[hj]at q;cases q;obtain⟨vs,r,hr⟩:=G0.at e b;exact⟨a,vs,k,j,rfl,rfl,r,by rw[<- hr.length];exact hj,p _ ι (Ext.put b r) (G0.put b r (ag.set r3 j hr))⟩
  |_=>cases q
 |_=>cases q
def el (c b:FE):FG:=λv σ g=>(c σ g).bind λr=>(b σ r.2).bind λq=>(kh r.1 q.1 v q.2).map λa=>(σ,a)
theorem JS {o i:Expr}{E C:FE}{B:Pos}(hu:X.A.units+64<cLine)(J:DE X o E)(I:DE X i C)
  (K:∀v,adG (.Subscript o i B) X.env v=(do
   let ov <- ac1 [v] (eval o X.env);let iv <- ac1 [v,ov] (eval i X.env)
   age B
   ac1 [v,ov,iv] (ag7 ov iv v)
   release [v,ov,iv] [])):DG X (.Subscript o i B) (el E C):=.of (PG.imp (Lq J.un I.un (JR hu) K) λv σ H Q h=>by
 obtain⟨ι,σd,g,d,bC,s,G0,S0,r,h,p⟩:=h;obtain⟨⟨d1,g1⟩,n,h⟩:=bind_some h;obtain⟨⟨e,g2⟩,h2,h⟩:=bind_some h;refine tD.bind G0 S0 n λH1 ι1 v1 b G1 l k=>?_;refine tD.bind G1 l h2 λH2 y v2 a u f z=>?_;obtain⟨g3,x,h⟩:=aak.mp h;cases h;exact⟨y,g2,d1,e,d,s,u,Rel.ext a _ k,z,Rel.ext (b.trans a) _ r,x,λj q c G'=>p j q σ ((b.trans a).trans c) G' (f.ext c)⟩)
end
inductive Tn (K:KW)(iA:D->Bool)(m:D->List D->G->Option (D×G))(x:V)(xs:List V)(H:Hp)(Q:VK):Prop
 |mk (ι:Ix) (g:G) (d:D) (ds:List D) (d':D) (g':G) (h0:aw K H ι g) (h1:Rel K H ι d x) (h2:ag K H ι ds xs) (h3:iA d=true) (h4:m d ds g=some (d',g')) (h5:fN K H ι d' g' Q):Tn K iA m x xs H Q
structure MR (X:Cx)(T:String)(name:Str)(id:String)(iA:D->Bool)(m:D->List D->G->Option (D×G)):Prop where
 pa:PlainAttrs T
 slot:Slot T name id
 ty:typeOf (.builtin id)=pure (.type "method_descriptor")
 is:∀{b0:List (Addr×Obj)} {σ:L2.St} {H:Hp} {s:aac} {ι:Ix} {g:G} {d:D} {x:V} {v:Value},Inv X b0 σ H s->aw X.kw H ι g->Rel X.kw H ι d x->RelV x v->iA d=true->s.TypeIs v T /\ ∀a,v = .ref a->∃ob,s.heap.get? a=some ob/\ob.dict=none
 run:LZ X id (Tn X.kw iA m)
noncomputable def eZ (b:D->Bool)(m:D->List D->G->Option (D×G))(a:FE)(fr:FA):FE:=λσ g=>(a σ g).bind λr=>if b r.1=true then(fr σ r.2).bind λq=>m r.1 q.1 q.2 else none
section
variable {X:Cx}{T:String}{name:Str}{id:String}{iA:D->Bool}{m:D->List D->G->Option (D×G)}{o e:Expr}{es:List Expr}{fo:FE}{fr:FA}{apos cM:Pos}
theorem NC (R:MR X T name id iA m)(A:DE X o fo)(C:DA X (e::es) fr)(K:aek o name X.env (eval o X.env)=eval o X.env)
   (B:((acm cM (aay (e::es) X.env)).all (λx=>!x.1)&&(backToKw cM (ahp [] X.env)).all (λx=>x.1.isSome)
    && decide ((e::es).length+([]:List aeT).length+(if([]:List aeT).isEmpty then 0 else 1)<30))=true)
   (L:(apos.endLine == cM.line)=true) (E:aay (e::es) X.env=(false,eval e X.env)::aay es X.env) (J:(acm cM (aay es X.env)).any (·.1)=false):
   DE X (.Call (.Attribute o name apos) (e::es) [] cM) (eZ iA m fo fr):=.of (by
 intro b0 s σ H Q I h;obtain⟨ι,σd,g,d,g',G0,S0,h,p⟩:=h;obtain⟨⟨d1,g1⟩,h1,h⟩:=bind_some h;dsimp only at h;split at h
 . rename_i z
   obtain⟨⟨ds,g2⟩,h2,h⟩:=bind_some h;refine af8 K B L rfl (aY (A.un b0 s σ H (λx H1=>∃a,Ext H ι H1 a/\aw X.kw H1 a g1/\bo X.kw H1 a σd σ/\Rel X.kw H1 a d1 x) I (tD.bind G0 S0 h1 λH1 a v l k n i=>⟨a,l,k,n,i⟩)) λv s1 ⟨x,H1,I1,y,a,l,k,n,i⟩=>?_);obtain⟨t1,t2⟩:=R.is I1 k i y z;refine⟨T,id,R.pa,R.slot,R.ty,t1,t2,?_⟩;have u:=C.un cM b0 s1 σ H1 _ I1 (iZ.bind k n h2 λc b f j q S2 r=>(⟨b,j,q,r⟩:(λ(f:List V) (c:Hp)=>∃b,Ext H1 a c b/\aw X.kw c b g2/\ag X.kw c b ds f) f c));rw[E]at u ⊢
   refine aee (by show(false||(acm cM (aay es X.env)).any (·.1))=false;rw[J]<;>rfl) (ags ?_)
   refine aY u λus s2 ⟨f,c,I2,r,b,j,q,rs⟩=>?_;exact R.run b0 s2 σ c x f v us Q I2 y r ⟨b,g2,d1,ds,d,g',q,Rel.ext j _ i,rs,z,h,p.mono (l.trans j)⟩
 . cases h)
theorem JT (R:MR X T name id iA m)(B:DE X o fo)(A:aek o name X.env (eval o X.env)=eval o X.env)(C:(apos.endLine == cM.line)=true):
   DE X (.Call (.Attribute o name apos) [] [] cM) (eZ iA m fo aj):=.of (by
 intro b0 s σ H Q I h;obtain⟨ι,y,g,d,q,G0,u,h,p⟩:=h;obtain⟨⟨l,g1⟩,n,h⟩:=bind_some h;dsimp only at h;split at h
 . rename_i j
   obtain⟨⟨ds,g2⟩,z,h⟩:=bind_some h;cases z;refine wpAny_Call_method0_late A C (aY (B.un b0 s σ H (λx H1=>∃a,Ext H ι H1 a/\aw X.kw H1 a g1/\bo X.kw H1 a y σ/\Rel X.kw H1 a l x) I (tD.bind G0 u n λH1 a v e c f b=>⟨a,e,c,f,b⟩)) λv s1 ⟨x,H1,k,i,a,e,c,f,b⟩=>?_);obtain⟨t1,r⟩:=R.is k c b i j;refine⟨T,id,R.pa,R.slot,R.ty,t1,r,aee rfl (PySem.evalArgs_none ?_)⟩;exact R.run b0 s1 σ H1 x [] v [] Q k i .nil ⟨a,g1,l,[],d,q,c,b,by simp[ag],j,h,p.mono e⟩
 . cases h)
end
noncomputable def jD:D->Bool
 |.aC _=>true|_=>false
theorem wC {X:Cx}{b0:List (Addr×Obj)}{σ:L2.St}{H:Hp}{s:aac}{ι:Ix}{g:G}{d:D}{x:V}{v:Value}(I:Inv X b0 σ H s)(G0:aw X.kw H ι g)(r:Rel X.kw H ι d x)(q:RelV x v)(h:jD d=true):
  s.TypeIs v "dict" /\ ∀a,v = .ref a->∃ob,s.heap.get? a=some ob/\ob.dict=none:=by
 cases d with
 |aC n =>
  simp only[Rel]at r;obtain⟨a,rfl,f⟩:=r;cases q;have j:n<g.length:=by rw[<- G0.len];exact(aab.mp f.1).1
  obtain⟨l,o,c,k,_⟩:=G0.tR (aag j) f;obtain⟨p,i⟩:=uT I k;refine⟨⟨_,i,rfl⟩,λb e=>?_⟩;cases e;exact⟨_,i,rfl⟩
 |_=>cases h
def ki (d:D)(ds:List D)(g:G):Option (D×G):=match d,ds with
 |.aC n,[k]=>(g[n]?).bind λxs=>if aW 6 k=true then some ((aK xs k).getD .ax,g)else none|.aC n,[k,x]=>(g[n]?).bind λxs=>if aW 6 k=true then some ((aK xs k).getD x,g)else none|_,_=>none
theorem vals1 {x:V}{us:List Value}(r:Vals [x] us):∃u,us = [u]/\RelV x u:=by
 cases r with
 |cons a b=>cases b;exact⟨_,rfl,a⟩
theorem ND {X:Cx}(hu:X.A.units+64<cLine):MR X "dict" "get" "dict.get" jD ki where
 pa:=PySem.F.plainAttrs_dict
 slot:=aev
 ty:=PySem.F.type_dict_get
 is:=wC
 run:=by
  intro b0 s σ H x xs v us Q I rx rs q;obtain⟨ι,g,d,ds,d',g',G0,r1,rl,hT,q,p⟩:=q;have GW:=(wC I G0 r1 rx hT).1;cases d with
  |aC n =>
   simp only[Rel]at r1;obtain⟨a,rfl,ha⟩:=r1;cases rx;have core:∀{k dflt:D} {i:List D} {e dv:V} {r du:Value} {Q':Fin->aac->Prop},g[n]? = some i->aW 6 k=true->Rel X.kw H ι k e->RelV e r->Rel X.kw H ι dflt dv->RelV dv du->fN X.kw H ι ((aK i k).getD dflt) g Q ->
      (∀v o,EP X b0 σ Q v o->Q' (.done (.ret v)) o)->wpAny (model X.prog X.w) X.A.in1 (do
       if let some v <- afD a r then return <- ret v
       match <- Builtin.Dict.missed a r with
       |some v=>ret v|none=>ret du) Q' X.xe s:=by
    intro k dflt i e dv r du Q' l f j NF rd Zr p hQ;obtain⟨es,vs,c,hH,pG,fE,rv,hh,nd,sy,sz,rl⟩:=G0.tR l ha;have en:=Ent.of rv hh rl;refine aaa (tX I (by rw[in1_units];omega) hH en nd f j NF (λhn tk=>?_) (λw hs tk vv z b rz=>?_))
    . rw[hn]at p
      exact aaa (wpAny_missed_other sy (aad (hQ _ _ ⟨_,H,I.tok tk,Zr,p H ι _ Ext.refl G0 rd⟩)))
    . rw[hs]at p
      exact aad (hQ _ _ ⟨_,H,I.tok tk,rz,p H ι _ Ext.refl G0 b⟩)
   match ds,q,rl with
   | [k],q,rl =>
    simp only[ki]at q;obtain⟨i,l,q⟩:=bind_some q;split at q
    . rename_i f
      cases q;simp only[ag]at rl;obtain⟨e,_,rfl,j,rfl⟩:=rl;obtain⟨u,rfl,ru⟩:=vals1 rs;exact aa6 aev GW agc (core (dflt:=.ax) (dv:=.ax) (du:=.none) l f j ru (by simp[Rel]) rfl p λv o h=>⟨v,rfl,h⟩) (PySem.F.args_dict_get_2 _ _)
    . cases q
   | [k,y],q,rl =>
    simp only[ki]at q;obtain⟨i,l,q⟩:=bind_some q;split at q
    . rename_i f
      cases q;simp only[ag]at rl;obtain⟨e,_,rfl,j,yv,_,rfl,ry,rfl⟩:=rl;obtain⟨u,w',rfl,ru,b⟩:=vals2 rs;exact aa6 aev GW agc (core (dflt:=y) l f j ru ry b p λv o h=>⟨v,rfl,h⟩) (PySem.F.args_dict_get_3 _ _ _)
    . cases q
   | [],q,rl=>cases q|_::_::_::_,q,rl=>cases q
  |_=>cases hT
noncomputable def oJ:FE:=λ_ g=>some (.aC g.length,g ++ [[]])
section
variable {X:Cx}
theorem JU {n:Pos}:DE X (.Dict [] [] n) oJ:=.of (by
 intro b0 s σ H Q I h;obtain⟨ι,i,g,d,f,G0,l,h,p⟩:=h;cases h;have hf:H s.heap.objs.size=none:=I.aU.fresh (aal _);have a:∀h:Heap,(h.push { cls:=.type "dict",data:=.dict #[] }).get? h.objs.size=some { cls:=.type "dict",data:=.dict #[] }:=λh=>aaq _ rfl;refine wpAny_Dict_empty ⟨.ref s.heap.objs.size,upd H s.heap.objs.size (dO s.heap.objs.size [] 0),I.laid (t':=s.toks) (λb u e=>aaf _ e) (aal _) ?_,rfl,p _ _ _ (Ext.gA (b:=1) hf) (G0.gA hf (.d 0 [] [] (aaR _) .nil .nil (by simp[bY]) (beq_eq_false_iff_ne.mpr (aaN (aaH (big I)))) (aaR _)) (by simp[ag])) ?_⟩
 . exact⟨a _,⟨_,a _⟩,λc j q k=>k _ q⟩
 . simp only[Rel]
   exact⟨_,rfl,dA.new G0.len⟩)
end
noncomputable def sk:List (FE×FE)->Sg->G->Option (List (D×D)×G)
 | [],_,g=>some ([],g)|p::r,σ,g=>(p.1 σ g).bind λa=>(p.2 σ a.2).bind λb=>(sk r σ b.2).bind λq=>some ((a.1,b.1)::q.1,q.2)
def putAll (n:Nat):List (D×D)->G->Option G
 | [],g=>some g|p::r,g=>(kh (.aC n) p.1 p.2 g).bind λa=>putAll n r a
def nO (ps:List (FE×FE)):FE:=λσ g=>(sk ps σ (g ++ [[]])).bind λq=>(putAll g.length q.1 q.2).map λa=>(.aC g.length,a)
inductive kP (K:KW)(H:Hp)(ι:Ix):List (D×D)->List (Value×Value)->Prop
 |nil:kP K H ι [] []
 |cons {d1 d2:D} {x y:V} {u v:Value} {ds us} (h1:Rel K H ι d1 x) (h2:RelV x u) (h3:Rel K H ι d2 y) (h4:RelV y v) (r:kP K H ι ds us):kP K H ι ((d1,d2)::ds) ((u,v)::us)
theorem kP.ext {K H ι H' a ds us}(r:kP K H ι ds us)(e:Ext H ι H' a):kP K H' a ds us:=by
 induction r with
 |nil=>exact .nil|cons h1 h2 h3 h4 _ ih=>exact .cons (Rel.ext e _ h1) h2 (Rel.ext e _ h3) h4 ih
section
variable {X:Cx}
noncomputable def f_ (X:Cx):List (Option Expr)->List Expr->List (FE×FE)->Prop
 | [],[],[]=>True|some k::ks,v::vs,p::r=>DE X k p.1/\DE X v p.2/\f_ X ks vs r|_,_,_=>False
theorem wD {B:Pos}:∀(ps:List (FE×FE)) (keys:List (Option Expr)) (vals:List Expr),f_ X keys vals ps->∀{b0:List (Addr×Obj)} {s:aac} {σ:L2.St} {H:Hp} {ι:Ix} {σd:Sg} {g g':G} {ds:List (D×D)},Inv X b0 σ H s->aw X.kw H ι g->bo X.kw H ι σd σ->sk ps σd g=some (ds,g') ->
  wpAny (model X.prog X.w) X.A (evalPairs (pairTrees keys vals X.env B)) (λus s'=>∃H' ι',Inv X b0 σ H' s'/\Ext H ι H' ι'/\aw X.kw H' ι' g'/\kP X.kw H' ι' ds us) X.xe s
 | [],keys,vals,hd,b0,s,σ,H,ι,σd,g,g',ds,I,G0,S0,h=>by
  have e:keys = []/\vals = []:=by
    cases keys with
    |nil=>cases vals with|nil=>exact⟨rfl,rfl⟩|cons _ _=>exact hd.elim
    |cons k _=>cases k<;>cases vals<;>exact hd.elim
  obtain⟨rfl,rfl⟩:=e;cases h;exact pairTrees_nil_walk ⟨H,ι,I,Ext.refl,G0,.nil⟩
 |p::ps,keys,vals,hd,b0,s,σ,H,ι,σd,g,g',ds,I,G0,S0,h=>by
  obtain⟨k,b,v,d,rfl,rfl,z,h2,h3⟩:∃k b v d,keys=some k::b/\vals=v::d/\DE X k p.1/\DE X v p.2/\f_ X b d ps:=by
    cases keys with
    |nil=>cases vals<;>exact hd.elim
    |cons k b =>
     cases k with
     |none=>cases vals<;>exact hd.elim
     |some k =>
      cases vals with
      |nil=>exact hd.elim|cons v d=>exact⟨k,b,v,d,rfl,rfl,hd⟩
  . simp only[sk]at h
    obtain⟨⟨q,g1⟩,u,h⟩:=bind_some h;obtain⟨⟨o,g2⟩,e2,h⟩:=bind_some h;obtain⟨⟨dr,g3⟩,e3,h⟩:=bind_some h;cases h;refine pairTrees_cons_walk (aY (z.un b0 s σ H (λw H'=>∃a,Ext H ι H' a/\aw X.kw H' a g1/\Rel X.kw H' a q w) I ⟨ι,σd,g,q,g1,G0,S0,u,λH1 a w e n r=>⟨a,e,n,r⟩⟩) λu1 s1 q1=>?_);obtain⟨w1,H1,I1,CS,a,l,n,x⟩:=q1;refine aY (h2.un b0 s1 σ H1 (λw H'=>∃c,Ext H1 a H' c/\aw X.kw H' c g2/\Rel X.kw H' c o w) I1 ⟨a,σd,g1,o,g2,n,S0.ext l,e2,λH2 c w e i r=>⟨c,e,i,r⟩⟩) λu2 s2 q2=>?_;obtain⟨w2,H2,y,zb,c,f,i,r2⟩:=q2;refine aY (wD ps b d h3 y i ((S0.ext l).ext f) e3) λus s3 q3=>?_;obtain⟨H3,ι3,I3,j,G3,r3⟩:=q3;exact⟨H3,ι3,I3,(l.trans f).trans j,G3,.cons (Rel.ext (f.trans j) _ x) CS (Rel.ext j _ r2) zb r3⟩
theorem wF (hu:X.A.units+64<cLine){a:Addr}{n:Nat}{E:Value->aac->Prop}:∀(ds:List (D×D)) (us:List (Value×Value)) {b0:List (Addr×Obj)} {s:aac} {σ:L2.St} {H:Hp} {ι:Ix} {g g':G} {Q:PUnit->aac->Prop},Inv X b0 σ H s->aw X.kw H ι g->dA ι n a true->kP X.kw H ι ds us->putAll n ds g=some g' ->
  (∀s' H',Inv X b0 σ H' s'->Ext H ι H' ι->aw X.kw H' ι g'->Q agz s') ->
  wpAny (model X.prog X.w) X.A (forIn us agz λ(x:Value×Value) (_:PUnit)=>(do dictSet a x.1 x.2;pure (acD agz):Sem (ForInStep PUnit))) Q E s
 | [],us,b0,s,σ,H,ι,g,g',Q,I,G0,ha,r,h,p=>by cases r;cases h;rw[ad6];exact aad (p s H I Ext.refl G0)
 | (k,v)::ds,us,b0,s,σ,H,ι,g,g',Q,I,G0,ha,r,h,p=>by
  cases r with
  |cons h1 h2 h3 h4 r =>
   simp only[putAll,kh]at h;obtain⟨g1,d,h⟩:=bind_some h;obtain⟨xs,hx,d⟩:=bind_some d;split at d
   . rename_i e
     simp only[aae]at e;cases d;obtain⟨es,vs,c,b,o,z,q,hh,nd,u,sz,rl⟩:=G0.tR hx ha;have f:=Ent.of q hh rl;have hz:=az.le e.2;rw[sj f]at hz;rw[acQ];refine aaa (aaa (nL I (by omega) b z sz f nd e.1 h1 h2 h3 h4 λtk h' c_ i l e3 e0 e4 e5=>aad ?_));refine wF hu ds _ (qa I b e4 e5) (qb G0 ha o b i l u e0 (by omega)) ha (r.ext (Ext.put ha b)) h λs' H' j x' y=>?_;exact p s' H' j ((Ext.put ha b).trans x') y
   . cases d
theorem Fy (hu:X.A.units+64<cLine){keys:List (Option Expr)}{B:List Expr}{C:Pos}{ps:List (FE×FE)}(L:f_ X keys B ps)(E:keys.all (·.isSome)=true)(J:keys.length=B.length)(M:keys ≠ [])(K:keys.length<=15):
  DE X (.Dict keys B C) (nO ps):=.of (by
 intro b0 s σ H Q I h;obtain⟨ι,σd,g,d,g',G0,S0,h,p⟩:=h;obtain⟨⟨ds,g1⟩,i,h⟩:=bind_some h;obtain⟨g2,n,h⟩:=aak.mp h;cases h;have a:=pairTrees_length keys B X.env C E J;have eL:pairTrees keys B X.env C ≠ []:=λhe=>by rw[he]at a;exact M (acJ.mp a.symm)
 rw[arm_eval_Dict,zip_pairTrees keys B X.env C E J,dictDisplay_pairs _ eL (by rw[a];omega)];have hf:H s.heap.objs.size=none:=I.aU.fresh (aal _);have j:∀h:Heap,(h.push { cls:=.type "dict",data:=.dict #[] }).get? h.objs.size=some { cls:=.type "dict",data:=.dict #[] }:=λh=>aaq _ rfl;have I1:Inv X b0 σ (upd H s.heap.objs.size (dO s.heap.objs.size [] 0)) { s with heap:=s.heap.push { cls:=.type "dict",data:=.dict #[] } }:=I.laid (t':=s.toks) (λb u e=>aaf _ e) (aal _) ⟨j _,⟨_,j _⟩,λi n q k=>k _ q⟩;have l:Ext H ι (upd H s.heap.objs.size (dO s.heap.objs.size [] 0)) (ι.more s.heap.objs.size 1):=Ext.gA (b:=1) hf;have G1:aw X.kw (upd H s.heap.objs.size (dO s.heap.objs.size [] 0)) (ι.more s.heap.objs.size 1) (g ++ [[]]):=G0.gA hf (.d 0 [] [] (aaR _) .nil .nil (by simp[bY]) (beq_eq_false_iff_ne.mpr (aaN (aaH (big I)))) (aaR _)) (by simp[ag]);have m7:dA (ι.more s.heap.objs.size 1) g.length s.heap.objs.size true:=dA.new G0.len;refine aaa (aei (aaa ?_));unfold subDict;refine aaa (af_ ?_);refine aaa (aaW ?_);rw[if_pos (by rw[a];exact K)];refine aaa (aY (wD ps keys B L I1 G1 (S0.ext l) i) λus s1 q=>?_);obtain⟨H1,y,o,c,v,rp⟩:=q;refine aaW (aaa (wF hu ds us o v (c.at m7) rp n λs' f r z x=>aad (aad (aad ?_))));refine⟨.ref s.heap.objs.size,f,r,rfl,p f y _ ((l.trans c).trans z) x ?_⟩;simp only[Rel];exact⟨_,rfl,c.at m7⟩)
end
end L3
namespace L3
open PyProof.Rows L2
noncomputable def sN:Bool->String
 |true=>"list"|false=>"tuple"
noncomputable def iN:Bool->String
 |true=>"list_iterator"|false=>"tuple_iterator"
def fG (b:Bool)(h:Heap)(a:Addr)(xs:Array Value):Prop:=∃o,h.get? a=some o/\o.cls = .type (sN b) /\ ∃n,o.data = .seq xs n
def eN (b:Bool)(h:Heap)(j a:Addr)(i:Nat):Prop:=∃o,h.get? j=some o/\o.cls = .type (iN b)/\o.data = .fields #[.ref a,.int i 0]
theorem fG.extBut {c:Bool}{h h':Heap}{a b items}(x:fG c h a items)(d:aeZ b h h')(e:a≠b):fG c h' a items:=let⟨o,ho,r⟩:=x;⟨o,d a o e ho,r⟩
theorem eN.at {b:Bool}{h h':Heap}{j a i}(x:eN b h j a i)(k:∀o,h.get? j=some o->h'.get? j=some o):eN b h' j a i:=let⟨o,ho,r⟩:=x;⟨o,k o ho,r⟩
def nQ (K:aat):Bool->Hp->Addr->List V->Prop
 |true=>cS K|false=>eS K
section
variable {prog:aaG}{w:World}{A:aaL}{E:Value->aac->Prop}{s:aac}
theorem my {c:Bool}{b l:Addr}{i:Nat}{items}{x:Value}{Q:Value->aac->Prop}(a:eN c s.heap b l i)(f:fG c s.heap l items)(d:items[i]? = some x)
   (e:∀h',eN c h' b l (i+1)->acN b s.heap h'->Q x { s with heap:=h' }):wpAny (model prog w) A (aa9 (.ref b)) Q E s:=by
 cases c
 . exact uE a f d e
 . exact wpAny_nextOf_list_item a f d e
theorem tZ {c:Bool}{b l:Addr}{i:Nat}{items}{Q:Value->aac->Prop}(hh:A.handled=none)(a:eN c s.heap b l i)(h:fG c s.heap l items)(f:items[i]? = none)
   (d:∀h' e,aeZ b s.heap h'->(∃o,h'.get? e=some o/\o.cls = .type "StopIteration")->E (.ref e) { s with heap:=h' }):wpAny (model prog w) A (aa9 (.ref b)) Q E s:=by
 cases c
 . exact wq hh a h f d
 . exact agl hh a h f d
theorem HB {a:Bool}{l:Addr}{items}{Q:Value->aac->Prop}(b:fG a s.heap l items)
   (c:Q (.ref s.heap.objs.size) { s with heap:=s.heap.push { cls:=.type (iN a),data:=.fields #[.ref l,.int 0 0] } }):wpAny (model prog w) A (agf (.ref l)) Q E s:=by
 cases a
 . exact wpAny_pyIter_tuple b c
 . exact ad_ b c
end
section
variable {X:Cx}{b0:List (Addr×Obj)}{σ:L2.St}{H:Hp}{s:aac}{a:Addr}{xs ys:List V}
theorem so {b:Bool}(I:L2.Inv X b0 σ H s)(h:nQ X.K b H a xs):∃au:List Value,Vals xs au/\fG b s.heap a au.toArray/\xs.length<=aax:=by
 cases b
 . exact I.tuple h
 . obtain⟨au,r,p,z⟩:=I.list h
   exact⟨au,r,p.isList,z⟩
theorem wG {b:Bool}(I:L2.Inv X b0 σ H s)(h:nQ X.K b H a xs)(h':nQ X.K b H a ys):xs=ys:=by
 cases b
 . exact I.nt h h'
 . exact I.lZ h h'
end
section
variable {prog:aaG}{w:World}{A:aaL}{E:Value->aac->Prop}{s:aac}
theorem CT {J C:Bool}{z H B K I a1 a2:Addr}{L k2:Nat}{xs ys:Array Value}{x y p q:Value}{Q:Value->aac->Prop}(D:ZA z H B K I a1 a2)(hz:IsZip s.heap z H B .none)(T:acv s.heap H (.ref K) (.ref I))(S:acv s.heap B p q)
  (U:eN J s.heap K a1 L) (W:eN C s.heap I a2 k2) (O:fG J s.heap a1 xs) (M:fG C s.heap a2 ys) (P:xs[L]? = some x) (R:ys[k2]? = some y)
  (N:∀h',IsZip h' z H B (ac3 s.heap.objs.size)->acv h' B x y->eN J h' K a1 (L+1)->eN C h' I a2 (k2+1)->acv h' s.heap.objs.size x y->cu [z,B,K,I] s.heap h'->Q (.ref s.heap.objs.size) { s with heap:=h' }):
  wpAny (model prog w) A (ab5.«zip.__next__» ⟨[.ref z],[]⟩) (λfin s'=>∃v,fin = .done (.ret v)/\Q v s') E s:=by
 change wpAny _ _ (field (.ref z) 2 >>= λ_=>_) _ _ _;refine aaa (ab1 hz rfl (x:=.bool false) rfl ?_);change wpAny _ _ (field (.ref z) 3 >>= λ_=>_) _ _ _;refine aaa (ab1 hz rfl (x:=.ref H) rfl ?_);refine aaa (acj T rfl ?_);change wpAny _ _ (ack (.ref z) >>= λ_=>_) _ _ _;refine aaa ?_;unfold ack;refine aaa (ab1 hz rfl (x:=.none) rfl (aad ?_));simp only[if_true];refine aaa (ab8 (aaa (ab1 hz rfl (x:=.ref B) rfl (aaa (acO hz (by simp) λb1 z1 f=>aaa ?_)))));simp only[ahH,ahS,acQ,ad6];have y1:IsZip b1 z H B .ellipsis:=z1;have v1:=f.2;refine aaa (aaa (afh ?_));change wpAny _ _ (aa9 (.ref K) >>= λ_=>_) _ _ _;refine aaa (my (U.at λo e=>(v1 _ D.n3).trans e) (O.extBut f.extBut D.m1.1) P λb2 u2 a=>aad ?_);have w2:acv b2 B p q:=(a.2 _ D.n6).trans ((v1 _ D.n2).trans S);refine aaa (acj w2 rfl (aaa (aeI w2 λj w3 b=>aaa (aht (aad ?_)))));have Zt:acv j B x q:=w3;refine aaa (aaa (afh ?_));change wpAny _ _ (aa9 (.ref I) >>= λ_=>_) _ _ _;have i2:eN C j I a2 k2:=W.at λo e=>(b.2 _ (aaN D.n7)).trans ((a.2 _ (aaN D.n8)).trans ((v1 _ D.n4).trans e));have l2:fG C j a2 ys:=((M.extBut f.extBut D.m2.1).extBut a.extBut D.m2.2.2.1).extBut b.extBut D.m2.2.1;refine aaa (my i2 l2 R λb4 u4 d=>aad ?_);have w4:acv b4 B x q:=(d.2 _ D.n7).trans Zt;refine aaa (acj w4 rfl (aaa (aeI w4 λb5 w5 h=>aaa (aht (aad (aad ?_))))));have To:acv b5 B x y:=w5;refine aaa (acj To rfl (aaa (wpAny_newTuple ?_)));have sz:b5.objs.size=s.heap.objs.size:=by rw[h.1,d.1,b.1,a.1,f.1]
 have l:IsZip b5 z H B .ellipsis:=(h.2 _ (aaN D.n2)).trans ((d.2 _ (aaN D.n4)).trans ((b.2 _ (aaN D.n2)).trans ((a.2 _ (aaN D.n3)).trans y1)));have r1:eN J b5 K a1 (L+1):=u2.at λo e=>(h.2 _ (aaN D.n6)).trans ((d.2 _ D.n8).trans ((b.2 _ (aaN D.n6)).trans e));have r2:eN C b5 I a2 (k2+1):=u4.at λo e=>(h.2 _ (aaN D.n7)).trans e;have Zu:cu [z,B,K,I] s.heap b5:=((((cu.of f (by simp)).tr (cu.of a (by simp))).tr (cu.of b (by simp))).tr (cu.of d (by simp))).tr (cu.of h (by simp));change wpAny _ _ (adZ (.ref z) (.ref b5.objs.size) >>= λ_=>_) _ _ _;refine aaa ?_;unfold adZ;have y6:IsZip (b5.push { cls:=.type "tuple",data:=.seq #[x,y] }) z H B .ellipsis:=aaf _ l;refine aaa (acO y6 (by simp) λb7 z7 r=>?_);have y7:IsZip b7 z H B (ac3 b5.objs.size):=z7;refine acO y7 (by simp) λi z8 u=>aad ⟨_,rfl,?_⟩;have y8:IsZip i z H B (ac3 b5.objs.size):=z8;have Tp:z<b5.objs.size:=aas l;have up:∀c o,c≠z->b5.get? c=some o->i.get? c=some o:=λc o n e=>(u.2 c n).trans ((r.2 c n).trans (aaf _ e));have k:acv i b5.objs.size x y:=(u.2 _ (aeB Tp)).trans ((r.2 _ (aeB Tp)).trans (aaq _ rfl));change Q (.ref b5.objs.size) _;rw[sz]at y8 k ⊢;exact N i y8 (up _ _ D.n2 To) (r1.at λo e=>up _ o D.n3 e) (r2.at λo e=>up _ o D.n4 e) k λc o n e=>up c o (λq=>n (by simp[q])) (Zu c o n e)
theorem Fz {H C:Bool}{z I B J K a1 a2:Addr}{k1 k2:Nat}{xs ys:Array Value}{p q:Value}{Q:Fin->aac->Prop}(hh:A.handled=none)(D:ZA z I B J K a1 a2)(hz:IsZip s.heap z I B .none)(R:acv s.heap I (.ref J) (.ref K))(P:acv s.heap B p q)
  (S:eN H s.heap J a1 k1) (T:eN C s.heap K a2 k2) (O:fG H s.heap a1 xs) (M:fG C s.heap a2 ys) (N:xs[k1]? = none\/ys[k2]? = none)
  (L:∀h' e,cu [z,B,J,K] s.heap h'->(∃o,h'.get? e=some o/\o.cls = .type "StopIteration")->E (.ref e) { s with heap:=h' }):wpAny (model prog w) A (ab5.«zip.__next__» ⟨[.ref z],[]⟩) Q E s:=by
 change wpAny _ _ (field (.ref z) 2 >>= λ_=>_) _ _ _;refine aaa (ab1 hz rfl (x:=.bool false) rfl ?_);change wpAny _ _ (field (.ref z) 3 >>= λ_=>_) _ _ _;refine aaa (ab1 hz rfl (x:=.ref I) rfl ?_);refine aaa (acj R rfl ?_);change wpAny _ _ (ack (.ref z) >>= λ_=>_) _ _ _;refine aaa ?_;unfold ack;refine aaa (ab1 hz rfl (x:=.none) rfl (aad ?_));simp only[if_true];refine aaa (ab8 (aaa (ab1 hz rfl (x:=.ref B) rfl (aaa (acO hz (by simp) λr z1 k=>aaa ?_)))));simp only[ahH,ahS,acQ,ad6];have y1:IsZip r z I B .ellipsis:=z1;have v1:=k.2;refine aaa (aaa (afh ?_));change wpAny _ _ (aa9 (.ref J) >>= λ_=>_) _ _ _;have y:eN H r J a1 k1:=S.at λo e=>(v1 _ D.n3).trans e;have l1:fG H r a1 xs:=O.extBut k.extBut D.m1.1;have ez:∀{b:Heap} {e:Addr} {j:Obj},IsZip b z I B .ellipsis->b.get? e=some j->j.cls = .type "StopIteration"->e≠z:=λyb a i x=>by subst x;rw[yb]at a;cases a;exact absurd (show abg "zip" = abg "StopIteration" from i) (by decide)
 cases hx:xs[k1]? with
 |none =>
  refine aaa (tZ hh y l1 hx λu e d he=>?_);obtain⟨j,a,i⟩:=he;have y2:IsZip u z I B .ellipsis:=d _ _ (aaN D.n3) y1;refine acO y2 (by simp) λl _ f=>L l e ?_ ⟨j,(f.2 _ (ez y2 a i)).trans a,i⟩;exact((cu.of k (by simp)).tr λc o n e=>d c o (λq=>n (by simp[q])) e).tr (cu.of f (by simp))
 |some x =>
  have hy:ys[k2]? = none:=by
   rcases N with h|h
   . rw[hx]at h;cases h
   . exact h
  refine aaa (my y l1 hx λu u2 d=>aad ?_);have w2:acv u B p q:=(d.2 _ D.n6).trans ((v1 _ D.n2).trans P);refine aaa (acj w2 rfl (aaa (aeI w2 λl w3 f=>aaa (aht (aad ?_)))));refine aaa (aaa (afh ?_));change wpAny _ _ (aa9 (.ref K) >>= λ_=>_) _ _ _;have i2:eN C l K a2 k2:=T.at λo e=>(f.2 _ (aaN D.n7)).trans ((d.2 _ (aaN D.n8)).trans ((v1 _ D.n4).trans e));have l2:fG C l a2 ys:=((M.extBut k.extBut D.m2.1).extBut d.extBut D.m2.2.2.1).extBut f.extBut D.m2.2.1;refine aaa (tZ hh i2 l2 hy λb4 e v he=>?_);obtain⟨j,a,i⟩:=he;have y4:IsZip b4 z I B .ellipsis:=v _ _ (aaN D.n4) ((f.2 _ (aaN D.n2)).trans ((d.2 _ (aaN D.n3)).trans y1));refine acO y4 (by simp) λb5 _ c5=>L b5 e ?_ ⟨j,(c5.2 _ (ez y4 a i)).trans a,i⟩;exact((((cu.of k (by simp)).tr (cu.of d (by simp))).tr (cu.of f (by simp))).tr λc o n e=>v c o (λq=>n (by simp[q])) e).tr (cu.of c5 (by simp))
end
section
variable {prog:aaG}{w:World}{A:aaL}{E:Value->aac->Prop}{s:aac}
theorem yj {i h:Bool}{z n j k l a1 a2:Addr}{o k2:Nat}{xs ys:Array Value}{x y p q:Value}{Q:Option Value->aac->Prop}(D:ZA z n j k l a1 a2)(hz:IsZip s.heap z n j .none)(I:acv s.heap n (.ref k) (.ref l))(H:acv s.heap j p q)
  (J:eN i s.heap k a1 o) (K:eN h s.heap l a2 k2) (v:fG i s.heap a1 xs) (r:fG h s.heap a2 ys) (B:xs[o]? = some x) (C:ys[k2]? = some y)
  (u:∀h',IsZip h' z n j (ac3 s.heap.objs.size)->acv h' j x y->eN i h' k a1 (o+1)->eN h h' l a2 (k2+1)->acv h' s.heap.objs.size x y->cu [z,j,k,l] s.heap h'->Q (some (.ref s.heap.objs.size)) { s with heap:=h' }):
  wpAny (model prog w) A (adq (.ref z)) Q E s:=by
 have ty:s.TypeIs (.ref z) "zip":=⟨_,hz,rfl⟩
 unfold adq;exact aaa (aff (abh (name:=aaD "__next__") ty F.slot_zip_next (aa6 F.slot_zip_next ty F.entry_zip_next (CT D hz I H J K v r B C λh' f e a c d b=>aad (u h' f e a c d b)) (F.args_zip_next_1 _))))
theorem AL {h f:Bool}{z l k i j a1 a2:Addr}{n k2:Nat}{xs ys:Array Value}{p q:Value}{Q:Option Value->aac->Prop}(hh:A.handled=none)(D:ZA z l k i j a1 a2)(hz:IsZip s.heap z l k .none)(B:acv s.heap l (.ref i) (.ref j))(y:acv s.heap k p q)
  (C:eN h s.heap i a1 n) (H:eN f s.heap j a2 k2) (x:fG h s.heap a1 xs) (r:fG f s.heap a2 ys) (v:xs[n]? = none\/ys[k2]? = none)
  (u:∀h',cu [z,k,i,j] s.heap h'->Q none { s with heap:=h' }):wpAny (model prog w) A (adq (.ref z)) Q E s:=by
 have ty:s.TypeIs (.ref z) "zip":=⟨_,hz,rfl⟩
 unfold adq;refine aaa (aff (abh (name:=aaD "__next__") ty F.slot_zip_next (aa6 F.slot_zip_next ty F.entry_zip_next (Fz hh D hz B y C H x r v λh' e c he=>?_) (F.args_zip_next_1 _))));obtain⟨o,d,a⟩:=he;exact aaa (aem (T:="StopIteration") (b:=true) ⟨o,d,a⟩ isSubtype_stop (aad (u _ c)))
end
abbrev CU (b:Bool)(h:Heap)(a:Addr):Heap:=h.push { cls:=.type (iN b),data:=.fields #[.ref a,.int 0 0] }
abbrev HC (c d:Bool)(h:Heap)(a b:Addr):Heap:=CU d (CU c h a) b
abbrev HD (c d:Bool)(h:Heap)(a b:Addr):Heap:=(HC c d h a b).push { cls:=.type "tuple",data:=.seq #[.ref h.objs.size,.ref (CU c h a).objs.size] }
abbrev HE (c d:Bool)(h:Heap)(a b:Addr):Heap:=(HD c d h a b).push { cls:=.type "tuple",data:=.seq #[.none,.none] }
abbrev zd (c d:Bool)(h:Heap)(a b:Addr):Heap:=(HE c d h a b).push { cls:=.type "zip",data:=.fields #[.none,.bool false,.bool false,.ref (HC c d h a b).objs.size,.ref (HD c d h a b).objs.size] }
theorem FD (j k:Bool)(a b:Addr)(xs ys:Array Value):
  Meets (ab5.«zip.__new__» ⟨[.type "zip",.ref a,.ref b],[]⟩) (λ_ R s=>fG j s.heap a xs/\fG k s.heap b ys/\R (.ok (.ret (.ref (HE j k s.heap a b).objs.size))) { s with heap:=zd j k s.heap a b }):=
 .of_wp λprog w A R s h=>by
  obtain⟨e,g,d,c,os⟩:=s;obtain⟨f,tb,h⟩:=h;have sub:=sub_zip;have i:fG j (Shared.heap ⟨e,g,d,c,os⟩) a xs:=f;have tB:fG k (Shared.heap ⟨e.push { cls:=.type (iN j),data:=.fields #[.ref a,.int 0 0] },g,d,c,os⟩) b ys:=let⟨o,ho,r⟩:=tb;⟨o,aaf _ ho,r⟩
  wp_walk using HB i,HB tB
  exact⟨_,rfl,h⟩
theorem CV {prog:aaG}{w:World}{A:aaL}{E:Value->aac->Prop}{s:aac}{r u:Bool}{a b:Addr}{xs ys:Array Value}{Q:Value->aac->Prop}(v:fG r s.heap a xs)(tb:fG u s.heap b ys)
  (h:∀h',IsZip h' (s.heap.objs.size+4) (s.heap.objs.size+2) (s.heap.objs.size+3) .none->acv h' (s.heap.objs.size+2) (.ref s.heap.objs.size) (.ref (s.heap.objs.size+1))->acv h' (s.heap.objs.size+3) .none .none ->
   eN r h' s.heap.objs.size a 0->eN u h' (s.heap.objs.size+1) b 0->(∀c o,s.heap.get? c=some o->h'.get? c=some o)->Q (.ref (s.heap.objs.size+4)) { s with heap:=h' }):
  wpAny (model prog w) A (call (.type "zip") [.ref a,.ref b]) Q E s:=by
 refine callType_new F.called_zip (by decide) (F.typeCall_zip_2 _ _) (F.newCall_zip_2 _ _) (λobj=>F.args_object_init_3 obj _ _) F.entry_zip_new (FD r u a b xs ys) ⟨v,tb,?_⟩;have d:(CU r s.heap a).objs.size=s.heap.objs.size+1:=ab_ ..;have j:(HC r u s.heap a b).objs.size=s.heap.objs.size+2:=by rw[ab_,d]
 have i:(HD r u s.heap a b).objs.size=s.heap.objs.size+3:=by rw[ab_,j]
 have l:(HE r u s.heap a b).objs.size=s.heap.objs.size+4:=by rw[ab_,i]
 have up:∀{h:Heap} {o o':Obj} {c:Addr},h.get? c=some o->(h.push o').get? c=some o:=λe=>aaf _ e;have f:(zd r u s.heap a b).get? (HE r u s.heap a b).objs.size=some _:=aaq _ rfl;have n:(zd r u s.heap a b).get? (HD r u s.heap a b).objs.size=some _:=up (aaq _ rfl);have k:(zd r u s.heap a b).get? (HC r u s.heap a b).objs.size=some _:=up (up (aaq _ rfl));have p:(zd r u s.heap a b).get? (CU r s.heap a).objs.size=some _:=up (up (up (aaq _ rfl)));have q:(zd r u s.heap a b).get? s.heap.objs.size=some _:=up (up (up (up (aaq _ rfl))));show _/\_;rw[j,i,l]at f;rw[d,j]at k;rw[i]at n;rw[d]at p;rw[l];exact⟨⟨_,f,rfl⟩,h _ f k n ⟨_,q,rfl,rfl⟩ ⟨_,p,rfl,rfl⟩ λc o x=>up (up (up (up (up x))))⟩
noncomputable def NG (K:aat)(d e:Bool)(a b:Addr):It :=
 ⟨λi H=>∃xs ys x y,nQ K d H a xs/\nQ K e H b ys/\xs[i]? = some x/\ys[i]? = some y,λi H x c=>∃T v u,x = .ref T/\H T=none/\c=upd H T (.tup [v,u]) /\ ∀xs ys,nQ K d H a xs->nQ K e H b ys->xs[i]? = some v/\ys[i]? = some u,
  λi H=>∃xs ys,nQ K d H a xs/\nQ K e H b ys/\(xs.length<=i\/ys.length<=i)⟩
theorem dC {X:Cx}{b0:List (Addr×Obj)}{σ:L2.St}{H:Hp}{s:aac}{a c:Addr}{xs:List V}{d:Bool}(I:L2.Inv X b0 σ H s)(f:fK X b0 H c)(b:nQ X.K d H a xs):a≠c:=by
 cases d
 . exact Q3 I f b
 . exact Ny I f b
theorem CW {P:aaG}{w:World}{K:aat}{M:List Expr}{kt:Nat}{tp:Pos}(N L:Bool)(a b z J C A B:Addr)(O:J≠z)(Q:C≠z)(T:A≠z)(S:B≠z)(R:J≠C)(n6:C≠A)(Y:C≠B)(Z:A≠B)(U:J≠A)(W:J≠B):
  Turn P w K (.Tuple M kt tp) (NG K N L a b) [z,J,C,A,B] z (λi h=>IsZip h z J C .none/\acv h J (.ref A) (.ref B)/\(∃p q,acv h C p q)/\eN N h A a i/\eN L h B b i) where
 mem:=by simp
 obj:=λi h st c d=>by
  obtain⟨n,l,⟨p,q,r⟩,⟨o4,g4,_,d4⟩,⟨o5,g5,_,d5⟩⟩:=st;simp only[aah,ac8,or_false]at d;rcases d with rfl|rfl|rfl|rfl|rfl
  . exact⟨_,n,λv z=>by cases z⟩
  . exact⟨_,l,λv z=>by cases z⟩
  . exact⟨_,r,λv z=>by cases z⟩
  . exact⟨_,g4,λv z=>by rw[d4]at z;cases z⟩
  . exact⟨_,g5,λv z=>by rw[d5]at z;cases z⟩
 keep:=λi h h' st k=>by obtain⟨n,l,⟨p,q,r⟩,h4,h5⟩:=st;exact⟨k z (by simp) _ n,k J (by simp) _ l,⟨p,q,k C (by simp) _ r⟩,h4.at λo e=>k A (by simp) o e,h5.at λo e=>k B (by simp) o e⟩
 item:=by
  intro X hP hw hK d i b0 s σ H E I hf st hg;subst hP hw hK;obtain⟨n,l,⟨p,q,r⟩,h4,h5⟩:=st;obtain⟨xs,ys,x,y,f,j,hx,hy⟩:=hg;obtain⟨VY,CS,p1,_⟩:=so I f;obtain⟨fL,zb,p2,_⟩:=so I j;obtain⟨u1,NH,Zv⟩:=CS.get hx;obtain⟨u,Zw,Zx⟩:=zb.get hy;have D:ZA z J C A B a b:=⟨O,Q,T,S,R,n6,Y,Z,U,W,⟨dC I (hf z (by simp)) f,dC I (hf C (by simp)) f,dC I (hf A (by simp)) f,dC I (hf B (by simp)) f⟩,
    ⟨dC I (hf z (by simp)) j,dC I (hf C (by simp)) j,dC I (hf A (by simp)) j,dC I (hf B (by simp)) j⟩⟩
  refine yj D n l r h4 h5 p1 p2 (x:=u1) (y:=u) (by simpa using NH) (by simpa using Zw) λh' g1 g2 g3 g4 g5 g6=>?_;refine⟨_,rfl,wpAny_letOwnedTupleGo_zip g1 λvW g7 g8=>?_⟩;have I1:L2.Inv X b0 σ (upd H s.heap.objs.size (.tup [x,y])) { s with heap:=s.heap.push { cls:=.type "tuple",data:=.seq #[u1,u] } }:=
    I.laid (t':=s.toks) (o:=.tup [x,y]) (λb o q=>aaf _ q) (aal _) (show dj X.prog X.w _ _ _ (.tup [x,y]) from⟨by show 2<=aax;decide,[u1,u],.cons Zv (.cons Zx .nil),fJ.new _ _⟩)
  have lt:∀c ∈ [z,J,C,A,B],c≠s.heap.objs.size:=λc d=>by
    simp only[aah,ac8,or_false]at d;rcases d with rfl|rfl|rfl|rfl|rfl
    . exact aaH (aas n)
    . exact aaH (aas l)
    . exact aaH (aas r)
    . obtain⟨o',q3,_⟩:=h4
      exact aaH (aas q3)
    . obtain⟨o',q3,_⟩:=h5
      exact aaH (aas q3)
  have I2:L2.Inv X b0 σ (upd H s.heap.objs.size (.tup [x,y])) { s with heap:=vW }:=r6 (t':=s.toks) (s:={ s with heap:=s.heap.push { cls:=.type "tuple",data:=.seq #[u1,u] } }) (ch:=[z,J,C,A,B]) I1 (λc o d e=>by
    simp only[aah,ac8,or_false,not_or]at d;have h6:h'.get? c=some o:=by
      by_cases Tq:c=s.heap.objs.size
      . subst Tq
        have e':(s.heap.push { cls:=.type "tuple",data:=.seq #[u1,u] }).get? s.heap.objs.size=some o:=e;rw[aaq _ rfl]at e';rw[<- e'];exact g5
      . exact g6 c o (by simp[d]) ((ahh s.heap c _ Tq).symm.trans e)
    exact(g8.2 c d.1).trans h6) (λc d=>by obtain⟨f0,f1,f2,f3,f4,f5⟩:=hf c d;exact⟨by rw[aB (lt c d)];exact f0,f1,f2,f3,f4,f5⟩)
  refine⟨.ref s.heap.objs.size,_,I2,rfl,⟨_,x,y,rfl,I.fresh,rfl,λyU ab e1 e2=>?_⟩,⟨g7,?_,⟨u1,u,?_⟩,?_,?_⟩,λc d=>?_⟩
  . rw[wG I e1 f,wG I e2 j];exact⟨hx,hy⟩
  . exact(g8.2 _ O).trans (g6 J _ (by simp[O,R,U,W]) l)
  . exact(g8.2 _ Q).trans g2
  . exact g3.at λo e=>(g8.2 _ T).trans e
  . exact g4.at λo e=>(g8.2 _ S).trans e
  . rw[aB (lt c d)];exact(hf c d).1
 done:=by
  intro X hP hw hK d i b0 s σ H E I hf st hg;subst hP hw hK;obtain⟨n,l,⟨p,q,r⟩,h4,h5⟩:=st;obtain⟨xs,ys,f,j,hl⟩:=hg;obtain⟨VY,CS,p1,_⟩:=so I f;obtain⟨fL,zb,p2,_⟩:=so I j;have D:ZA z J C A B a b:=⟨O,Q,T,S,R,n6,Y,Z,U,W,⟨dC I (hf z (by simp)) f,dC I (hf C (by simp)) f,dC I (hf A (by simp)) f,dC I (hf B (by simp)) f⟩,
    ⟨dC I (hf z (by simp)) j,dC I (hf C (by simp)) j,dC I (hf A (by simp)) j,dC I (hf B (by simp)) j⟩⟩
  have l1:=CS.length;have l2:=zb.length;refine AL (I.ok.hd d) D n l r h4 h5 p1 p2 ?_ λh' g=>⟨rfl,r6 (t':=s.toks) (ch:=[z,C,A,B]) I (λc o d e=>g c o d e) λc d=>hf c ?_⟩
  . rcases hl with hl|hl
    . left;simp;omega
    . right;simp;omega
  . simp only[aah,ac8,or_false]at d ⊢
    rcases d with rfl|rfl|rfl|rfl<;>simp
 self:=λ_ _ _ _ _ st h=>wpAny_pyIter_zip st.1 h
abbrev VW:=G->Option (List D)
abbrev ze:=Sg->G->Option (VW×Nat×G)
def AM (K:KW)(J:It)(H:Hp)(ι:Ix)(a:VW)(L:Nat):Prop :=
 ∀(i:Nat) H1 ι1 g1,i0 H ι H1 ι1->aw K H1 ι1 g1->∀xs,a g1=some xs->xs.length=L->(L<=i->J.stop i H1) /\ ∀d,xs[i]? = some d->J.go i H1 /\ ∀x H2,J.yt i H1 x H2->Ext H1 ι1 H2 ι1/\aw K H2 ι1 g1/\Rel K H2 ι1 d x
inductive NI (K:KW)(f:ze)(σ:L2.St)(H:Hp)(R:(It->Hp->Prop)):Prop
 |mk (ι:Ix) (σd:Sg) (g:G) (vw:VW) (L:Nat) (g':G) (h0:aw K H ι g) (h1:bo K H ι σd σ) (h2:f σd g=some (vw,L,g')) (h3:∀H' ι' J,Ext H ι H' ι'->aw K H' ι' g'->AM K J H' ι' vw L->R J H'):NI K f σ H R
structure NJ (X:Cx)(tg iter:Expr)(f:ze):Prop where of ::
 un:PI X tg iter (NI X.kw f)
noncomputable def iS (c:VW)(L:Nat)(t:FG)(b:FS):Nat->FS
 | 0,σ,g=>(c g).bind λxs=>if xs.length=L then some (.nx,σ,g)else none
 |r+1,σ,g=>(c g).bind λxs=>if xs.length=L then(xs[L-(r+1)]?).bind λd=>(t d σ g).bind λq=>(b q.1 q.2).bind λa=>match a.1 with
   |.nx=>iS c L t b r a.2.1 a.2.2|.ct=>iS c L t b r a.2.1 a.2.2|.bk=>some (.nx,a.2.1,a.2.2)|.rt d=>some (.rt d,a.2.1,a.2.2)
  else none
noncomputable def oM (a:ze)(t:FG)(b:FS):FS:=λσ g=>(a σ g).bind λr=>iS r.1 r.2.1 t b r.2.1 σ r.2.2
section
variable {X:Cx}{tg:Expr}{pos:Pos}
inductive AN (X:Cx)(t:FG)(b:FS)(vw:VW)(L:Nat)(H1:Hp)(ι1:Ix)(r:F)(bC:Sg)(g':G)(i:Nat)(σ2:L2.St)(H2:Hp):Prop
 |mk (ι2:Ix) (kK:Sg) (g2:G) (e2:Ext H1 ι1 H2 ι2) (G2:aw X.kw H2 ι2 g2) (S2:bo X.kw H2 ι2 kK σ2) (hf:iS vw L t b (L-i) kK g2=some (r,bC,g')):AN X t b vw L H1 ι1 r bC g' i σ2 H2
theorem JV {iter:Expr}{body:List Stmt}{C:ze}{t:FG}{b:FS}(E:aes (model X.prog X.w) X.A X.env X.xe)(K:X.calm=true)(B:NJ X tg iter C)(I:DG X tg t)(N:kI X body b)
   (M:∀x,aa7 iter X.env x=pure x):DS X (.For tg iter body [] pos) (oM C t b):=.of (PS.imp (BF E K B.un I.un N.un M) λDn σ H h=>by
 obtain⟨ι,σd,g,r,bC,g',G0,S0,h,p⟩:=h;obtain⟨⟨vw,L,g1⟩,h1,h⟩:=bind_some h;refine⟨ι,σd,g,vw,L,g1,G0,S0,h1,λH1 u J j G1 J1=>?_⟩;dsimp only at h;refine⟨λi m n f=>m=L-i/\i<=L/\AN X t b vw L H1 u r bC g' i n f,
   ⟨L,by simp,aaR _,u,σd,g1,Ext.refl,G1,S0.ext j,by simpa using h⟩,?_⟩
 rintro i m n f ⟨rfl,B,o,kK,g2,e2,G2,S2,hf⟩;have j1:=J1 i f o g2 e2.dW G2;by_cases bM:i<L
 . rw[show L-i=(L-(i+1))+1 by omega]at hf
   simp only[iS]at hf;obtain⟨xs,hx,hf⟩:=bind_some hf;split at hf
   . rename_i q
     obtain⟨d0,tT,hf⟩:=bind_some hf;rw[show L-(L-(i+1)+1)=i by omega]at tT;obtain⟨⟨σ3,g3⟩,h3,hf⟩:=bind_some hf;obtain⟨⟨r4,σ4,z⟩,h4,hf⟩:=bind_some hf;obtain⟨st,go⟩:=j1 xs hx q;obtain⟨go,yl⟩:=go d0 tT;refine .inr ⟨go,λσ5 H5=>AN X t b vw L H1 u r bC g' (i+1) σ5 H5,?_,?_⟩
     . rintro σ5 H5 ⟨ι5,MX,g5,e5,G5,S5,h5⟩
       exact⟨L-(i+1),by omega,rfl,bM,ι5,MX,g5,e5,G5,S5,h5⟩
     . intro x H' y
       obtain⟨e3,G3,r3⟩:=yl x H' y;refine⟨o,kK,g2,d0,σ3,g3,G3,S2.ext e3,r3,h3,λH6 ι6 σ6 e6 G6 S6=>?_⟩;refine⟨ι6,σ3,g3,r4,σ4,z,G6,S6,h4,λH7 c e7 l=>?_⟩;have k:=e2.trans (e3.trans (e6.trans e7));cases r4 with
       |nx=>exact λs a=>⟨c,σ4,z,k,l,a,hf⟩|ct=>exact λs a=>⟨c,σ4,z,k,l,a,hf⟩|bk=>cases hf;exact λs a=>p H7 c (j.trans k) l s a|rt d=>cases hf;exact λv r7=>p H7 c (j.trans k) l v r7
   . cases hf
 . have e:i=L:=by omega
   subst e;rw[adY]at hf;simp only[iS]at hf;obtain⟨xs,hx,hf⟩:=bind_some hf;split at hf
   . rename_i q
     cases hf;obtain⟨st,_⟩:=j1 xs hx q;exact .inl ⟨st (aal _),p f o (j.trans e2) G2 n S2⟩
   . cases hf)
end
theorem wI {a:ze}{t:FG}{b:FS}{σ:Sg}{g:G}:oM a t b σ g=(a σ g).bind λr=>iS r.1 r.2.1 t b r.2.1 σ r.2.2:=rfl
theorem mz {t:FG}{b:FS}{Q:F×Sg×G->Prop}{p:VW}{L:Nat}(I:Nat->Sg->G->Prop):∀(k i:Nat) (σ:Sg) (g:G),i+k=L->I i σ g ->
  (∀j σ g,j<=L->I j σ g->∃xs,p g=some xs/\xs.length=L /\ ∀d,xs[j]? = some d->wp (t d σ g) λq=>wp (b q.1 q.2) λr=>match r.1 with
   |.nx=>I (j+1) r.2.1 r.2.2|.ct=>I (j+1) r.2.1 r.2.2|.bk=>Q (.nx,r.2.1,r.2.2)|.rt d=>Q (.rt d,r.2.1,r.2.2))->(∀σ g,I L σ g->Q (.nx,σ,g))->wp (iS p L t b k σ g) Q
 | 0,i,σ,g,hk,hi,hs,he=>by
  obtain rfl:i=L:=by omega
  obtain⟨xs,c,e,_⟩:=hs i σ g (aal _) hi;simp only[iS,c,aaj,e,if_true,fZ];exact he σ g hi
 |k+1,i,σ,g,hk,hi,hs,he=>by
  obtain⟨xs,c,e,h⟩:=hs i σ g (by omega) hi;have f:i<xs.length:=by omega
  have hd:xs[L-(k+1)]? = some xs[i]:=by rw[show L-(k+1)=i by omega];exact aag f
  simp only[iS,c,aaj,e,if_true,hd,wp_bind];refine wp_mono (h _ (aag f)) λq n=>wp_mono n λr a=>?_;obtain⟨l,o⟩:=r;cases l with
  |nx=>exact mz I k (i+1) _ _ (by omega) a hs he|ct=>exact mz I k (i+1) _ _ (by omega) a hs he|bk=>simp only[fZ];exact a|rt d=>simp only[fZ];exact a
noncomputable def mB:D->Option (Bool×VW)
 |.lst xs=>some (true,λ_=>some xs)|.tup xs=>some (false,λ_=>some xs)|.ref n=>some (true,λg=>g[n]?)|_=>none
def jt (v w:VW):VW:=λg=>(v g).bind λxs=>(w g).map λa=>kf xs a
def kQ (a b:FE):ze:=λσ g=>(a σ g).bind λr=>(mB r.1).bind λv=>(b σ r.2).bind λq=>(mB q.1).bind λw=>(jt v.2 w.2 q.2).map λzs=>(jt v.2 w.2,zs.length,q.2)
theorem uU {K H ι d x o v}(r:Rel K H ι d x)(h:mB d=some (o,v)){k j g1}(e:i0 H ι k j)(p:aw K k j g1){xs:List D}(l:v g1=some xs):∃a vs,x = .ref a/\nQ K.fr o k a vs/\ag K k j xs vs:=by
 cases d with
 |lst ys =>
  cases h;cases l;simp only[Rel]at r;obtain⟨a,vs,rfl,c,b⟩:=r;exact⟨a,vs,rfl,(c.dW e).sq,ag.dW e _ b⟩
 |tup ys =>
  cases h;cases l;simp only[Rel]at r;obtain⟨a,vs,rfl,c,b⟩:=r;exact⟨a,vs,rfl,(c.dW e).sq,ag.dW e _ b⟩
 |ref n =>
  cases h;simp only[Rel]at r;obtain⟨a,rfl,f⟩:=r;obtain⟨vs,i,b⟩:=p.at l (e.at f);exact⟨a,vs,rfl,.inl (.inl i),b⟩
 |_=>cases h
theorem AM.zip {K H ι a b C E A B v w L}(M:Rel K H ι C (.ref a))(I:mB C=some (A,v))(N:Rel K H ι E (.ref b))(J:mB E=some (B,w)):AM K (NG K.fr A B a b) H ι (jt v w) L:=λi H1 ι1 g1 p j zs h hl=>by
 obtain⟨xs,c,h⟩:=bind_some h;obtain⟨s,k,h⟩:=aak.mp h;subst h;obtain⟨_,l,e,o,hr⟩:=uU M I p j c;cases e;obtain⟨_,us,e,n,z⟩:=uU N J p j k;cases e;refine⟨λhi=>⟨l,us,o,n,by
  have gr:min xs.length s.length=L:=by simpa[kf]using hl
  rw[<- hr.length,<- z.length];omega⟩,λd hd=>?_⟩
 unfold kf at hd;rw[aaP]at hd;cases c:(xs.zip s)[i]? with
 |none=>rw[c]at hd;cases hd
 |some pr =>
  obtain⟨d0,C⟩:=pr;rw[c]at hd;simp only[abn,acT]at hd;subst hd;rw[acY]at c;obtain⟨v,r,rv⟩:=hr.get c.1;obtain⟨u,hu,ru⟩:=z.get c.2;refine⟨⟨l,us,v,u,o,n,r,hu⟩,λx H2 y=>?_⟩;obtain⟨T,v',u',rfl,f,rfl,k⟩:=y;obtain⟨q,y2⟩:=k l us o n;rw[r]at q;rw[hu]at y2;cases q;cases y2;refine⟨Ext.lay f,j.lay f,?_⟩;simp only[Rel];refine⟨T,_,rfl,.inl ⟨.inl aR,j.fresh f⟩,?_⟩;simp only[ag];exact⟨_,_,rfl,Rel.ext (Ext.lay f) _ rv,_,_,rfl,Rel.ext (Ext.lay f) _ ru,rfl⟩
theorem JW {X:Cx}{l m:Expr}{J E:FE}{p A P:Pos}{B:List Expr}{kt:Nat}(N:Gl X "zip")(S:X.mg "zip" = none)(Q:DE X l J)(M:DE X m E)
   (C:aay [l,m] X.env=(false,eval l X.env)::aay [m] X.env) (O:aay [m] X.env=(false,eval m X.env)::aay [] X.env) (K:(acm A (aay [m] X.env)).any (·.1)=false):
   NJ X (.Tuple B kt P) (.Call (.Name "zip" p) [l,m] [] A) (kQ J E):=.of (by
 intro b0 s σ H R I h;obtain⟨ι,σd,g,vw,L,g',G0,S0,h,q⟩:=h;obtain⟨⟨d1,g1⟩,h1,h⟩:=bind_some h;obtain⟨⟨κ1,v1⟩,z,h⟩:=bind_some h;obtain⟨⟨d2,g2⟩,h2,h⟩:=bind_some h;obtain⟨⟨κ2,v2⟩,y,h⟩:=bind_some h;obtain⟨zs,e,h⟩:=aak.mp h;cases h;obtain⟨xs,hx,e⟩:=bind_some e;obtain⟨ys,hy,e⟩:=aak.mp e;subst e;refine Call_ (gX I N S PyProof.Rows.boot_zip (ab2 (aY ((fV Q.un (fV M.un jS O) C) A b0 s σ H (λr H1=>∃v u d,r = [v,u]/\Ext H ι H1 d/\aw X.kw H1 d g2/\Rel X.kw H1 d d1 v/\Rel X.kw H1 d d2 u) I ?_) λus s1 ⟨r,H1,f,o,v,u,d,e0,j,i,rd,x⟩=>?_) C K) (by decide) (by decide))
 . refine tD.bind G0 S0 h1 λH1 d v j i S1 o=>?_
   exact⟨d,σd,g1,_,g2,i,S1,h2,λH2 ι2 u e2 G2 r2=>⟨v,u,ι2,rfl,j.trans e2,G2,Rel.ext e2 _ o,r2⟩⟩
 . subst e0
   cases o with
   |cons ra rr =>
    cases rr with
    |cons rb rn =>
     cases rn;obtain⟨a,r,rfl,hq,hr⟩:=uU rd z Ext.refl.dW i hx;obtain⟨b,us,rfl,eA,jv⟩:=uU x y Ext.refl.dW i hy;cases ra;cases rb;obtain⟨au,rv,pt,_⟩:=so f hq;obtain⟨fL,zb,k,_⟩:=so f eA;refine CV pt k λh' z1 z2 z3 z4 z5 hk=>?_;refine wpAny_pyIter_zip z1 ?_;have ne:∀{m n:Nat},m≠n->(s1.heap.objs.size+m:Nat)≠s1.heap.objs.size+n:=λh q=>h (Nat.add_left_cancel q);refine⟨s1.heap.objs.size+4,[s1.heap.objs.size+4,s1.heap.objs.size+2,s1.heap.objs.size+3,s1.heap.objs.size,s1.heap.objs.size+1],_,_,H1,rfl,f.kept (t':=s1.toks) hk,
      CW κ1 κ2 a b _ _ _ _ _ (ne (by decide)) (ne (by decide)) (ne (m:=0) (by decide)) (ne (by decide)) (ne (by decide)) (ne (n:=0) (by decide)) (ne (by decide)) (ne (m:=0) (by decide)) (ne (n:=0) (by decide)) (ne (by decide)),
      ⟨z1,z2,⟨_,_,z3⟩,z4,z5⟩,λc hc=>?_,q H1 d _ j i (.zip rd z x y)⟩
     have le:s1.heap.objs.size<=c:=by
      simp only[aah,ac8,or_false]at hc;rcases hc with rfl|rfl|rfl|rfl|rfl
      . exact adE _ _
      . exact adE _ _
      . exact adE _ _
      . exact aal _
      . exact adE _ _
     exact f.nu le (f.aU.fresh le))
theorem wJ {a b:FE}{σ:Sg}{g:G}:kQ a b σ g=(a σ g).bind λr=>(mB r.1).bind λv=>(b σ r.2).bind λq=>(mB q.1).bind λw=>(jt v.2 w.2 q.2).map λzs=>(jt v.2 w.2,zs.length,q.2):=rfl
def gh (b a:D)(g:G):Option (D×G):=match b,a with
 |.lst xs,.int k=>if(!xs.isEmpty&&decide (0<=k)&&d9 k&&az (xs.length*k.toNat))=true then some (.ref g.length,g ++ [(aap k.toNat xs).flatten])else none|b,a=>dI b a g
section
variable {X:Cx}
theorem zf:bq X (abJ .Mult) (dB X.kw gh):=by
 intro b0 s σ H x y v u Q I h l q;obtain⟨ι,g,d1,n,d,o,G0,b,c,q,p⟩:=q;unfold gh at q;split at q
 . rename_i xs k
   split at q
   . rename_i z
     simp only[aae,decide_eq_true_eq,aaV]at z;cases q;simp only[Rel]at b c;subst c;obtain⟨a,r,rfl,hq,f⟩:=b;have hk:=d9.and z.1.2;have i:=az.le z.2;rw[ac0]at i;refine yY b0 s σ H _ _ v u Q I h l ⟨a,k,r,rfl,rfl,hq.sq,?_,z.1.1.2,hk.2,by rw[<- f.length];exact i,λpp j=>?_⟩
     . intro e
       subst e;have:=f.length;simp at this;subst this;simp at z
     . refine p _ _ _ (Ext.push j) (G0.push j (f.rep _)) ?_
       simp only[Rel];exact⟨pp,rfl,dA.new G0.len⟩
   . cases q
 . exact v9 b0 s σ H x y v u Q I h l ⟨ι,g,d1,n,d,o,G0,b,c,q,p⟩
end
@[simp] theorem Ts {xs:List D}{k:Int}{g:G}:gh (.lst xs) (.int k) g=if(!xs.isEmpty&&decide (0<=k)&&d9 k&&az (xs.length*k.toNat))=true then some (.ref g.length,g ++ [(aap k.toNat xs).flatten])else none:=rfl
mutual
noncomputable def lK:D->Bool
 |.tup xs=>iG xs|.lst xs=>iG xs|.fn _ _=>false|_=>true
noncomputable def iG:List D->Bool
 | []=>true|d::ds=>lK d&&iG ds
end
abbrev Am:=Addr->Option Obj
def dJ (m:Am)(H:Hp):Hp:=λb=>match m b with|some o=>some (oK b o)|none=>H b
noncomputable def cO (m:Am)(H:Hp):Hp:=λb=>match m b with|some _=>none|none=>H b
section
variable {m:Am}{H H':Hp}{b:Addr}{o:Obj}{P:aaG}{w:World}{h h':Heap}{fs:List Addr}{ι ι':Ix}{K:KW}{g:G}
theorem i9 (q:m b=some o):dJ m H b=some (oK b o):=by unfold dJ;rw[q]
theorem bO (q:m b=none):dJ m H b=H b:=by unfold dJ;rw[q]
theorem i_ (q:m b=some o):cO m H b=none:=by unfold cO;rw[q]
theorem bF (q:m b=none):cO m H b=H b:=by unfold cO;rw[q]
theorem jM (q:H b=none):cO m H b=none:=by
 cases z:m b with
 |none=>rw[bF z];exact q|some o=>exact i_ z
theorem CY (x:d7 P w H h)(f:∀b o,m b=some o->h.get? b=some o/\H b=none):d7 P w (dJ m H) h:=λb u e=>by
 cases q:m b with
 |some o =>
  rw[i9 q]at e;cases e;exact⟨(f b o q).1,⟨o,(f b o q).1⟩,λa d p k=>k _ p⟩
 |none =>
  rw[bO q]at e;have keep:∀c v,H c=some v->dJ m H c=some v:=λc v r=>by
   cases z:m c with
   |none=>rw[bO z];exact r|some o=>rw[(f c o z).2]at r;cases r
  exact(x b u e).cu (λc v _ r=>r) (λc r=>keep c _ r) (λc xs r=>keep c _ r) λc q r=>keep c _ r
theorem CZ (x:d7 P w H h)(a:∀b o,m b=some o->H b=some (oK b o)):d7 P w (cO m H) h:=λb u e=>by
 cases q:m b with
 |some o=>rw[i_ q]at e;cases e
 |none =>
  rw[bF q]at e;have keep:∀c v,(∀o,v≠oK c o)->H c=some v->cO m H c=some v:=λc v n r=>by
   cases z:m c with
   |none=>rw[bF z];exact r|some o=>rw[a c o z]at r;exact absurd (aa_ r).symm (n o)
  exact(x b u e).cu (λc v _ r=>r) (λc r=>keep c _ (λ_ z=>by cases z) r) (λc xs r=>keep c _ (λ_ z=>by cases z) r) λc q r=>keep c _ (λ_ z=>by cases z) r
theorem sr (a:∀b o,m b=some o->H b=some (oK b o)){u:HO}(e:H b=some u)(n:∀o,u≠oK b o):m b=none:=by
 cases z:m b with
 |none=>rfl|some o=>rw[a b o z]at e;exact absurd (aa_ e).symm (n o)
theorem NK (u:Un fs [] (cO m H) H' h h')(f:∀b o,m b=some o->h.get? b=some o/\H b=some (oK b o)):Un fs [] H (dJ m H') h h':=by
 have d:∀b,H b=none->m b=none:=λb n=>by
  cases z:m b with
  |none=>rfl|some o=>rw[(f b o z).2]at n;cases n
 have st:∀b v,(∀o,v≠oK b o)->H b=some v->(∀z:cO m H b=some v,H' b=some v)->dJ m H' b=some v:=λb v n e k=>by have z:=sr (λb o q=>(f b o q).2) e n;rw[bO z];exact k (by rw[bF z];exact e)
 refine⟨λb o q n c a=>u.keep b o q (jM n) c a,λb o q n c a=>u.slot b o q (jM n) c a,λb o q n a=>?_,λb o q a=>u.there b o q a,
  λb xs q=>st b _ (λ_ z=>by cases z) q λz=>u.k5 b xs z,λb o v q=>st b _ (λ_ z=>by cases z) q λz=>u.jP b o v z,λb v t q=>st b _ (λ_ z=>by rw[z]at t;cases t) q λz=>u.jQ b v t z⟩
 rw[bO (d b n)];exact u.free b o q (jM n) a
theorem NL (u:Un fs [] (dJ m H) H' h h')(f:∀b o,m b=some o->h.get? b=some o/\H b=none)(i:∀b o,m b=some o->H' b=some (oK b o))(ok:d7 P w H' h'):Un fs [] H (cO m H') h h':=by
 have got:∀b o,m b=some o->h'.get? b=some o:=λb o q=>(ok b _ (i b o q)).1;have d:∀b v,H b=some v->m b=none:=λb v e=>by
   cases z:m b with
   |none=>rfl|some o=>rw[(f b o z).2]at e;cases e
 have st:∀b v,H b=some v->(∀z:dJ m H b=some v,H' b=some v)->cO m H' b=some v:=λb v e k=>by rw[bF (d b v e)];exact k (by rw[bO (d b v e)];exact e)
 refine⟨λb o q n c a=>?_,λb o q n c a=>?_,λb o q n a=>?_,λb o q a=>u.there b o q a,λb xs q=>st b _ q λz=>u.k5 b xs z,λb o v q=>st b _ q λz=>u.jP b o v z,λb v t q=>st b _ q λz=>u.jQ b v t z⟩
 . cases z:m b with
   |none=>exact u.keep b o q (by rw[bO z];exact n) c a
   |some o' =>
    have:=(f b o' z).1;rw[q]at this;cases this;exact got b o z
 . cases z:m b with
   |none=>exact u.slot b o q (by rw[bO z];exact n) c a
   |some o' =>
    have:=(f b o' z).1;rw[q]at this;cases this;exact⟨o.slots,got b o z⟩
 . cases z:m b with
   |none=>rw[bF z];exact u.free b o q (by rw[bO z];exact n) a|some o'=>exact i_ z
mutual
theorem Rel.wK (j:∀b o,m b=some o->H b=some (oK b o)):∀(d:D) {v:V},lK d=true->Rel K H ι d v->Rel K (cO m H) ι d v
 |.ax,v,_,h=>by simpa[Rel]using h|.bl _,v,_,h=>by simpa[Rel]using h|.int _,v,_,h=>by simpa[Rel]using h|.str _,v,_,h=>by simpa[Rel]using h
 |.tup xs,v,z,h=>by
  simp only[Rel]at h ⊢;obtain⟨a,i,e,c,f⟩:=h;refine⟨a,i,e,?_,ag.wK j xs z f⟩;rcases c with⟨h|⟨u,h⟩,n⟩|h
  . exact .inl ⟨.inl (by rw[bF (sr j h λ_ z=>by cases z)];exact h),n⟩
  . exact .inl ⟨.inr ⟨u,by rw[bF (sr j h λ_ z=>by cases z)];exact h⟩,n⟩
  . exact .inr h
 |.lst xs,v,z,h=>by
  simp only[Rel]at h ⊢;obtain⟨a,i,e,c,f⟩:=h;refine⟨a,i,e,?_,ag.wK j xs z f⟩;rcases c with⟨h|⟨u,h⟩,n⟩|h
  . exact .inl ⟨.inl (by rw[bF (sr j h λ_ z=>by cases z)];exact h),n⟩
  . exact .inl ⟨.inr ⟨u,by rw[bF (sr j h λ_ z=>by cases z)];exact h⟩,n⟩
  . exact .inr h
 |.dn,v,_,h=>by simp only[Rel]at h ⊢;obtain⟨a,e,c,f⟩:=h;exact⟨a,e,by rw[bF (sr j c λ_ z=>by cases z)];exact c,f⟩
 |.ref n,v,_,h=>by simpa[Rel]using h|.aC n,v,_,h=>by simpa[Rel]using h|.fn x ds,v,z,h=>by cases z
theorem ag.wK (i:∀b o,m b=some o->H b=some (oK b o)):∀(ds:List D) {vs:List V},iG ds=true->ag K H ι ds vs->ag K (cO m H) ι ds vs
 | [],vs,_,h=>by simpa[ag]using h|d::ds,vs,z,h=>by simp only[ag]at h ⊢;simp only[iG,aae]at z;obtain⟨v,a,c,e,f⟩:=h;exact⟨v,a,c,Rel.wK i d z.1 e,ag.wK i ds z.2 f⟩
end
theorem Ext.kC (d:∀b o,m b=some o->H b=none):Ext H ι (dJ m H) ι:=by
 have c:∀a v,H a=some v->m a=none:=λa v e=>by
  cases z:m a with
  |none=>rfl|some o=>rw[d a o z]at e;cases e
 refine⟨λa o q _=>by rw[bO (c a o q)];exact q,λa q=>?_,⟨[],by simp,λ_ q=>by simp at q⟩,rfl,λ_ _=>rfl⟩;cases e:H a with
 |none=>exact absurd e q|some v=>rw[bO (c a v e),e];simp
theorem aw.empty (G0:aw K H ι g)(e:∀b,H b≠none->H' b≠none\/b ∉ ι.ix++ι.hd)(f:∀q∈K.lx.tb,H' q.1=H q.1):aw K H' (Ix.none ι) []:=
 ⟨acM,rfl,λb d=>⟨by simp[Ix.none],by
  have a:b∈ι.ix++ι.hd:=d;rcases aao.mp a with m|m
  . exact(e b (G0.kC m)).elim id λz=>absurd a z
  . exact(e b (G0.ck b m).2).elim id λz=>absurd a z⟩,λi xs q=>by simp at q,λq c=>⟨by rw[f q c];exact(G0.tb q c).1,by simp[Ix.none]⟩⟩
theorem JX (G0:aw K H ι g)(d:∀b o,m b=some o->H b=some (oK b o)/\b ∉ ι.ix)(e:Ext (cO m H) (Ix.none ι) H' ι'):Ext H ι (dJ m H') ι/\aw K (dJ m H') ι g /\ ∀a∈ι.ix,H' a=H a:=by
 have sm:∀a o,m a=none->H a=some o->H' a=some o:=λa o z q=>e.same a o (by rw[bF z];exact q) (by simp[Ix.none]);have E0:Ext H ι (dJ m H') ι:=by
  refine⟨λa o q _=>?_,λa q=>?_,⟨[],by simp,λ_ q=>by simp at q⟩,rfl,λ_ _=>rfl⟩
  . cases z:m a with
    |none=>rw[bO z];exact sm a o z q|some o'=>rw[i9 z];rw[(d a o' z).1]at q;exact q
  . cases z:m a with
    |some o'=>rw[i9 z];simp
    |none =>
     rw[bO z];exact e.there a (by rw[bF z];exact q)
 have same:∀a∈ι.ix,H' a=H a/\m a=none:=λa c=>by
  have z:m a=none:=by
    cases z:m a with
    |none=>rfl|some o=>exact absurd c (d a o z).2
  obtain⟨o,ev,_⟩:=G0.lst c;exact⟨by rw[ev];exact sm a o z ev,z⟩
 exact⟨E0,G0.ext E0 λa c=>by rw[bO (same a c).2];exact(same a c).1,λa c=>(same a c).1⟩
theorem JY (G0:aw K H ι g)(f:∀b o,m b=some o->H b=none)(e:Ext (dJ m H) (Ix.none ι) H' ι'):Ext H ι (cO m H') ι/\aw K (cO m H') ι g/\(∀a∈ι.ix,H' a=H a) /\ ∀b o,m b=some o->H' b=some (oK b o):=by
 have d:∀a v,H a=some v->m a=none:=λa v e=>by
  cases z:m a with
  |none=>rfl|some o=>rw[f a o z]at e;cases e
 have sm:∀a o,H a=some o->H' a=some o:=λa o q=>e.same a o (by rw[bO (d a o q)];exact q) (by simp[Ix.none]);have E0:Ext H ι (cO m H') ι:=by
  refine⟨λa o q _=>by rw[bF (d a o q)];exact sm a o q,λa q=>?_,⟨[],by simp,λ_ q=>by simp at q⟩,rfl,λ_ _=>rfl⟩;cases z:H a with
  |none=>exact absurd z q|some v=>rw[bF (d a v z),sm a v z];simp
 have same:∀a∈ι.ix,H' a=H a/\m a=none:=λa c=>by obtain⟨o,ev,_⟩:=G0.lst c;exact⟨by rw[ev];exact sm a o ev,d a o ev⟩
 exact⟨E0,G0.ext E0 λa c=>by rw[bF (same a c).2];exact(same a c).1,λa c=>(same a c).1,λb o z=>e.same b _ (i9 z) (by simp[Ix.none])⟩
end
def fH (fn:Fn):Fn:=λds g=>if iG ds=true then(gu fn ds g).bind λr=>if lK r.1=true then some r else none else none
theorem qS {fn:Fn}{ds g d g'}(h:fH fn ds g=some (d,g')):iG ds=true/\aA 0 ds=true/\(∃gx,fn ds []=some (d,gx))/\bB 0 d=true/\lK d=true/\g'=g:=by
 unfold fH at h;split at h
 . rename_i z
   obtain⟨⟨j,g1⟩,i,h⟩:=bind_some h;split at h
   . rename_i f
     cases h;obtain⟨a,b,c,e⟩:=iQ i;exact⟨z,a,b,c,f,e⟩
   . cases h
 . cases h
def jE (fn:Fn):Fn:=λds g=>(gu fn ds g).bind λr=>if lK r.1=true then some r else none
theorem AO {fn:Fn}{ds g d g'}(h:jE fn ds g=some (d,g')):aA 0 ds=true/\(∃gx,fn ds []=some (d,gx))/\bB 0 d=true/\lK d=true/\g'=g:=by
 unfold jE at h;obtain⟨⟨j,g1⟩,i,h⟩:=bind_some h;split at h
 . rename_i f
   cases h;obtain⟨a,b,c,e⟩:=iQ i;exact⟨a,b,c,f,e⟩
 . cases h
structure uV (l:dS):Prop where
 kind:l.sc.kind = .function
 co:l.sc.isCoroutine=false
 gen:l.sc.isGenerator=false
 HF:∀y∈l.sc.names,y.2 ≠ .cell
 fr:∀x,l.sc.names.lookup x=some .free->x∈l.fv
 fv:∀x∈l.fv,l.sc.names.lookup x=some .free
 ps:∀x∈l.ps,l.sc.names.lookup x=some .local
 nd:(l.fv++l.ps).Nodup
 bind:∀(cl:List (Str×Addr)) (pm de fM:Value) (us:List Value),us.length=l.ps.length->aeR (ago "<lambda>" l.qual l.ar l.bd l.sc cl pm de fM) ⟨us,[]⟩=pure (l.ps.zip us)
noncomputable def oN (lx:Lx)(P:aaG)(w:World)(K:aat)(mg:Str->Option Value)(base:Heap)(l:dS)(cl:List (Str×Addr))(f:Addr)(a:Value)(A:aaL)(outer:List Env)(s:aac)(H:Hp):Cx where
 prog:=P
 w:=w
 K:=K
 mg:=mg
 base:=base
 A:=A.deeper (aeJ l.qual l.sc s.heap.objs.size f a cl)
 N:=l.fv++l.ps
 s₀:=s
 H₀:=H
 env:=aeJ l.qual l.sc s.heap.objs.size f a cl
 outer:=outer
 stack:=aeJ l.qual l.sc s.heap.objs.size f a cl::outer
 ex:=[]
 calm:=true
 fn:=λ_=>false
 pn:=[]
 lx:=lx
 xe:=λ_ _=>False
theorem cq.mem {H:Hp}{ι:Ix}:∀{cl:List (Str×Addr)} {vs:List V},cq H ι cl vs->∀c∈cl.map (·.2),∃o u,Xo H ι c (oK c o)/\o.data = .cell (some u)
 |_,_,.nil,c,h=>by simp at h
 |_,_,.cons (c:=c0) (o:=o) (u:=u) x d r t,c,h=>by
  rcases aah.mp h with rfl|h
  . exact⟨o,u,x,d⟩
  . exact t.mem c h
theorem cq.get {H:Hp}{ι:Ix}:∀{cl:List (Str×Addr)} {vs:List V},cq H ι cl vs->∀{i:Nat} {v:V},vs[i]? = some v->∃y c o u,cl[i]? = some (y,c)/\Xo H ι c (oK c o)/\o.data = .cell (some u)/\RelV v u
 |_,_,.nil,_,_,h=>by simp at h|_,_,.cons (y:=y) (c:=c) (o:=o) (u:=u) x d r t,0,v,h=>by simp at h;subst h;exact⟨y,c,o,u,rfl,x,d,r⟩|_,_,.cons x d r t,i+1,v,h=>by obtain⟨y,c,o,u,a,b⟩:=t.get (i:=i) (by simpa using h);exact⟨y,c,o,u,by simpa using a,b⟩
theorem cq.len {H:Hp}{ι:Ix}:∀{cl:List (Str×Addr)} {vs:List V},cq H ι cl vs->cl.length=vs.length
 |_,_,.nil=>rfl|_,_,.cons x d r t=>by simp[t.len]
theorem fz {a:Type}:∀{cl:List (Str×a)} {y:Str} {c:a},(cl.map (·.1)).Nodup->(y,c)∈cl->cl.lookup y=some c
 | [],_,_,_,h=>by simp at h
 | (z,e)::cl,y,c,nd,h=>by
  rw[aaX];rw[aa5,aaS]at nd;rcases aah.mp h with h|h
  . cases h;simp
  . rw[show(y == z)=false from beq_eq_false_iff_ne.mpr λe=>nd.1 (by rw[<- e];exact abV (f:=(·.1)) h)]
    exact fz nd.2 h
theorem nR:∀{cl:List (Str×Addr)} {x y:Str} {c:Addr},(cl.map (·.2)).Nodup->(x,c)∈cl->(y,c)∈cl->x=y
 | [],_,_,_,_,h,_=>by simp at h
 | (z,e)::cl,x,y,c,nd,h1,h2=>by
  rw[aa5,aaS]at nd;rcases aah.mp h1 with a|a<;>rcases aah.mp h2 with b|b
  . cases a;cases b;rfl
  . cases a;exact absurd (abV (f:=(·.2)) b) nd.1
  . cases b;exact absurd (abV (f:=(·.2)) a) nd.1
  . exact nR nd.2 a b
theorem su {ps:List Str}{us:List Value}{i:Nat}{x:Str}{u:Value}(nd:ps.Nodup)(c:us.length=ps.length)(a:ps[i]? = some x)(b:us[i]? = some u):(ps.zip us).reverse.lookup x=some u:=by refine fz ?_ (aen.mpr (aaO (i:=i) (acY.mpr ⟨a,b⟩)));rw[List.map_reverse,(List.reverse_perm _).nodup_iff,List.map_fst_zip (by omega)];exact nd
noncomputable def bG (cl:List (Str×Addr))(h:Heap):Am:=λb=>if b∈cl.map (·.2)then h.get? b else none
theorem ia {cl:List (Str×Addr)}{h:Heap}{b:Addr}{o:Obj}(e:bG cl h b=some o):b∈cl.map (·.2)/\h.get? b=some o:=by
 unfold bG at e;split at e
 . rename_i a;exact⟨a,e⟩
 . cases e
theorem wL {cl:List (Str×Addr)}{h:Heap}{b:Addr}{o:Obj}(a:b∈cl.map (·.2))(e:h.get? b=some o):bG cl h b=some o:=by unfold bG;rw[if_pos a];exact e
section
variable {P:aaG}{K:KW}{base:Heap}{l:dS}{A:aaL}{outer:List Env}{s:aac}{H:Hp}{ι:Ix}{cl:List (Str×Addr)}{gv vs:List V}{us:List Value}{f:Addr}{cd:Value}
theorem cq.m (c:cq H ι cl gv)(ok:d7 P K.w H s.heap):∀b o,bG cl s.heap b=some o->s.heap.get? b=some o/\H b=some (oK b o)/\b ∉ ι.ix:=λb o q=>by obtain⟨a,e⟩:=ia q;obtain⟨o',u,x,_⟩:=c.mem b a;have this:s.heap.get? b=some o':=(ok b _ x.1).1;rw[e]at this;cases this;exact⟨e,x.1,x.2.1⟩
theorem JZ (S:uV l)(M:A.handled=none)(C:pR P K.w K.fr K.mg base A outer s H)(J:cl.map (·.1)=l.fv)(L:(cl.map (·.2)).Nodup)(I:cq H ι cl gv)(N:vs.length=l.ps.length)(r:Vals vs us){B:Heap}{tk:Tok}
   (O:B.Ns s.heap.objs.size λy=>(l.ps.zip us).reverse.lookup y) (E:∀b o,s.heap.get? b=some o->B.get? b=some o):
   Inv (oN K.lx P K.w K.fr K.mg base l cl f cd A outer s (cO (bG cl s.heap) H)) [] ((gv++vs).map some) (cO (bG cl s.heap) H) { s with heap:=B,toks:=tk }:=by
 have Tt:(cl.map (·.1)).Nodup:=by rw[J];exact(aco.mp S.nd).1
 have cm:=I.m C.aU
 have HG:∀x c,cl.lookup x=some c->c∈cl.map (·.2):=λx c e=>abV (f:=(·.2)) (aaT e)
 have Tu:∀c∈cl.map (·.2),∃o u,s.heap.get? c=some o/\o.data = .cell (some u):=λc hc=>by obtain⟨o,u,x,d⟩:=I.mem c hc;exact⟨o,u,(C.aU c _ x.1).1,d⟩
 have Tv:gv.length=l.fv.length:=by rw[<- I.len,<- J,aaI]
 have qy:∀b:Addr,b ∉ (oN K.lx P K.w K.fr K.mg base l cl f cd A outer s (cO (bG cl s.heap) H)).ex:=λb z=>absurd (show b∈([]:List Addr) from z) (by simp);refine⟨⟨C.mod,S.kind,rfl,rfl,aal _,λy z c B j=>?_,λy k=>?_,λy c hf _=>(abK hf).elim,λ_=>M,agr C.frames,.inr ⟨rfl,rfl⟩,λb z=>absurd z (qy b),λb o e=>⟨(C.bs b o e).1,jM (C.bs b o e).2⟩,C.nj,λb _ _=>qy b,λb z=>absurd z (qy b),C.gU,λb hb=>jM (C.qt b hb)⟩,
   rfl,C.bare,Un.kept E,⟨_,O,λi y v B j h3=>?_⟩,λy c h=>?_,jM (C.aU.fresh (aal _)),λy c h=>?_,λp hp=>absurd (show p∈([]:List (Addr×Obj)) from hp) (by simp),(CZ C.aU λb o q=>(cm b o q).2.1).kept E,?_⟩
 . exact nR L (aaT B) (aaT j)
 . have k:l.sc.names.lookup y=some .cell\/l.sc.names.lookup y=some .free:=k
   rcases k with k|k
   . exact absurd rfl (S.HF _ (aaT k))
   . have:=S.fr y k
     rw[<- J]at this;obtain⟨⟨y',c⟩,hm,rfl⟩:=aaQ.mp this;exact⟨c,fz Tt hm⟩
 . have B:(l.fv++l.ps)[i]? = some y:=B
   have j:((gv++vs).map some)[i]? = some (some v):=j;rw[aaP]at j;have j:(gv++vs)[i]? = some v:=by
     cases e:(gv++vs)[i]? with
     |none=>rw[e]at j;cases j|some a=>rw[e]at j;cases j;rfl
   by_cases hi:i<gv.length
   . rw[aan hi]at j
     rw[aan (by omega)]at B;obtain⟨y',c,o,u,e1,x,d,n⟩:=I.get j;have ey:y'=y:=by
      have:(cl.map (·.1))[i]? = some y':=by rw[aaP,e1];rfl
      rw[J,B]at this;cases this;rfl
     subst ey;refine⟨u,n,.inr ⟨.inr (S.fv y' (aaO B)),c,fz Tt (aaO e1),o,E _ _ (C.aU c _ x.1).1,d⟩⟩
   . rw[aaJ (by omega)]at j
     rw[aaJ (by omega),<- Tv]at B;obtain⟨u,hu,n⟩:=r.get j;refine⟨u,n,.inl ⟨S.ps y (aaO B),su (aco.mp S.nd).2.1 (by rw[<- r.length];exact N) B hu⟩⟩
 . obtain⟨o,u,e,d⟩:=Tu c (HG y c h)
   exact⟨some u,o,E _ _ e,d⟩
 . obtain⟨o,u,e,d⟩:=Tu c (HG y c h)
   exact i_ (wL (HG y c h) e)
 . show((gv++vs).map some).length=(l.fv++l.ps).length
   rw[aaI,aai,aai];omega
end
structure qT (P:aaG)(K:KW)(base:Heap)(k:Nat)(x:Str)(fn:Fn):Prop where
 run:∀(A:aaL) (outer:List Env) (s:aac) (H:Hp) (ι:Ix) (a:Addr) (gv vs:List V) (us:List Value) (Q:VK) (ds es:List D) (d:D) (g g':G),cX k A->pR P K.w K.fr K.mg base A outer s H->B7 K H ι x a gv->Vals vs us->aw K H ι g->ag K H ι ds gv->ag K H ι es vs ->
  fH fn (ds++es) g=some (d,g')->fN K H ι d g' Q->adO (model P K.w) A (.call (.ref a) ⟨us,[]⟩) (CR gY outer P K.w H s Q E0) s
noncomputable def dD (nf n:Nat)(f:FE):Fn:=λds g=>if ds.length=nf+n then f (ds.map some) g else none
theorem FF {P:aaG}{K:KW}{base:Heap}{k:Nat}{x:Str}{fn:Fn}(i:∀ds g,fn ds g=none):qT P K base k x fn:=⟨λA outer s H ι a f c us Q ds b d g e _ _ _ _ _ _ _ h _=>by obtain⟨_,_,⟨gx,h⟩,_⟩:=qS h;rw[i]at h;cases h⟩
theorem NM {P:aaG}{K:KW}{base:Heap}{k:Nat}{x:Str}{l:dS}{f:FE}(S:uV l)(E:K.lx.lm x=some l)
   (B:∀(cl:List (Str×Addr)) (a:Addr) (cd:Value) (A:aaL) (outer:List Env) (s:aac) (H:Hp),cX k (A.deeper (aeJ l.qual l.sc s.heap.objs.size a cd cl))->DE (oN K.lx P K.w K.fr K.mg base l cl a cd A outer s H) l.bd f):
   qT P K base (k+1) x (dD l.fv.length l.ps.length f):=by
 refine⟨λA outer s H ι a gv vs us Q ds es d g g' hr j C rv G0 rd re h p=>?_⟩;obtain⟨l',c,fM,pm,cl,gr,hf,hc,hn,hd2,hv⟩:=C;rw[E]at gr;cases gr;obtain⟨z1,z2,⟨gx,hx⟩,z3,z4,rfl⟩:=qS h;unfold dD at hx;split at hx
 . rename_i hlen
   have Tv:gv.length=l.fv.length:=by rw[<- hv.len,<- hn,aaI]
   have Tw:vs.length=l.ps.length:=by have h1:=rd.length;have h2:=re.length;rw[aai]at hlen;omega
   have Zy:us.length=l.ps.length:=by rw[<- rv.length];exact Tw
   have KX:K.fr.In s.heap:=j.mod.qr.keeps λb o e=>(j.bs b o e).1;have lim:s.heap.NoLimit:=j.mod.nolimit.keeps λb o e=>(j.bs b o e).1;have ho:=(j.aU a _ hf.1).1;have ju:s.heap.CodeRec (.ref c) l.qual:=j.aU c _ hc.1;have cm:=hv.m j.aU;refine PySem.W.kla_callFunE hr.depth ho rfl S.co S.gen rfl ju ?_;rw[S.bind cl pm (.ref c) fM us Zy];refine aad (wpAny_newFunctionEnv S.HF (λy hy=>S.ps y.1 (adR hy).1) (λh1 tJ C0=>⟨lim.fresh _ C0,?_⟩) S.kind);show adO _ _ (.expr l.bd (aeJ l.qual l.sc s.heap.objs.size a (.ref c) cl)) _ _;have hk:∀b o,s.heap.get? b=some o->h1.get? b=some o:=λb o e=>C0.extBut b o (aaH (aas e)) (aaf _ e);have I:Inv (oN K.lx P K.w K.fr K.mg base l cl a (.ref c) A outer s (cO (bG cl s.heap) H)) [] ((gv++vs).map some) (cO (bG cl s.heap) H) { s with heap:=h1,toks:=s.toks+(l.ps.zip us).length }:=JZ S hr.hd j hn hd2 hv Tw rv tJ hk;have rl:ag K (cO (bG cl s.heap) H) (Ix.none ι) (ds++es) (gv++vs):=ag.wK (λb o q=>(cm b o q).2.1) _ z1 (ag.toN _ z2 (rd.append re));have Ge:aw K (cO (bG cl s.heap) H) (Ix.none ι) []:=G0.empty (λb n=>by
    cases q:bG cl s.heap b with
    |none=>exact .inl (by rw[bF q];exact n)
    |some o =>
     obtain⟨o',u,x,_⟩:=hv.mem b (ia q).1;exact .inr λz=>(aao.mp z).elim x.2.1 (x.2.2 rfl)) λq hq=>bF (by
     cases z:bG cl s.heap q.1 with
     |none=>rfl|some o=>have:=(cm q.1 o z).2.1;rw[(G0.tb q hq).1]at this;cases this)
   have rs:bo K (cO (bG cl s.heap) H) (Ix.none ι) ((ds++es).map some) ((gv++vs).map some):=by
    refine⟨by rw[aaI,aaI];exact rl.length,λi dd q=>?_⟩;rw[aaP]at q;cases e:(ds++es)[i]? with
    |none=>rw[e]at q;cases q
    |some dd' =>
     rw[e]at q;cases q;obtain⟨v,e1,e2⟩:=rl.get e;exact⟨v,by rw[aaP,e1];rfl,e2⟩
   refine PySem.W.kla_codeExpr (aex ((B cl a (.ref c) A outer s _ (hr.deeper _)).un [] _ _ _ (λv H'=>∃ι',Ext (cO (bG cl s.heap) H) (Ix.none ι) H' ι'/\Rel K H' ι' d v) I ⟨Ix.none ι,_,[],d,gx,Ge,rs,hx,λH' ι' v e _ r=>⟨ι',e,r⟩⟩) (λu s' hs=>?_) λe s' z=>z.elim);obtain⟨v,H',J,Zz,ι',e,r'⟩:=hs;obtain⟨ab,G1,same⟩:=JX G0 (λb o q=>(cm b o q).2) e;have jb:Un (kD outer) [] (cO (bG cl s.heap) H) H' s.heap s'.heap:=J.base;have ZC:=NK jb λb o q=>⟨(cm b o q).1,(cm b o q).2.1⟩
   have back:∀b o,bG cl s.heap b=some o->s'.heap.get? b=some o/\H' b=none:=λb o q=>by
    have n:cO (bG cl s.heap) H b=none:=i_ q;refine⟨?_,jb.free b o (cm b o q).1 n (by simp)⟩;have nf:b ∉ kD outer:=λz=>by have:=j.qt b z;rw[(cm b o q).2.1]at this;cases this
    exact jb.keep b o (cm b o q).1 n nf (by simp)
   refine⟨v,dJ (bG cl s.heap) H',J.os,J.bare,ZC,CY J.aU back,Zz,p _ ι v ab G1 ?_⟩;refine Rel.ext (Ext.kC λb o q=>(back b o q).2) d (Rel.qO e.ck (λb B=>?_) d z3 r');obtain⟨o,ev,NN⟩:=G0.lst B;exact⟨o,by rw[same b B];exact ev,NN⟩
 . cases hx
noncomputable def mC (sc:Scope):List Str:=((sc.names.filter (·.2 == .free)).map (·.1)).reverse
theorem mD {c:Str->Addr}{f:Str×acw->List (Str×Addr)->Sem (ForInStep (List (Str×Addr)))}:∀(L:List (Str×acw)) (cs:List (Str×Addr)),(∀x r,(x,abe)∈L->f (x,.free) r=pure (.yield ((x,c x)::r))) ->
  (∀x k r,(k == abe)=false->f (x,k) r=pure (.yield r))->forIn L cs f=pure ((((L.filter (·.2 == .free)).map (·.1)).reverse.map λx=>(x,c x))++cs)
 | [],cs,_,_=>by simp
 | (nm,kd)::L,cs,h1,h2=>by
  rw[acQ];cases hk:kd == abe with
  |true =>
   have e:kd = .free:=eq_of_beq hk;subst e;rw[h1 nm cs aaC,pure_bind];show forIn L _ f=_;rw[mD L _ (λx r a=>h1 x r (aau _ a)) h2];simp
  |false =>
   rw[h2 nm kd cs hk,pure_bind];show forIn L _ f=_;rw[mD L _ (λx r a=>h1 x r (aau _ a)) h2];simp[hk]
theorem uG {sc:Scope}{env:Env}{c:Str->Addr}(h:∀x,(x,abe)∈sc.names->env.cells.lookup x=some (c x)):afu sc env=pure ((mC sc).map λx=>(x,c x)):=by
 unfold afu mC;refine(congrArg (λz=>z >>= _) (mD (c:=c) sc.names [] (λx r a=>?_) λx k r b=>?_)).trans ?_
 . simp[cellOf,h x a]
 . simp[b]
 . rw[pure_bind,abb]
structure uW (X:Cx)(p:Pos)(x:Str)(l:dS):Prop where
 lm:X.lx.lm x=some l
 S:uV l
 Tx:l.fv=mC l.sc
 df:l.ar.defaults = []
 kd:l.ar.kw_defaults = []
 tab:∃cc P,X.env.code = .ref cc/\aie X.base cc P/\(P,p,l.qual)∈X.lx.tb
 qual:X.env.qual ++ "<lambda>" = l.qual
 cells:∀y∈l.fv,X.env.scope.names.lookup y=some .cell
 al:∀y,X.fn y=true
inductive zg (X:Cx)(σ:L2.St):List (Str×Addr)->List V->Prop
 |nil:zg X σ [] []
 |cons {y:Str} {c:Addr} {v:V} {cl:List (Str×Addr)} {vs:List V} {i:Nat} (e:X.env.cells.lookup y=some c) (k:X.env.scope.names.lookup y=some .cell) (hN:X.N[i]? = some y) (hσ:σ[i]? = some (some v)) (t:zg X σ cl vs):zg X σ ((y,c)::cl) (v::vs)
inductive FH (X:Cx)(H:Hp)(ι:Ix)(σ:L2.St):D->V->Prop
 |val {d:D} {v:V} (r:Rel X.kw H ι d v):FH X H ι σ d v
 |lam {x:Str} {ds:List D} {l:dS} {a c:Addr} {fM pm:Value} {cl:List (Str×Addr)} {vs:List V} (hl:X.lx.lm x=some l) (hf:Xo H ι a (oK a (aeG "<lambda>" l.qual l.ar l.bd l.sc cl pm c fM))) (hc:Xo H ι c (.iq l.qual)) (hn:cl.map (·.1)=l.fv) (hd:(cl.map (·.2)).Nodup) (hv:zg X σ cl vs) (r:ag X.kw H ι ds vs):FH X H ι σ (.fn x ds) (.ref a)
inductive nS (X:Cx)(H:Hp)(ι:Ix)(σ:L2.St):List D->List V->Prop
 |nil:nS X H ι σ [] []
 |cons {d:D} {v:V} {ds:List D} {vs:List V} (r:FH X H ι σ d v) (t:nS X H ι σ ds vs):nS X H ι σ (d::ds) (v::vs)
theorem nS.len {X:Cx}{H ι σ}:∀{ds vs},nS X H ι σ ds vs->ds.length=vs.length
 |_,_,.nil=>rfl|_,_,.cons r t=>by simp[t.len]
inductive tQ (X:Cx)(f:FA)(σ:L2.St)(H:Hp)(Q:List V->Hp->Prop):Prop
 |mk (ι:Ix) (σd:Sg) (g:G) (ds:List D) (g':G) (h0:aw X.kw H ι g) (h1:bo X.kw H ι σd σ) (h2:f σd g=some (ds,g')) (h3:∀H' ι' vs,Ext H ι H' ι'->aw X.kw H' ι' g'->nS X H' ι' σ ds vs->Q vs H'):tQ X f σ H Q
structure wM (X:Cx)(es:List Expr)(f:FA):Prop where of ::
 un:PA X es (tQ X f)
section
variable {X:Cx}{e:Expr}{es:List Expr}{fa:FE}{fr:FA}
theorem J0:wM X [] aj:=.of (PA.imp jS λσ H Q h=>by obtain⟨ι,a,g,d,b,G0,c,h,p⟩:=h;cases h;exact p H ι _ Ext.refl G0 .nil)
theorem FJ (A:DE X e fa)(C:wM X es fr)(B:aay (e::es) X.env=(false,eval e X.env)::aay es X.env):wM X (e::es) (af fa fr):=.of (
 PA.imp (fV A.un C.un B) λσ H Q h=>by obtain⟨ι,q,g,d,z,G0,o,h,p⟩:=h;obtain⟨⟨d1,g1⟩,j,h⟩:=bind_some h;obtain⟨⟨b,g2⟩,y,h⟩:=bind_some h;cases h;refine tD.bind G0 o j λH1 r v c s i f=>?_;refine⟨r,q,g1,b,g2,s,i,y,λx l u a k n=>?_⟩;exact p x l _ (c.trans a) k (.cons (.val (Rel.ext a _ f)) n))
noncomputable def wN:List Nat->Sg->Option (List D)
 | [],_=>some []
 |i::is,σ=>match σ[i]? with
  |some (some d)=>(wN is σ).map (d :: ·)|_=>none
noncomputable def sx (x:Str)(is:List Nat):FE:=λσ g=>(wN is σ).map λds=>(.fn x ds,g)
def C4 (N:List Str)(is:List Nat)(ys:List Str):Prop:=is.length=ys.length /\ ∀(j:Nat) i y,is[j]? = some i->ys[j]? = some y->N[i]? = some y
theorem C5 {X:Cx}{H:Hp}{ι:Ix}{u:Sg}{σ:L2.St}(x:bo X.kw H ι u σ){c:Str->Addr}:∀{is:List Nat} {ys:List Str} {ds:List D},C4 X.N is ys->(∀y∈ys,X.env.cells.lookup y=some (c y))->(∀y∈ys,X.env.scope.names.lookup y=some .cell)->wN is u=some ds ->
  ∃vs,zg X σ (ys.map λy=>(y,c y)) vs/\ag X.kw H ι ds vs
 | [],[],ds,_,_,_,h=>by cases h;exact⟨[],.nil,by simp[ag]⟩| [],_::_,_,q,_,_,_=>by have:=q.1;simp at this|_::_,[],_,q,_,_,_=>by have:=q.1;simp at this
 |i::is,y::ys,ds,q,hc,hk,h=>by
  unfold wN at h;split at h
  . rename_i d hd
    obtain⟨k,f,rfl⟩:=aak.mp h;obtain⟨vs,n,p⟩:=C5 x (is:=is) (ys:=ys) ⟨by have:=q.1;simpa using this,λj s r a b=>q.2 (j+1) s r (by simpa using a) (by simpa using b)⟩ (λz e=>hc z (aau _ e)) (λz e=>hk z (aau _ e)) f;obtain⟨v,l,o⟩:=x.2 i d hd;refine⟨v::vs,.cons (hc y aaC) (hk y aaC) (q.2 0 i y rfl rfl) l n,?_⟩;simp only[ag];exact⟨v,vs,rfl,o,p⟩
  . cases h
theorem NO {p:Pos}{x:Str}{l:dS}(L:uW X p x l){b0:List (Addr×Obj)}{σ:L2.St}{s:aac}{H:Hp}{ι:Ix}{g:G}(I:Inv X b0 σ H s)(G0:aw X.kw H ι g){Q:Value->aac->Prop}
   (q:∀a c fM pm s' H',Inv X b0 σ H' s'->Ext H ι H' ι->aw X.kw H' ι g->Xo H' ι a (oK a (aeG "<lambda>" l.qual l.ar l.bd l.sc (l.fv.map λy=>(y,(X.env.cells.lookup y).getD 0)) pm c fM))->Xo H' ι c (.iq l.qual)->Q (.ref a) s'):
   wpAny (model X.prog X.w) X.A (eval (.Lambda l.ar l.bd l.sc p) X.env) Q X.xe s:=by
 obtain⟨cc,P,HH,ZD,NP⟩:=L.tab;obtain⟨hP,ae⟩:=G0.tb _ NP;have hP:H P=some (.bU p l.qual):=hP;have fE:afu l.sc X.env=pure (l.fv.map λy=>(y,(X.env.cells.lookup y).getD 0)):=by
   rw[L.Tx];refine uG (c:=λy=>(X.env.cells.lookup y).getD 0) λy hy=>?_;have:y∈l.fv:=by rw[L.Tx];unfold mC;rw[aen];exact aaQ.mpr ⟨(y,.free),abM.mpr ⟨hy,rfl⟩,rfl⟩
   obtain⟨c,e⟩:=I.ok.has y (.inl (L.cells y this));rw[e];rfl
 obtain⟨ps,eP,ht,Q5⟩:=I.aU P _ hP;have hg:s.heap.Ns aaZ X.mg:=I.mod.glob.keeps I.bk;have C:aie s.heap cc P:=ZD.keeps I.bk;obtain⟨bm,ob,B⟩:=I.mod.bm;have ZE:aaZ≠P:=λz=>by obtain⟨o,es,ep,e,d,_⟩:=hg;rw[z,eP]at e;cases e;cases d
 have ZF:bm≠P:=λz=>by have:=I.bk _ _ B.obj;rw[z,eP]at this;cases this;have z2:acg = .type "module":=B.cls;cases z2
 have ZG:bm≠aaZ:=λz=>by obtain⟨o,es,ep,e,d,_⟩:=hg;have:=I.bk _ _ B.obj;rw[z,e]at this;cases this;rw[B.data]at d;cases d
 have hb:s.heap.BuiltinsAt X.mg P:=⟨bm,ob,B.name,B.ne,ZG,ZF,I.bk _ _ B.obj,B.cls,B.dict,B.data⟩
 refine PySem.W.kla_eval (by rw[defaultsOf_eq,L.df,L.kd];rfl) ?_;rw[L.qual];rcases Q5 with Ho|⟨c,hf,hc⟩
 . refine PySem.W.kla_makeFunction (mg:=X.mg) fE I.ok.glob hg HH C eP ht Ho ZE hb λc' fM f tk hx NQ bM VZ NR=>?_
   have j:H c'=none:=I.aU.fresh NQ;have NS:s.heap.objs.size<=f.objs.size:=aa0 NQ (adp bM);have h:H f.objs.size=none:=I.aU.fresh NS;have Cp:f.objs.size≠c':=aeB bM;have ab:c'≠P:=λz=>by rw[z,hP]at j;cases j
   have ah:f.objs.size≠P:=λz=>by rw[z,hP]at h;cases h
   have e1:Ext H ι (upd H c' (.iq l.qual)) ι:=Ext.lay j;have AQ:upd H c' (.iq l.qual) f.objs.size=none:=by rw[aB Cp];exact h
   have e2:=λo=>Ext.lay (ι:=ι) (o:=o) AQ;have G1:aw X.kw (upd H c' (.iq l.qual)) ι g:=G0.lay j;have qU:∀(o:Obj) b ob,b≠P->s.heap.get? b=some ob->(f.push o).get? b=some ob:=λo b ob n e=>aaf _ (hx b ob n e);have got:∀o:Obj,o.isFreed=false->(f.push o).get? f.objs.size=some o:=λo z=>aaq _ z;refine q _ c' fM ((X.mg "__name__").getD .none) _ (upd (upd H c' (.iq l.qual)) f.objs.size (oK f.objs.size _)) (I.un (t':=tk) ⟨λb ob e n _ _=>qU _ b ob (λz=>by rw[z,hP]at n;cases n) e,λb ob e n _ _=>⟨ob.slots,qU _ b ob (λz=>by rw[z,hP]at n;cases n) e⟩,λb ob e n _=>?_,λb ob e _=>?_,λb xs e=>?_,λb ob u e=>?_,λb u _ e=>?_⟩ λb u e=>?_) (e1.trans (e2 _)) (G1.lay AQ) ⟨aR,G1.fresh AQ,λ_=>G1.gZ AQ⟩ ⟨by rw[aB (aaN Cp)];exact aR,G0.fresh j,λz=>(by cases z)⟩
   . have l1:=aas e
     rw[aB (aaH (aaM l1 NS)),aB (aaH (aaM l1 NQ))];exact n
   . by_cases z:b=P
     . rw[z];exact⟨_,aaf _ NR⟩
     . exact⟨ob,qU _ b ob z e⟩
   . rw[aB (aN e h),aB (aN e j)];exact e
   . rw[aB (aN e h),aB (aN e j)];exact e
   . rw[aB (aN e h),aB (aN e j)];exact e
   . have lift:∀b u,H b=some u->upd (upd H c' (.iq l.qual)) f.objs.size (oK f.objs.size (aeG "<lambda>" l.qual l.ar l.bd l.sc (l.fv.map λy=>(y,(X.env.cells.lookup y).getD 0)) ((X.mg "__name__").getD .none) c' fM)) b=some u:=λb u e=>by
       rw[aB (aN e h),aB (aN e j)];exact e
     by_cases za:b=f.objs.size
     . subst za
       rw[aR]at e;cases e;exact⟨got _ rfl,⟨_,got _ rfl⟩,λh1 h2 p k=>k _ p⟩
     . rw[aB za]at e
       by_cases zc:b=c'
       . subst zc
         rw[aR]at e;cases e;exact VZ.push _
       . rw[aB zc]at e
         by_cases zp:b=P
         . subst zp
           rw[hP]at e;cases e;refine⟨_,aaf _ NR,?_,.inr ⟨c',?_,?_⟩⟩
           . rw[agM];exact TriplesOk_snoc _ _ _ _ ht
           . rw[agM];exact codeAmong_snoc _ ht Ho
           . rw[aB (aaN Cp)];exact aR
         . refine(I.aU b u e).cu (λd v hd r=>qU _ d v ?_ r) (λd r=>lift d _ r) (λd xs r=>lift d _ r) λd r' r=>lift d _ r
           rcases hd with rfl|hd
           . exact zp
           . intro z;rw[z,hP]at hd;cases hd
 . refine PySem.W.kla_makeFunctionHit (mg:=X.mg) fE I.ok.glob hg HH C eP ht hf hb λfM f tk hk ir=>?_
   have h:H f.objs.size=none:=I.aU.fresh ir;have kk:∀(o:Obj) b ob,s.heap.get? b=some ob->(f.push o).get? b=some ob:=λo b ob e=>aaf _ (hk b ob e);have got:∀o:Obj,o.isFreed=false->(f.push o).get? f.objs.size=some o:=λo z=>aaq _ z;have j:c ∉ ι.ix:=λz=>by
     obtain⟨o,ev,_⟩:=id (G0.lst z);rw[hc]at ev;cases ev;obtain⟨i,hi,e⟩:=abR.mp z;have ZH:i<g.length:=by rw[<- G0.len];exact hi
     obtain⟨b,o,vs,hb,h1,ov,_⟩:=G0.at_ i _ (aag ZH);rw[aag hi,e]at hb;cases hb;rw[hc]at h1;cases h1;generalize ι.kd i=kk at ov;cases ov
   have e2:=λo=>Ext.lay (ι:=ι) (o:=o) h;refine q _ c fM _ _ (upd H f.objs.size (oK f.objs.size _)) (I.laid (t':=tk) (kk _) ir ⟨got _ rfl,⟨_,got _ rfl⟩,λh1 h2 p k=>k _ p⟩) (e2 _) (G0.lay h) ⟨aR,G0.fresh h,λ_=>G0.gZ h⟩ ⟨by rw[aB (aN hc h)];exact hc,j,λz=>(by cases z)⟩
end
theorem nodup_map_on {j k:Type}{f:j->k}:∀{l:List j},(∀x∈l,∀y∈l,f x=f y->x=y)->l.Nodup->(l.map f).Nodup
 | [],_,_=>acM|x::l,h,nd=>by rw[aa5,aaS];rw[aaS]at nd;refine⟨λz=>?_,nodup_map_on (λa d b i=>h a (aau _ d) b (aau _ i)) nd.2⟩;obtain⟨y,c,e⟩:=aaQ.mp z;have:=h y (aau _ c) x aaC e;rw[this]at c;exact nd.1 c
section
variable {X:Cx}{es:List Expr}{fr:FA}{p:Pos}{x:Str}{l:dS}{is:List Nat}
theorem J2 (L:uW X p x l)(A:C4 X.N is l.fv)(B:wM X es fr):wM X (.Lambda l.ar l.bd l.sc p::es) (af (sx x is) fr):=.of (by
 intro pos b0 s σ H Q I h;obtain⟨ι,σd,g,d,g',G0,u,h,q⟩:=h;obtain⟨⟨d1,g1⟩,f,h⟩:=bind_some h;obtain⟨⟨v,g2⟩,h2,h⟩:=bind_some h;cases h;unfold sx at f;obtain⟨ds,hc,f⟩:=aak.mp f;cases f;have o:∀y∈l.fv,X.env.cells.lookup y=some ((X.env.cells.lookup y).getD 0):=λy n=>by obtain⟨c,e⟩:=I.ok.has y (.inl (L.cells y n));rw[e];rfl
 obtain⟨vc,cL,rc⟩:=C5 u A o L.cells hc;show wpAny _ _ (spliced ((false,eval (.Lambda l.ar l.bd l.sc p) X.env)::acm pos (aay es X.env))) _ _ s;refine ae4 (NO L I G0 λa c fM pm s1 H1 I1 k G1 xf xc=>?_);refine aY (B.un pos b0 s1 σ H1 (λj b=>Q (.ref a::j) b) I1 ⟨ι,σd,g,v,g2,G1,u.ext k,h2,λb ι2 j i G2 rq=>?_⟩) λus s2 ⟨j,b,I2,r2,q2⟩=>⟨.ref a::j,b,I2,.cons rfl r2,q2⟩
 refine q b ι2 _ (k.trans i) G2 (.cons (.lam L.lm (xf.ext i) (xc.ext i) ?_ ?_ cL (ag.ext (k.trans i) _ rc)) rq)
 . rw[ad0];exact List.map_id _
 . rw[ad0]
   refine nodup_map_on (λy n z hz e=>?_) (aco.mp L.S.nd).1;have e:(X.env.cells.lookup y).getD 0=(X.env.cells.lookup z).getD 0:=e;have r:=o y n;rw[e]at r;exact I.ok.inj y z _ r (o z hz))
noncomputable def dX (X:Cx):List (Str×Addr):=(X.env.cells.map (·.1)).filterMap λy=>(X.env.cells.lookup y).map λc=>(y,c)
theorem nU {b:Addr}(h:b∈(dX X).map (·.2)):∃y,X.env.cells.lookup y=some b:=by obtain⟨⟨y,c⟩,hm,rfl⟩:=aaQ.mp h;obtain⟨z,_,e⟩:=ab3.mp hm;obtain⟨f,d,a⟩:=aak.mp e;cases a;exact⟨_,d⟩
theorem C6 {y:Str}{c:Addr}(e:X.env.cells.lookup y=some c):c∈(dX X).map (·.2):=
 aaQ.mpr ⟨(y,c),ab3.mpr ⟨y,abV (f:=(·.1)) (aaT e),by rw[e];rfl⟩,rfl⟩
section
variable {b0:List (Addr×Obj)}{σ:L2.St}{s:aac}{H:Hp}{ι:Ix}{g:G}
theorem AR (I:Inv X b0 σ H s):∀b o,bG (dX X) s.heap b=some o->s.heap.get? b=some o/\H b=none:=λb o q=>by obtain⟨a,e⟩:=ia q;obtain⟨y,c⟩:=nU a;exact⟨e,I.gz y b c⟩
theorem t6 (I:Inv X b0 σ H s)(G0:aw X.kw H ι g):∀{cl:List (Str×Addr)} {vs:List V},zg X σ cl vs->cq (dJ (bG (dX X) s.heap) H) ι cl vs
 |_,_,.nil=>.nil
 |_,_,.cons (y:=y) (c:=c) (v:=v) e k hN hσ t=>by
  obtain⟨mm,_,f⟩:=I.loc;obtain⟨u,r,d⟩:=f _ y v hN hσ (.inr (.inl k));rcases d with⟨a,_⟩|⟨_,c',e',o,ho,hd⟩
  . have a:X.env.scope.names.lookup y=some .local:=a
    rw[k]at a;cases a
  . rw[e]at e';cases e'
    have b:=I.gz y c e;exact .cons ⟨i9 (wL (C6 e) ho),G0.fresh b,λ_=>G0.gZ b⟩ hd r (t6 I G0 t)
theorem wO (I:Inv X b0 σ H s)(G0:aw X.kw H ι g):∀{ds:List D} {vs:List V},nS X H ι σ ds vs->ag X.kw (dJ (bG (dX X) s.heap) H) ι ds vs
 |_,_,.nil=>by simp[ag]
 |_,_,.cons r t=>by
  have e:Ext H ι (dJ (bG (dX X) s.heap) H) ι:=Ext.kC λb o q=>(AR I b o q).2;simp only[ag];refine⟨_,_,rfl,?_,wO I G0 t⟩;cases r with
  |val r=>exact Rel.ext e _ r
  |lam hl hf hc hn hd hv r =>
   simp only[Rel];exact⟨_,_,rfl,.inr ⟨_,_,_,_,_,hl,hf.ext e,hc.ext e,hn,hd,t6 I G0 hv⟩,ag.ext e _ r⟩
theorem J3 (I:Inv X b0 σ H s)(h:∀y,X.fn y=true):pR X.prog X.w X.K X.mg X.base X.A X.stack s (dJ (bG (dX X) s.heap) H):=by
 have a:=I.EM;have up:∀b o,bG (dX X) s.heap b=some o->X.s₀.heap.objs.size<=b:=λb o q=>by obtain⟨y,d⟩:=nU (ia q).1;exact I.ok.yo y b (h y) d
 refine⟨a.frames,a.mod,λb o e=>⟨(a.bs b o e).1,?_⟩,a.nj,a.gU,λb c=>?_,CY a.aU (AR I),a.bare⟩
 . rw[bO ?_]
   . exact(a.bs b o e).2
   . cases z:bG (dX X) s.heap b with
     |none=>rfl|some o'=>exact absurd (aaM (aas e) (aa0 I.ok.nj (up b o' z))) (abY _)
 . rw[bO ?_]
   . exact a.qt b c
   . cases z:bG (dX X) s.heap b with
     |none=>rfl
     |some o' =>
      obtain⟨y,d⟩:=nU (ia z).1;rcases aah.mp (I.qu b c)with e|c
      . exact absurd e (I.sY y b d)
      . obtain⟨_,o,f,_⟩:=I.ok.gU.mem c
        exact absurd (aaM (aas f) (up b o' z)) (abY _)
end
theorem FK {k n:Nat}{f:Addr}{E:abN}{ps:List Str}{fn:Fn}{nm:Str}{p B:Pos}{e:Expr}(F:dU X.prog X.w X.kw X.mg X.base gY k f E ps (kL X.kw n fn))(J:cX k X.A)(S:X.mg nm=some (.ref f))(P:ach X.kw (.ref f)=true)(C:Binds X.kw E ps [])(T:∀ds g r,fn ds g=some r->ds.length=n)(N:∀y,X.fn y=true)
  (R:wM X (e::es) fr) (L:Gl X nm) (K:(nm == ("__debug__":Str))=false) (O:aay (e::es) X.env=(false,eval e X.env)::aay es X.env) (M:(acm B (aay es X.env)).any (·.1)=false):DE X (.Call (.Name nm p) (e::es) [] B) (aq (jE fn) fr):=.of (by
 intro b0 s σ H Q I h;obtain⟨ι,σd,g,d,g',G0,S0,h,q⟩:=h;obtain⟨⟨ds,g1⟩,h1,h⟩:=bind_some h;refine ab4 (oA I L S ?_ K);refine ae5 (h₀:=X.base) I.ok.mod.qr P (aY (R.un B b0 s σ H (λj H1=>∃a,Ext H ι H1 a/\aw X.kw H1 a g1/\nS X H1 a σ ds j) I ⟨ι,σd,g,ds,g1,G0,S0,h1,λH1 a j e1 i rq=>⟨a,e1,i,rq⟩⟩) λus s1 ⟨j,H1,l,r,a,e1,i,rq⟩=>⟨l.gq,?_⟩) O M;obtain⟨z1,⟨gx,hx⟩,z3,z4,rfl⟩:=AO h;have cm:=AR l;have rl:=wO l i rq;have hl:j.length=n:=by rw[<- rq.len];exact T _ _ _ hx
 have Ge:aw X.kw (dJ (bG (dX X) s1.heap) H1) (Ix.none a) []:=i.empty (λb nn=>.inl ((Ext.kC (ι:=a) λb o q=>(cm b o q).2).there b nn)) λq c=>by rw[(i.tb q c).1];exact(Ext.kC (ι:=a) λb o q=>(cm b o q).2).same _ _ (i.tb q c).1 (i.tb q c).2
 have sp:kL X.kw n fn j (dJ (bG (dX X) s1.heap) H1) (λv x=>∃z,Ext (dJ (bG (dX X) s1.heap) H1) (Ix.none a) x z/\Rel X.kw x z d v) E0:=⟨hl,Ix.none a,[],ds,d,gx,Ge,ag.toN _ z1 rl,hx,λx z v e _ r=>⟨z,e,r⟩⟩
 have ZJ:(us ++ []).length=ps.length:=by rw[abb,<- r.length];exact F.len _ _ _ _ sp
 have GX:=C s1 us l.gq ZJ;rw[abb]at GX;refine agq (ads (F.run X.A X.stack s1 (dJ (bG (dX X) s1.heap) H1) ⟨us,[]⟩ us j _ E0 J (J3 l N) GX r sp) λrr s' c=>?_);cases rr with
 |error e=>exact c.elim
 |ok fl =>
  cases fl with
  |next=>exact ab6 c|brk=>exact ab6 c|cont=>exact ab6 c
  |ret u =>
   obtain⟨v,x,os,bare,un,aU,rv,z,e,r'⟩:=c;obtain⟨E1,G2,same,j3⟩:=JY i (λb o q=>(cm b o q).2) e;refine l.after ⟨v,cO (bG (dX X) s1.heap) x,os,bare,NL un cm j3 aU,CZ aU j3,rv,?_⟩;refine q _ a v (e1.trans E1) G2 (Rel.wK j3 d z4 (Rel.qO e.ck (λb C=>?_) d z3 r'));obtain⟨o,ev,NN⟩:=i.lst C;exact⟨o,by rw[same b C];exact ev,NN⟩)
end
end L3
namespace RI
open PyProof.Rows L2 L3
structure G0 where
 T:Nat->Fn
 k:Nat
 fns:List (Str×Nat×Nat)
 ja:List Str
 wQ:List (Str×D)
 wR:List (Str×List (Str×D))
 NT:List (Str×Nat)
structure Cs where
 N:List Str
 sc:Scope
 all:Bool
 mt:List Str
 own:List Str
 lam:Option (Pos×Str×dS)
inductive wU (m:G0)(X:Cx)(x:Str)(i n:Nat):Prop
 |mk (f:Addr) (fd:abN) (ps:List Str) (ok:dU X.prog X.w X.K X.mg X.base gY m.k f fd ps (kL X.kw n (m.T i))) (hm:X.mg x=some (.ref f)) (kp:ach X.K (.ref f)=true) (b:Binds X.K fd ps []) (ln:∀ds g r,m.T i ds g=some r->ds.length=n):wU m X x i n
structure Gd (m:G0)(c:Cs)(X:Cx):Prop where
 hN:X.N=c.N
 hs:X.env.scope=c.sc
 nd:c.N.Nodup
 xe:X.xe=λ_ _=>False
 cm:X.calm=true
 rm:cX m.k X.A
 al:c.all=true->∀x,X.fn x=true
 ow:∀x∈c.own,X.fn x=true
 fn:∀x i n,(x,i,n)∈m.fns->wU m X x i n
 bl:∀x∈m.ja,X.mg x=none
 cn:∀x d,(x,d)∈m.wQ->∃v u,X.mg x=some u/\RelV v u /\ ∀K H ι,Rel K H ι d v
 dc:∀x t,(x,t)∈m.wR->∃a,X.mg x=some (.ref a)/\iR X.w X.kw a t
 lf:∀x i n,(x,i,n)∈m.fns->X.lx.lm x=none
 ll:∀x i,(x,i)∈m.NT->(∃l,X.lx.lm x=some l)/\qT X.prog X.kw X.base m.k x (m.T i)
 lh:∀p x l,c.lam=some (p,x,l)->uW X p x l
noncomputable def kj:FT:=λ_ _=>none
noncomputable def qV:FA:=λ_ _=>none
noncomputable def b_:FS:=λ_ _=>none
noncomputable def qW:FI:=λ_ _=>none
noncomputable def qX:FG:=λ_ _ _=>none
section
variable {X:Cx}
theorem sA {e:Expr}:DT X e kj:=.of (λb0 s σ H Q I h=>by obtain⟨_,_,_,_,_,_,_,h,_⟩:=h;cases h)
theorem sC {es:List Expr}:DA X es qV:=.of (λ_ b0 s σ H Q I h=>by obtain⟨_,_,_,_,_,_,_,h,_⟩:=h;cases h)
theorem bV {e:Stmt}:DS X e b_:=.of (λb0 s σ H Q I h=>by obtain⟨_,_,_,_,_,_,_,_,h,_⟩:=h;cases h)
theorem sD {tg e:Expr}:DI X tg e qW:=.of (λb0 s σ H Q I h=>by obtain⟨_,_,_,_,_,_,_,h,_⟩:=h;cases h)
theorem oO {e:Expr}:DG X e qX:=.of (λb0 s σ H v u Q I r h=>by obtain⟨_,_,_,_,_,_,_,_,_,h,_⟩:=h;cases h)
end
noncomputable def isStar (e:Expr):Bool:=adg e.ctorIdx 22
noncomputable def isSet (e:Expr):Bool:=adg e.ctorIdx 7
noncomputable def uX (e:Expr):Bool:=adg e.ctorIdx 26
noncomputable def nY (e:Expr):Bool:=adg e.ctorIdx 8||adg e.ctorIdx 9||adg e.ctorIdx 10
noncomputable def Q6 (e:Expr):Bool:=adg e.ctorIdx 24
noncomputable def lM (e:Expr):Bool:=adg e.ctorIdx 25
noncomputable def zh:Expr->Bool
 |.Call (.Name _ _) [] [] _=>true|_=>false
noncomputable def mE:Expr->Bool
 |.UnaryOp .Not _ _=>false|.BoolOp ..=>false|.IfExp ..=>false|.Compare ..=>false|_=>true
noncomputable def Q7 (e:Expr):Bool:=adg e.ctorIdx 23||adg e.ctorIdx 21||adg e.ctorIdx 19
theorem bh {e:Expr}{es:List Expr}{env:Env}(h:isStar e=false):aay (e::es) env=(false,eval e env)::aay es env:=by cases e<;>first|rfl|cases h
theorem marks {op:CmpOp}{e:Expr}(h:isSet e=false):aej op e=false:=by cases e<;>first|rfl|cases h
theorem plainT {e:Expr}{env:Env}(h:mE e=true):∀whole,isTrue e env whole=(do let v <- whole;age e.pos;ac1 [v] (truthy v)):=by
 intro whole;cases e with
 |UnaryOp op a p=>cases op<;>first|rfl|cases h
 |_=>first|rfl|cases h
theorem zi {e:Expr}(h:uX e=false):oB e:=by intro o i;cases e<;>first|rfl|cases h
theorem baseOk {e:Expr}{x:Str}{env:Env}(h:zh e=false):aek e x env (eval e env)=eval e env:=by
 cases e with
 |Call f as ks p=>cases f with
  |Name=>cases as with
   |nil=>cases ks with
    |nil=>cases h|cons=>rfl
   |cons=>rfl
  |_=>rfl
 |_=>rfl
theorem wV {e:Expr}{t:Option Expr}{l:Nat}{env:Env}(h:nY e=false):adz e t l env=pure false:=by cases e<;>first|rfl|cases h
theorem kR {e:Expr}{env:Env}(h:isSet e=false):∀x,aa7 e env x=pure x:=by intro x;cases e<;>first|rfl|cases h
theorem gM {es:List Expr}{env:Env}{a:Pos}(h:es.any isStar=false):(acm a (aay es env)).any (·.1)=false:=by
 induction es with
 |nil=>rfl
 |cons e es ih =>
  rw[abG,abl]at h;rw[bh h.1]
  show(false||(acm a (aay es env)).any (·.1))=false
  rw[ih h.2];rfl
theorem wW {es:List Expr}{env:Env}{a:Pos}(h:es.any isStar=false):(acm a (aay es env)).all (λx=>!x.1)=true:=by
 induction es with
 |nil=>rfl
 |cons e es ih =>
  rw[abG,abl]at h;rw[bh h.1];show(true&&(acm a (aay es env)).all (λx=>!x.1))=true;rw[ih h.2];rfl
noncomputable def km:List Str->Str->Option Nat
 | [],_=>none|y::N,x=>if y == x then some 0 else(km N x).map (· + 1)
theorem fP:∀{N:List Str} {x:Str} {i:Nat},km N x=some i->N[i]? = some x
 | [],_,_,h=>by cases h
 |y::N,x,i,h=>by
  unfold km at h;split at h
  . rename_i e
    cases h;simp[eq_of_beq e]
  . obtain⟨j,a,rfl⟩:=aak.mp h
    simpa using fP a
theorem lookup_mem {c:Type}:∀{l:List (Str×c)} {x:Str} {a:c},l.lookup x=some a->(x,a)∈l
 | [],_,_,h=>by cases h
 | (y,b)::l,x,a,h=>by
  rw[aaX]at h;split at h
  . rename_i e
    cases h;rw[eq_of_beq e];exact aaC
  . exact aau _ (lookup_mem h)
theorem nn {a:Type}{x:a}{P:Prop}(h:(none:Option a)=some x):P:=nomatch h
noncomputable def zj:Expr->Option (Str×Pos)
 |.Name x p=>some (x,p)|_=>none
theorem qY {e:Expr}{x:Str}{p:Pos}(h:zj e=some (x,p)):e = .Name x p:=by
 cases e with
 |Name y p=>cases h;rfl|_=>exact nn h
noncomputable def nV (e:Expr):Option Str:=(zj e).map (·.1)
theorem mF {e:Expr}{x:Str}(h:nV e=some x):∃p,e = .Name x p:=by obtain⟨⟨y,p⟩,a,rfl⟩:=aak.mp h;exact⟨p,qY a⟩
noncomputable def HI:Expr->Option (Expr×Expr×Pos)
 |.Subscript o i p=>some (o,i,p)|_=>none
theorem wX {e o i:Expr}{p:Pos}(h:HI e=some (o,i,p)):e = .Subscript o i p:=by
 cases e with
 |Subscript=>cases h;rfl|_=>exact nn h
noncomputable def sV (e:Expr):Option (Expr×Expr):=(HI e).map λq=>(q.1,q.2.1)
theorem AS {e o i:Expr}(h:sV e=some (o,i)):∃p,e = .Subscript o i p:=by obtain⟨⟨c,d,p⟩,a,b⟩:=aak.mp h;cases b;exact⟨p,wX a⟩
noncomputable def tV:Expr->Option (List Expr)
 |.Tuple es _ _=>some es|_=>none
theorem AU {e:Expr}{es:List Expr}(h:tV e=some es):∃k p,e = .Tuple es k p:=by
 cases e with
 |Tuple a k p=>cases h;exact⟨k,p,rfl⟩|_=>exact nn h
noncomputable def C7:Expr->Option (Expr×List Expr×Pos)
 |.Call f as NU p=>if NU.isEmpty then some (f,as,p)else none|_=>none
theorem qZ {e f:Expr}{a:List Expr}{p:Pos}(h:C7 e=some (f,a,p)):e = .Call f a [] p:=by
 cases e with
 |Call f' Tz NU q=>cases NU with
  |nil=>cases h;rfl|cons=>exact nn h
 |_=>exact nn h
noncomputable def cV (e:Expr):Option (Str×List Expr):=(C7 e).bind λq=>(nV q.1).map λx=>(x,q.2.1)
theorem uY {e:Expr}{x:Str}{d:List Expr}(h:cV e=some (x,d)):∃p q,e = .Call (.Name x p) d [] q:=by obtain⟨⟨f,c,q⟩,b,h⟩:=bind_some h;obtain⟨y,a,h⟩:=aak.mp h;cases h;obtain⟨p,a⟩:=mF a;exact⟨p,q,by rw[qZ b];exact congrArg (λz=>Expr.Call z c [] q) a⟩
noncomputable def two {c:Type}:List c->Option (c×c)
 | [a,b]=>some (a,b)|_=>none
theorem q_ {c:Type}{l:List c}{a b:c}(h:two l=some (a,b)):l = [a,b]:=by
 cases l with
 |nil=>cases h
 |cons x l=>cases l with
  |nil=>cases h
  |cons y l=>cases l with
   |nil=>cases h;rfl|cons=>cases h
noncomputable def gV:List acS->Option (Expr×Expr×List Expr)
 | [g]=>if g.is_async=0 then some (g.target,g.iter,g.ifs)else none|_=>none
theorem HJ {gs:List acS}{tg c:Expr}{ifs:List Expr}(h:gV gs=some (tg,c,ifs)):gs = [⟨tg,c,ifs,0⟩]:=by
 cases gs with
 |nil=>cases h
 |cons g gs=>cases gs with
  |cons=>cases h
  |nil =>
   obtain⟨a,b,d,k⟩:=g;change (if k=0 then some (a,b,d)else none)=some _ at h;by_cases hk:k=0
   . subst hk;cases h;rfl
   . rw[if_neg hk]at h;cases h
noncomputable def iH (x:Str):Bool:=x == ("__debug__":Str)||x == ("__classdict__":Str)||x == ("__name__":Str)
theorem nZ {x:Str}(h:iH x=false):(x == ("__debug__":Str))=false/\(x == ("__classdict__":Str))=false/\x ≠ "__name__":=by simp only[iH,abl]at h;exact⟨h.1.1,h.1.2,λe=>by have:=h.2;rw[e]at this;simp at this⟩
structure mG where
 nm:Str
 fn:Fn
 ok:∀{X:Cx} {k:Nat},cX k X.A->X.calm=true->(∃id,dk X (.builtin id) (kH X.kw fn)/\acr nm=some (.builtin id))\/(∃T,dk X (.type T) (kH X.kw fn)/\acr nm=some (.type T))
structure uZ where
 nm:Str
 iA:D->Bool
 m:D->List D->G->Option (D×G)
 ok:∀{X:Cx} {k:Nat},cX k X.A->∃T id,MR X T nm id iA m
def aE (E:Expr->FE):List Expr->FA
 | []=>aj|e::es=>if isStar e then qV else af (E e) (aE E es)
structure AV where
 nm:Str
 tup:Bool
 f:(Expr->FE)->List Expr->FI
 ok:∀{X:Cx} {k:Nat} {E:Expr->FE} {tg:Expr} {as:List Expr} {p pos:Pos},cX k X.A->X.calm=true->X.mg nm=none->Gl X nm->(∀e,DE X e (E e))->as.any isStar=false->(tup=true->lM tg=true)->DI X tg (.Call (.Name nm p) as [] pos) (f E as)
structure kS where
 e:G0->Cs->(Expr->FE)->Bool->Expr->Option FE
 t7:∀{m:G0} {c:Cs} {X:Cx} {E:Expr->FE},Gd m c X->(∀e,DE X e (E e))->∀{rf x f},e m c E rf x=some f->DE X x f
 t:G0->Cs->(Expr->FE)->Expr->Option FT
 tok:∀{m:G0} {c:Cs} {X:Cx} {E:Expr->FE},Gd m c X->(∀e,DE X e (E e))->∀{x f},t m c E x=some f->DT X x f
structure Pk where
 bl:List mG
 br:List mG
 mt:List uZ
 it:List AV
 xr:List kS
def C8:Const->FE
 |.int i=>fC (.int i)|.str x=>fC (.str x)|.bool b=>fC (.bl b)|.none=>fC .ax|_=>bu
noncomputable def u0:Option acw->Bool
 |some .local=>true|some .cell=>true|some .free=>true|_=>false
def eName (m:G0)(c:Cs)(x:Str):FE :=
 if iH x then bu else
 match u0 (c.sc.names.lookup x),km c.N x with
 |true,some i=>aa i|true,none=>bu|false,_=>if c.sc.names.lookup x=some .globalImplicit then(match m.wQ.lookup x with|some d=>fC d|none=>match m.fns.lookup x with|some _=>fC (.fn x [])|none=>bu)else bu
def NV (op:adT)(c d:Bool)(b a:FE):FE:=match op with
 |.Add=>ak bI b a|.Sub=>ak (bS eu (· - ·)) b a|.Mult=>ak (if d then(if c then gh else gB)else dI) b a|.FloorDiv=>ak (bS eX (· / ·)) b a|.Mod=>ak (bS cp (· % ·)) b a|.Pow=>ak (bS jB (λi j=>i ^ j.toNat)) b a|_=>bu
def TB (op:UnaryOp)(a:FE):FE:=match op with
 |.USub=>qG mj a|_=>bu
def bE (E:Expr->FE)(g:Bool)(op:BoolOp):List Expr->FE
 | []=>bu| [a]=>E a
 |a::b::r=>match op with
  |.And=>jz (E a) (bE E g .And (b::r))|.Or=>if g then wk (E a) (bE E g .Or (b::r))else E3 (E a) (bE E g .Or (b::r))
def TC:CmpOp->D->D->G->Option (D×G)
 |.Lt=>oLt|.LtE=>oLe|.Gt=>wa|.GtE=>Cw|.Eq=>oEq|.NotEq=>bw|.Is=>yT|.IsNot=>uQ|.In=>wA|.NotIn=>si
def sE (E:Expr->FE)(l:Expr):List CmpOp->List Expr->FE
 | [op],[b]=>if isSet b then bu else ak (TC op) (E l) (E b)|_,_=>bu
def pE (E:Expr->FE):Option Expr->FO
 |none=>pW|some e=>eB (E e)
def FL (E:Expr->FE)(v:Expr):Expr->FE
 |.Slice lo hi none _=>js (E v) (pE E lo) (pE E hi)|.Slice lo hi (some st) _=>bu|s=>ak av (E v) (E s)
def AW (m:G0)(P:Pk)(c:Cs)(d:Bool)(E:Expr->FE)(f:Expr)(a:List Expr)(b:Pos):FE:=match f with
 |.Name x _=>if iH x||a.any isStar then bu else if c.sc.names.lookup x=some .globalImplicit then
   (match m.fns.lookup x with
   |some (i,_)=>aq (m.T i) (aE E a)
   |none=>if a.isEmpty || !(m.ja.elem x)then bu else match(if d then P.br else P.bl).find? (λr=>r.nm == x)with
    |some r=>aq r.fn (aE E a)|none=>bu)
  else bu
 |.Attribute o x ap=>if zh o||a.any isStar || !(ap.endLine == b.line) || !(decide (a.length<29))then bu else match P.mt.find? (λr=>r.nm == x)with
  |some r=>eZ r.iA r.m (E o) (aE E a)|none=>bu
 |_=>bu
section
variable {m:G0}{c:Cs}{X:Cx}{E:Expr->FE}
theorem Gd.hu (g:Gd m c X):X.A.units+64<cLine:=g.rm.units
theorem Gd.gl (g:Gd m c X){x:Str}(h:c.sc.names.lookup x=some .globalImplicit):Gl X x:=by show X.env.scope.names.lookup x=_;rw[g.hs];exact h
theorem e_ (a:∀e,DE X e (E e)):∀es:List Expr,DA X es (aE E es)
 | []=>Ca
 |e::es=>by
  unfold aE;split
  . exact sC
  . rename_i h
    exact rV (a e) (e_ a es) (bh (by simpa using h))
theorem C9 {v:Const}{j:Nat}{p:Pos}:DE X (.Constant v j p) (C8 v):=by
 cases v with
 |int i=>exact Mv|str x=>exact Mw|bool b=>exact QG|none=>exact Mx|_=>exact bt
theorem FN (g:Gd m c X){x:Str}{p:Pos}:DE X (.Name x p) (eName m c x):=by
 unfold eName;split
 . exact bt
 rename_i r;obtain⟨a,s,_⟩:=nZ (by simpa using r);split
 . rename_i i b q
   refine My i (by rw[g.hN];exact fP q) ?_ a s;rw[g.hs];unfold u0 at b;split at b
   . rename_i e;exact .inl e
   . rename_i e;exact .inr (.inl e)
   . rename_i e;exact .inr (.inr e)
   . cases b
 . exact bt
 . split
   . rename_i k
     split
     . rename_i d hd
       obtain⟨v,u,l,z,o⟩:=g.cn x d (lookup_mem hd);exact Jj (g.gl k) l z o a
     . split
       . rename_i y j
         obtain⟨i,n⟩:=y;obtain⟨f,fd,ps,_,hm,_⟩:=g.fn x i n (lookup_mem j);exact .of (PE.imp (rP (v:=.ref f) (g.gl k) hm rfl a) λσ H Q h=>by obtain⟨ι,σd,g1,d,g',G0,S0,h,p⟩:=h;cases h;exact p H ι _ Ext.refl G0 (by simp only[Rel];exact⟨f,[],rfl,.inl ⟨rfl,g.lf x i n (lookup_mem j),hm⟩,by simp[ag]⟩))
       . exact bt
   . exact bt
theorem J4 {op:adT}{f h:Bool}{a b:Expr}{p:Pos}{j i:FE}(d:DE X a j)(e:DE X b i):DE X (.BinOp a op b p) (NV op f h j i):=by
 cases op<;>first|exact bt|skip
 . exact jy Nd d e
 . exact jy M0 d e
 . cases h
   . exact jy v9 d e
   . cases f
     . exact jy JP d e
     . exact jy zf d e
 . exact jy M1 d e
 . exact jy M3 d e
 . exact jy Jy d e
theorem NW {op:UnaryOp}{a:Expr}{p:Pos}{b:FE}(d:DE X a b):DE X (.UnaryOp op a p) (TB op b):=by
 cases op with
 |USub=>exact QH M4 d|_=>exact bt
theorem HK (d:∀e,DE X e (E e)){gf:Bool}{op:BoolOp}{p:Pos}:∀es:List Expr,DE X (.BoolOp op es p) (bE E gf op es)
 | []=>bt| [a]=>MH (d a)
 |a::b::r=>by
  have ih:=HK d (gf:=gf) (op:=op) (p:=p) (b::r);cases op<;>cases gf
  . exact B_ (d a) ih
  . exact B_ (d a) ih
  . exact QJ (d a) ih
  . exact Nj (d a) ih
theorem C_ (hu:X.A.units+64<cLine):∀op:CmpOp,bq X (abm op) (dB X.kw (TC op))
 |.Lt=>QP|.LtE=>QQ|.Gt=>QR|.GtE=>QS|.Eq=>QT hu|.NotEq=>Nv hu|.Is=>QW|.IsNot=>JJ|.In=>NB hu|.NotIn=>CP hu
theorem J5 (hu:X.A.units+64<cLine)(a:∀e,DE X e (E e)){l:Expr}{ops:List CmpOp}{rs:List Expr}{p:Pos}:DE X (.Compare l ops rs p) (sE E l ops rs):=by
 unfold sE;split
 . split
   . exact bt
   . rename_i h
     exact MA (C_ hu _) (a _) (a _) (marks (by simpa using h))
 . exact bt
theorem J6 (hu:X.A.units+64<cLine)(a:∀e,DE X e (E e)){l:Expr}{ops:List CmpOp}{rs:List Expr}{p:Pos}:DT X (.Compare l ops rs p) (aH (sE E l ops rs)):=by
 have none_:DT X (.Compare l ops rs p) (aH bu):=.of (λb0 s σ H Q I h=>by obtain⟨_,_,_,_,_,_,_,h,_⟩:=h;cases h);unfold sE;split
 . split
   . exact none_
   . rename_i h
     exact MC (C_ hu _) (a _) (a _) (marks (by simpa using h))
 . exact none_
theorem HL (a:∀e,DE X e (E e)):∀o:Option Expr,DO X o (pE E o)
 |none=>JE|some e=>JF (a e)
theorem J7 (hu:X.A.units+64<cLine)(d:∀e,DE X e (E e)){v s:Expr}{p:Pos}:DE X (.Subscript v s p) (FL E v s):=by
 unfold FL;split
 . exact CI (d _) (HL d _) (HL d _)
 . exact bt
 . rename_i b a
   refine NA hu (d _) (d _) (zi ?_);cases s with
   |Slice lo hi st q =>
    cases st with
    |none=>exact absurd rfl (b _ _ _)|some e=>exact absurd rfl (a _ _ _ _)
   |_=>rfl
theorem FP (P:Pk){H:Bool}(g:Gd m c X)(A:∀e,DE X e (E e)){f:Expr}{B:List Expr}{C:Pos}:DE X (.Call f B [] C) (AW m P c H E f B C):=by
 unfold AW;split
 . rename_i x p
   split
   . exact bt
   rename_i h;simp only[aa4,not_or,acx]at h;obtain⟨l,o2,z⟩:=nZ h.1;have d:=h.2;split
   . rename_i q
     split
     . rename_i i n hf
       obtain⟨fa,fd,ps,ok,hm,y,b,ln⟩:=g.fn x i n (lookup_mem hf);cases B with
       |nil=>exact Fe ok g.rm hm y b ln (g.gl q) l
       |cons e es =>
         rw[abG,abl]at d;exact Jt ok g.rm hm y b ln (e_ A _) (g.gl q) l (bh d.1) (gM d.2)
     . split
       . exact bt
       rename_i s;simp only[aa4,not_or,acx,ae_,aaV]at s;split
       . rename_i r u
         have k:r.nm=x:=by have:=af4 u;exact eq_of_beq this
         have hx:x∈m.ja:=ab9.mp (by simpa using s.2);cases B with
         |nil=>simp at s
         |cons e es =>
          rw[abG,abl]at d;rcases r.ok g.rm g.cm with⟨id,j,a⟩|⟨T,j,a⟩
          . rw[k]at a
            exact Ff j (g.bl x hx) a (e_ A _) (g.gl q) z l (bh d.1) (gM d.2)
          . rw[k]at a
            exact Cg j (g.bl x hx) a (e_ A _) (g.gl q) z l (bh d.1) (gM d.2)
       . exact bt
   . exact bt
 . rename_i o x ap
   split
   . exact bt
   rename_i h;simp only[aa4,not_or,acx,aaV,ae_,decide_eq_false_iff_not,Classical.not_not]at h;obtain⟨⟨⟨j,a⟩,v⟩,h4⟩:=h;split
   . rename_i r u
     have k:r.nm=x:=by have:=af4 u;exact eq_of_beq this
     obtain⟨T,id,R⟩:=r.ok g.rm;rw[k]at R;cases B with
     |nil=>exact JT R (A o) (baseOk j) (by simpa using v)
     |cons e es =>
       rw[abG,abl]at a;refine NC R (A o) (e_ A _) (baseOk j) ?_ (by simpa using v) (bh a.1) (gM a.2);rw[wW (by rw[abG,a.1,a.2];rfl)];have h5:decide ((e::es).length+([]:List aeT).length+(if([]:List aeT).isEmpty then 0 else 1)<30)=true:=by simp at h4 ⊢;omega
       rw[h5];rfl
   . exact bt
 . exact bt
end
noncomputable def wY (c:Cs)(x:Str):Option Nat:=match c.sc.names.lookup x with
 |some .local=>km c.N x|some .cell=>if c.all||c.own.elem x then km c.N x else none|_=>none
def FQ (f:Expr->FG):List Expr->pB
 | []=>g_|e::es=>bR (f e) (FQ f es)
def HM (c:Cs)(E:Expr->FE)(e:Expr):FG:=match nV e with
 |some x=>(match wY c x with|some i=>gN i|none=>qX)
 |none=>match sV e with
  |some q=>if uX q.2 then qX else el (E q.1) (E q.2)|none=>qX
def m8 (c:Cs)(E:Expr->FE):Nat->Expr->FG
 | 0,e=>HM c E e
 |n+1,e=>match tV e with
  |some es=>if es.any isStar then qX else gT es.length (FQ (m8 c E n) es)|none=>HM c E e
section
variable {m:G0}{c:Cs}{X:Cx}{E:Expr->FE}
theorem sF (g:Gd m c X){x:Str}{i:Nat}(h:wY c x=some i):X.N[i]? = some x/\Loc X.env.scope x/\(X.fn x=true\/X.env.scope.names.lookup x=some .local):=by
 unfold wY at h;rw[g.hN,g.hs];split at h
 . rename_i e;exact⟨fP h,.inl e,.inr e⟩
 . rename_i e
   split at h
   . rename_i a
     rw[aa4]at a;exact⟨fP h,.inr e,.inl (a.elim (λa=>g.al a x) λa=>g.ow x (ab9.mp a))⟩
   . cases h
 . cases h
theorem Gd.t8 (g:Gd m c X):X.N.Nodup:=by rw[g.hN];exact g.nd
theorem qc {e:Expr}{es:List Expr}{env:Env}(h:isStar e=false):ab7 (e::es) env=(false,adG e env)::ab7 es env:=by cases e<;>first|rfl|cases h
theorem zm {es:List Expr}{env:Env}(h:es.any isStar=false):(ab7 es env).length=es.length/\(ab7 es env).findIdx? (·.1)=none:=by
 induction es with
 |nil=>exact⟨rfl,rfl⟩
 |cons e es ih =>
  rw[abG,abl]at h;obtain⟨a,b⟩:=ih h.2;rw[qc h.1];exact⟨by simp[a],by rw[List.findIdx?_cons,b];rfl⟩
theorem J8 {o i:Expr}{a:Pos}{env:Env}(h:uX i=false):∀v,adG (.Subscript o i a) env v=(do
  let ov <- ac1 [v] (eval o env);let iv <- ac1 [v,ov] (eval i env)
  age a
  ac1 [v,ov,iv] (ag7 ov iv v)
  release [v,ov,iv] []):=by
 intro v;cases i<;>first|rfl|cases h
theorem Dd (g:Gd m c X)(k:∀e,DE X e (E e))(e:Expr):DG X e (HM c E e):=by
 unfold HM;split
 . rename_i x f
   obtain⟨p,rfl⟩:=mF f;split
   . rename_i i h;obtain⟨a,b,d⟩:=sF g h;exact Jp g.t8 a b d
   . exact oO
 . split
   . rename_i q j
     obtain⟨p,rfl⟩:=AS j;split
     . exact oO
     . rename_i h;exact JS g.hu (k _) (k _) (J8 (by simpa using h))
   . exact oO
theorem lN (g:Gd m c X)(i:∀e,DE X e (E e)):∀(n:Nat) (e:Expr),DG X e (m8 c E n e):=by
 intro n;induction n with
 |zero=>exact Dd g i
 |succ n ih =>
  intro e;show DG X e (match tV e with|some a=>_|none=>_);split
  . rename_i a he
    obtain⟨kt,f,rfl⟩:=AU he;split
    . exact oO
    . rename_i b
      have b:a.any isStar=false:=by simpa using b
      have d:∀a:List Expr,a.any isStar=false->Cd X a (FQ (m8 c E n) a):=λa=>by
       induction a with
       |nil=>exact λ_=>Jq
       |cons e a B5 =>
        intro h;rw[abG,abl]at h;exact Fb (ih e) (B5 h.2) (by rw[qc h.1];rfl)
      have d:=d a b;exact MN g.cm d (zm b).1 (zm b).2
  . exact Dd g i e
end
def De (m:G0)(P:Pk)(c:Cs)(E:Expr->FE)(tg:Expr)(a:Expr):FI:=match cV a with
 |some (x,as)=>if c.sc.names.lookup x=some .globalImplicit then(match P.it.find? (λr=>r.nm == x)with
  |some r=>if m.ja.elem x && !(as.any isStar)&&(!r.tup||lM tg)then r.f E as else qW|none=>dy (E a))else dy (E a)
 |none=>dy (E a)
theorem n0 {m:G0}{c:Cs}{X:Cx}{E:Expr->FE}(P:Pk)(g:Gd m c X)(n:∀e,DE X e (E e)){tg o:Expr}:DI X tg o (De m P c E tg o):=by
 unfold De;split
 . rename_i x as l
   obtain⟨p,pos,rfl⟩:=uY l;split
   . rename_i b
     split
     . rename_i r k
       have d:r.nm=x:=by have:=af4 k;exact eq_of_beq this
       split
       . rename_i h
         simp only[aae,aa4,aaV,beq_iff_eq]at h;obtain⟨⟨f,j⟩,a⟩:=h;have i:x∈m.ja:=ab9.mp f;subst d;exact r.ok g.rm g.cm (g.bl _ i) (g.gl b) n j (λz=>by rcases a with a|a;(rw[z]at a;cases a);exact a)
       . exact sD
     . exact wb (n _)
   . exact wb (n _)
 . exact wb (n _)
noncomputable def wZ (e:Expr):Bool:=adg e.ctorIdx 21||adg e.ctorIdx 23
theorem w6 {e:Expr}(h:wZ e=true):isStar e=false:=by cases e<;>first|rfl|cases h
theorem FR {e:Expr}(h:lM e=true):∃es k p,e = .Tuple es k p:=by
 cases e with
 |Tuple es k p=>exact⟨_,_,_,rfl⟩|_=>cases h
def FU (m:G0)(c:Cs)(tg a:Expr):Option (Expr×Expr):=(cV a).bind λq=>(two q.2).bind λr=>if q.1 == "zip" && lM tg&&wZ r.1&&wZ r.2&&decide (c.sc.names.lookup q.1=some .globalImplicit)&&m.ja.elem q.1 then some r else none
theorem J9 {m:G0}{c:Cs}{X:Cx}{E:Expr->FE}(g:Gd m c X)(v:∀e,DE X e (E e)){tg y a b:Expr}(h:FU m c tg y=some (a,b)):NJ X tg y (kQ (E a) (E b)):=by
 obtain⟨⟨x,as⟩,j,i⟩:=bind_some h;obtain⟨⟨r,s⟩,h0,d⟩:=bind_some i;obtain⟨p,pos,rfl⟩:=uY j;obtain rfl:=q_ h0;dsimp only at d;split at d
 . rename_i f
   simp only[aae,beq_iff_eq,decide_eq_true_eq]at f;obtain⟨⟨⟨⟨⟨rfl,q⟩,l⟩,n⟩,o⟩,k⟩:=f;cases d;obtain⟨elts,kt,u,rfl⟩:=FR q;have na:=w6 l;have nb:=w6 n;exact JW (g.gl o) (g.bl _ (ab9.mp k)) (v a) (v b) (bh na) (bh nb) (gM (by simp[nb]))
 . cases d
noncomputable def NX (sc:Scope)(S:Scope):Scope:={ sc with names:=sc.names.map λ(n,k)=>if(k == .free&&S.kind == .function&&S.names.lookup n == some .cell)then(n,.cell)else(n,k) }
noncomputable def t9:List Str->Bool
 | []=>true|x::r=>!(r.elem x)&&t9 r
theorem n_:∀{l:List Str},t9 l=true->l.Nodup
 | [],_=>acM|x::r,h=>by simp only[t9,aae,aaV]at h;exact aaS.mpr (And.intro (λz=>(by rw[ab9.mpr z]at h;exact absurd h.1 (by simp))) (n_ h.2))
noncomputable def k_ (sc:Scope):List Str:=(sc.names.filter λy=>y.2 == .local||y.2 == .cell).map (·.1)
noncomputable def Q8 (sc:Scope):List Str:=(sc.names.filter λy=>y.2 == .cell).map (·.1)
noncomputable def iU (sc:Scope):List Str:=(sc.names.filter λy=>y.2 == .free).map (·.1)
def fQ (c:Cs)(sc:Scope):Cs:=⟨k_ sc++iU sc,NX sc c.sc,false,c.mt,Q8 sc,none⟩
def w8 (c:Cs)(sc:Scope):List (Option Nat):=(k_ sc).map (λ_=>none)++(iU sc).map (λx=>km c.N x)
def AX (c:Cs)(sc:Scope):Bool:=rY c.sc c.N (k_ sc++iU sc) (w8 c sc) sc&&t9 (k_ sc++iU sc)
def Df (T:Expr->FT):List Expr->FT
 | []=>dZ| [t]=>T t|_=>kj
noncomputable def NY (c:Cs):Expr->Bool
 |.Name x _=>c.mt.elem x|_=>false
def u3 (m:G0)(P:Pk)(c:Cs)(a:Bool)(E:Cs->Expr->FE)(T:Cs->Expr->FT)(elt:Expr)(gs:List acS)(sc:Scope):FE:=match gV gs with
 |some (tg,it,ifs)=>if AX c sc && !(isSet it)then
  (if NY c it then lI (if a then jj else cg) (Fv (E c it)) (w8 c sc) (m8 (fQ c sc) (E (fQ c sc)) 3 tg) (Df (T (fQ c sc)) ifs) (E (fQ c sc) elt)
  else cH (if a then jj else cg) (De m P c (E c) tg it) (w8 c sc) (m8 (fQ c sc) (E (fQ c sc)) 3 tg) (Df (T (fQ c sc)) ifs) (E (fQ c sc) elt))else bu
 |none=>bu
section
variable {m:G0}{c:Cs}{X:Cx}
theorem Gd.comp (g:Gd m c X){sc:Scope}(h:t9 (k_ sc++iU sc)=true){C:Addr}{s3:aac}{H:Hp}{fp:List Addr}{b0:List (Addr×Obj)}:Gd m (fQ c sc) (ba X (k_ sc++iU sc) sc C s3 H fp b0) where
 hN:=rfl
 hs:=by show afC sc X.env=NX sc c.sc;rw[<- g.hs];rfl
 nd:=n_ h
 xe:=rfl
 cm:=g.cm
 rm:=g.rm
 al:=λz=>by cases z
 ow:=λx o=>by
  show(sc.names.any λy=>y.1 == x&&y.2 == .cell)=true
  obtain⟨y,j,e⟩:=aaQ.mp (show x∈(sc.names.filter λy=>y.2 == .cell).map (·.1) from o)
  rw[abM]at j;rw[afM];exact⟨y,j.1,by rw[e,j.2];simp⟩
 fn:=λx i n hm=>by obtain⟨f,fd,k,a,b,d,e,l⟩:=g.fn x i n hm;exact⟨f,fd,k,a,b,d,e,l⟩
 bl:=g.bl
 cn:=g.cn
 dc:=g.dc
 lf:=g.lf
 ll:=g.ll
 lh:=λ_ _ _ h=>nomatch h
theorem NZ {T:Expr->FT}(a:∀e,DT X e (T e)):∀ifs:List Expr,gF X ifs (Df T ifs)
 | []=>Fh| [t]=>Fi (a t)|_::_::_=>.of (λb0 s σ H Q I h=>by obtain⟨_,_,_,_,_,_,_,h,_⟩:=h;cases h)
theorem zo (g:Gd m c X){E:Cs->Expr->FE}{T:Cs->Expr->FT}(b:∀c X,Gd m c X->∀e,DE X e (E c e))(d:∀c X,Gd m c X->∀e,DT X e (T c e)){sc:Scope}(h:AX c sc=true){tg elt:Expr}{ifs:List Expr}:
  eM X (k_ sc++iU sc) (w8 c sc) sc /\ ∀C s3 H fp b0,DG (ba X (k_ sc++iU sc) sc C s3 H fp b0) tg (m8 (fQ c sc) (E (fQ c sc)) 3 tg) /\
   gF (ba X (k_ sc++iU sc) sc C s3 H fp b0) ifs (Df (T (fQ c sc)) ifs)/\DE (ba X (k_ sc++iU sc) sc C s3 H fp b0) elt (E (fQ c sc) elt):=by
 simp only[AX,aae]at h;refine⟨Cy g.hs g.hN h.1,λC s3 H fp b0=>?_⟩;have a:=g.comp h.2 (C:=C) (s3:=s3) (H:=H) (fp:=fp) (b0:=b0);exact⟨lN a (b _ _ a) 3 tg,NZ (d _ _ a) ifs,b _ _ a elt⟩
theorem Dg {X:Cx}{tg iter elt:Expr}{ifs:List Expr}{scope:Scope}{a:Pos}{N:List Str}{fr:List (Option Nat)}{d:pF}{t:FG}{c:FT}{e:FE}(h:X.xe=λ_ _=>False)(f:X.calm=true)(ok:eM X N fr scope)(b:Hw X tg iter d)(j:∀C s3 H fp b0,DG (ba X N scope C s3 H fp b0) tg t/\gF (ba X N scope C s3 H fp b0) ifs c/\DE (ba X N scope C s3 H fp b0) elt e)
  (i:∀x,aa7 iter X.env x=pure x):DE X (.ListComp elt [⟨tg,iter,ifs,0⟩] scope a) (lI jj d fr t c e):=by
 rw[wx];exact tU h f ok (yX b) j i
theorem w9 (P:Pk)(g:Gd m c X){f:Bool}{E:Cs->Expr->FE}{T:Cs->Expr->FT}(d:∀c X,Gd m c X->∀e,DE X e (E c e))(i:∀c X,Gd m c X->∀e,DT X e (T c e)){elt:Expr}{gs:List acS}{sc:Scope}{p:Pos}:
   DE X (.ListComp elt gs sc p) (u3 m P c f E T elt gs sc):=by
 unfold u3;split
 . rename_i tg it ifs b
   obtain rfl:=HJ b;split
   . rename_i h
     simp only[aae,aaV]at h;obtain⟨ok,a⟩:=zo g d i h.1 (tg:=tg) (elt:=elt) (ifs:=ifs);split
     . cases f
       . exact Fw g.xe g.cm ok (yW (d c X g it)) a (kR h.2)
       . exact Dg g.xe g.cm ok (yW (d c X g it)) a (kR h.2)
     . cases f
       . exact Ju g.xe g.cm ok (n0 P g (d c X g)) a (kR h.2)
       . exact Fx g.xe g.cm ok (n0 P g (d c X g)) a (kR h.2)
   . exact bt
 . exact bt
end
def tB (T:Expr->FT)(op:BoolOp):List Expr->FT
 | []=>kj| [a]=>T a
 |a::b::r=>match op with
  |.And=>jZ (T a) (tB T .And (b::r))|.Or=>B9 (T a) (tB T .Or (b::r))
noncomputable def xE (P:Pk)(m:G0)(c:Cs)(E:Expr->FE)(a:Bool)(e:Expr):Option FE:=P.xr.findSome? λr=>r.e m c E a e
noncomputable def xT (P:Pk)(m:G0)(c:Cs)(E:Expr->FE)(e:Expr):Option FT:=P.xr.findSome? λr=>r.t m c E e
def Q9 (m:G0)(P:Pk)(E:Cs->Bool->Expr->FE)(T:Cs->Expr->FT)(c:Cs)(d:Bool):Expr->FE
 |.Constant v _ _=>C8 v|.Name x _=>eName m c x|.BinOp a op b _=>NV op d (Q6 a) (E c false a) (E c false b)|.UnaryOp op a _=>TB op (E c false a)|.BoolOp op vs _=>bE (E c false) (vs.dropLast.any Q7) op vs|.IfExp t a b _=>An (T c t) (E c d a) (E c d b)|.Compare l ops rs _=>sE (E c false) l ops rs|.Tuple es _ _=>aM aI (aE (E c false) es)|.List es _=>aM (if d then mkRef else bQ) (aE (E c false) es)|.Dict ks vs _=>if ks.isEmpty&&vs.isEmpty then(if d then oJ else fC .dn)else bu|.Subscript v s _=>FL (E c false) v s|.Call f as ks pos=>if ks.isEmpty then AW m P c d (E c false) f as pos else bu|.ListComp elt gs sc _=>u3 m P c d (λc e=>E c false e) T elt gs sc|_=>bu
def Q_ (m:G0)(P:Pk)(E:Cs->Bool->Expr->FE)(T:Cs->Expr->FT)(c:Cs):Expr->FT
 |.Compare l ops rs _=>aH (sE (E c false) l ops rs)|.UnaryOp op a q=>match op with|.Not=>Al (T c a)|op=>if mE (.UnaryOp op a q)then nE (E c false (.UnaryOp op a q))else kj
 |.BoolOp op vs _=>tB (T c) op vs|e=>if mE e then nE (E c false e)else kj
def AY (m:G0)(P:Pk)(E:Cs->Bool->Expr->FE)(T:Cs->Expr->FT)(c:Cs)(a:Bool)(e:Expr):FE:=match xE P m c (E c false) a e with
 |some f=>f|none=>Q9 m P E T c a e
def stepT (m:G0)(P:Pk)(E:Cs->Bool->Expr->FE)(T:Cs->Expr->FT)(c:Cs)(e:Expr):FT:=match xT P m c (E c false) e with
 |some f=>f|none=>Q_ m P E T c e
def iv (m:G0)(P:Pk):Nat->(Cs->Bool->Expr->FE)×(Cs->Expr->FT)
 | 0=>(λ_ _ _=>bu,λ_ _=>kj)|n+1=>(AY m P (iv m P n).1 (iv m P n).2,stepT m P (iv m P n).1 (iv m P n).2)
section
variable {m:G0}{X:Cx}
theorem ko {i j:Type}{f:i->Option j}:∀{l:List i} {b:j},l.findSome? f=some b->∃a∈l,f a=some b
 | [],_,h=>by cases h
 |a::l,b,h=>by
  rw[List.findSome?_cons]at h;cases ha:f a with
  |none=>rw[ha]at h;obtain⟨x,d,e⟩:=ko h;exact⟨x,aau _ d,e⟩
  |some c=>rw[ha]at h;cases h;exact⟨a,aaC,ha⟩
theorem Ra {T:Expr->FT}(c:∀e,DT X e (T e)){op:BoolOp}{p:Pos}:∀es:List Expr,DT X (.BoolOp op es p) (tB T op es):=by
 have w:∀es:List Expr,es ≠ []->DW X (.BoolOp op es p) (tB T op es):=λes=>by
  induction es with
  |nil=>intro h;exact absurd rfl h
  |cons a r ih =>
   intro _;cases r with
   |nil=>cases op;exact Jk (c a);exact ME (c a)
   |cons b r =>
    have:=ih (by simp);cases op
    . exact MF (c a) this
    . exact QI (c a) this
 intro es;cases es with
 |nil=>exact sA|cons a r=>exact(w (a::r) (by simp)).dt
theorem AZ (m:G0)(P:Pk):∀n:Nat,(∀c X,Gd m c X->∀rf e,DE X e ((iv m P n).1 c rf e))/\(∀c X,Gd m c X->∀e,DT X e ((iv m P n).2 c e))
 | 0=>⟨λ_ _ _ _ _=>bt,λ_ _ _ _=>sA⟩
 |n+1=>by
  obtain⟨d,i⟩:=AZ m P n;refine⟨λc X g rf e=>?_,λc X g e=>?_⟩
  . show DE X e (AY m P (iv m P n).1 (iv m P n).2 c rf e)
    unfold AY;split
    . rename_i f hf
      obtain⟨r,_,h⟩:=ko hf;exact r.t7 g (d c X g false) h
    have b:=d c X g false;cases e with
    |Constant=>exact C9|Name=>exact FN g|BinOp=>exact J4 (b _) (b _)|UnaryOp=>exact NW (b _)|BoolOp=>exact HK b _|IfExp=>exact MI (i c X g _) (d c X g rf _) (d c X g rf _)|Compare=>exact J5 g.hu b|Tuple=>exact Cb (e_ b _)
    |List=>cases rf with
      |false=>exact Cc (e_ b _)|true=>exact vK (e_ b _)
    |Dict ks vs _=>cases ks with
      |cons=>exact bt
      |nil=>cases vs with
        |cons=>exact bt
        |nil=>cases rf with
         |false=>exact Fo|true=>exact JU
    |Subscript=>exact J7 g.hu b
    |Call f as ks pos=>cases ks with
      |nil=>exact FP P g b|cons=>exact bt
    |ListComp=>exact w9 P g (λc X g e=>d c X g false e) i|_=>exact bt
  . show DT X e (stepT m P (iv m P n).1 (iv m P n).2 c e)
    unfold stepT;split
    . rename_i f hf
      obtain⟨r,_,h⟩:=ko hf;exact r.tok g (d c X g false) h
    have j:∀e,DT X e (if mE e then nE ((iv m P n).1 c false e)else kj):=λe=>by
      split
      . rename_i h;exact MD (d c X g false _) (plainT h)
      . exact sA
    cases e with
    |Compare=>exact J6 g.hu (d c X g false)
    |UnaryOp op a q=>cases op with
      |Not=>exact MG (i c X g _)|_=>exact j _
    |BoolOp=>exact Ra (i c X g) _|_=>exact j _
end
def HN (f:Stmt->FS):List Stmt->FS
 | []=>bb| [s]=>f s|s::t::r=>ay (f s) (HN f (t::r))
noncomputable def A0 (S:Scope):Bool:=(if S.kind.isAnnotationScope then afa else S.kind)== .function
def A1 (S:Scope)(x:Str)(px p:Pos)(sc:Scope):Bool:=A0 S&&S.names.lookup x == some .local&&px.line == p.line && !(sc.names.any λ(n,k)=>n == x&&(k == .local||k == .cell))
noncomputable def kV:Expr->Option Str
 |.Constant v _ _=>match v with|.str k=>some k|_=>none
 |_=>none
noncomputable def Dh (a:List Str):Expr->Bool
 |e=>((nV e).map λx=>a.elem x).getD (((sV e).bind λq=>(kV q.2).map λk=>a.elem (aaD "=" ++ k)).getD false)
def aZ (E:Bool->Expr->FE)(a:List Str):List Expr->List Expr->FA
 |_,[]=>aj| [],v::vs=>if isStar v then qV else af (E false v) (aZ E a [] vs)|t::ts,v::vs=>if isStar v then qV else af (E (Dh a t) v) (aZ E a ts vs)
def HP (m:G0)(P:Pk)(c:Cs)(a:Bool)(E:Cs->Expr->FE)(T:Cs->Expr->FT)(elt:Expr)(gs:List acS)(sc:Scope):FE:=match gV gs with
 |some (tg,it,ifs)=>if AX c sc && !(isSet it)then
  (cH (if a then jj else cg) (De m P c (E c) tg it) (w8 c sc) (m8 (fQ c sc) (E (fQ c sc)) 3 tg) (Df (T (fQ c sc)) ifs) (E (fQ c sc) elt))else bu
 |none=>bu
noncomputable def rg (S:Scope)(a:List Expr):List Str:=a.filterMap fun
 |.Name id pos=>if S.names.lookup id == some .local&&pos.line == (a.head?.map (·.pos.line)).getD 0 then some id else none|_=>none
def N0 (S:Scope)(a vs:List Expr):Option Bool :=
 if !(a.length == 2||a.length == 3)||vs.length != a.length || !(A0 S)then some false
 else if(rg S a).length != a.length||(rg S a).eraseDups.length != (rg S a).length then some false
 else if vs.all (foldedForSure 8)then some false
 else if vs.all (constantsAlone 8)then none
 else some true
noncomputable def w_ (c:Cs)(x:Str):Bool:=c.sc.names.lookup x == some .local
noncomputable def TH:Expr->Option (Expr×List acS×Scope×Pos)
 |.ListComp elt gs sc p=>some (elt,gs,sc,p)|_=>none
theorem N1 {e elt:Expr}{gs:List acS}{sc:Scope}{p:Pos}(h:TH e=some (elt,gs,sc,p)):e = .ListComp elt gs sc p:=by
 cases e with
 |ListComp=>cases h;rfl|_=>exact nn h
def FV (m:G0)(P:Pk)(E:Cs->Bool->Expr->FE)(T:Cs->Expr->FT)(c:Cs)(tg v:Expr):FS:=match zj tg with
 |some (x,px)=>(match wY c x with
  |some i=>(match TH v with
   |some (elt,gs,sc,p)=>aD (if A1 c.sc x px p sc then HP m P c (c.mt.elem x) (λc e=>E c false e) T elt gs sc else u3 m P c (c.mt.elem x) (λc e=>E c false e) T elt gs sc) (gN i)|none=>if nY v then b_ else aD (E c (c.mt.elem x) v) (gN i))
  |none=>b_)
 |none=>match sV tg with
  |some _=>aD (E c (Dh c.mt tg) v) (m8 c (E c false) 3 tg)
  |none=>match tV v with
   |some vs=>(match tV tg with
    |some ts=>if vs.any isStar then b_ else(match N0 c.sc ts vs with
     |some r=>if r then(match two ts,two vs with
      |some xy,some _=>(match nV xy.1,nV xy.2 with
       |some x,some y=>(match km c.N x,km c.N y with|some i,some j=>if rg c.sc ts == [x,y]&&w_ c x&&w_ c y && !(i == j)then pY i j (aZ (E c) c.mt ts vs)else b_|_,_=>b_)
       |_,_=>b_)
      |_,_=>b_)else aD (aM aI (aZ (E c) c.mt ts vs)) (m8 c (E c false) 3 tg)
     |none=>b_)
    |none=>b_)
   |none=>if nY v||lM v||isStar tg then b_ else aD (E c false v) (m8 c (E c false) 3 tg)
noncomputable def FW (c:Cs)(E:Expr->FE)(tg:Expr)(op:adT)(v:Expr):FS:=match(nV tg).bind λx=>wY c x with
 |some i=>(match op with|.Add=>pZ i (λi j=>i+j) (E v)|.Sub=>pZ i (λi j=>i-j) (E v)|_=>b_)
 |none=>b_
def N2 (m:G0)(P:Pk)(W:Nat)(d:Bool)(E:Cs->Bool->Expr->FE)(T:Cs->Expr->FT)(B:List Stmt->FS)(c:Cs):Stmt->FS
 |.Return v _=>(match v with|some e=>aO (E c d e)|none=>b_)
 |.If t a b _=>cy (T c t) (B a) (B b)|.Assign N3 v _=>(match N3 with|tg::r=>if r.isEmpty then FV m P E T c tg v else b_| []=>b_)
 |.AugAssign tg op v _=>FW c (E c false) tg op v|.For tg it body zq _=>if isSet it || !zq.isEmpty then b_ else(match FU m c tg it with|some q=>oM (kQ (E c false q.1) (E c false q.2)) (m8 c (E c false) 3 tg) (B body)|none=>dw (De m P c (E c false) tg it) (m8 c (E c false) 3 tg) (B body))
 |.While t body [] _=>yJ W (T c t) (B body)|.Pass _=>bb|.Expr e _=>if(kV e).isSome then bb else if nY e then b_ else eI (E c false e)|_=>b_
def sS (m:G0)(P:Pk)(W:Nat)(a:Bool)(E:Cs->Bool->Expr->FE)(T:Cs->Expr->FT)(c:Cs):Nat->Stmt->FS
 | 0,_=>b_|n+1,s=>N2 m P W a E T (HN (sS m P W a E T c n)) c s
def body (m:G0)(P:Pk)(W:Nat)(b:Bool)(c:Cs)(a:List Stmt):FS:=HN (sS m P W b (iv m P 30).1 (iv m P 30).2 c 12) a
section
variable {m:G0}{c:Cs}{X:Cx}
theorem xa {f:Stmt->FS}(h:∀s,DS X s (f s)):∀pA:List Stmt,kI X pA (HN f pA)
 | []=>Jl| [s]=>Jm (h s)|s::t::r=>E_ (h s) (xa h (t::r))
theorem u5 {E:Bool->Expr->FE}{b:List Str}(a:∀rf e,DE X e (E rf e)):∀(ts vs:List Expr),DA X vs (aZ E b ts vs)
 |_,[]=>by cases ‹List Expr›<;>exact Ca
 | [],v::vs=>by
  unfold aZ;split
  . exact sC
  . rename_i h;exact rV (a _ v) (u5 a [] vs) (bh (by simpa using h))
 |t::ts,v::vs=>by
  unfold aZ;split
  . exact sC
  . rename_i h;exact rV (a _ v) (u5 a ts vs) (bh (by simpa using h))
theorem zr (g:Gd m c X){elt:Expr}{gs:List acS}{sc:Scope}{p px:Pos}{x:Str}{l:Nat}:adz (.ListComp elt gs sc p) (some (.Name x px)) l X.env=pure (A1 c.sc x px p sc):=by rw[<- g.hs];rfl
theorem ZK {k vs:List Expr}{kt k2:Nat}{pt pt2:Pos}{r:Bool}(g:Gd m c X)(l:vs.any isStar=false)(h:N0 c.sc k vs=some r):adf [.Tuple k kt pt] (.Tuple vs k2 pt2) X.env=pure (if r then some (rg c.sc k)else none):=by
 have f:(vs.any fun|.Starred ..=>true|_=>false)=false:=by
   have:(λ(e:Expr)=>match e with|.Starred ..=>true|_=>false)=isStar:=by funext e;cases e<;>rfl
   rw[this];exact l
 have j:(X.env.blockKind != afa)= !(A0 c.sc):=by rw[<- g.hs];rfl
 unfold N0 at h;show(if(!(k.length == 2||k.length == 3)||vs.length != k.length||X.env.blockKind != afa)=true then pure none else if(vs.any fun|.Starred ..=>true|_=>false)=true then pure none else
   if((rg X.env.scope k).length != k.length||(rg X.env.scope k).eraseDups.length != (rg X.env.scope k).length)=true then pure none else if vs.all (foldedForSure 8)=true then pure none else if vs.all (constantsAlone 8)=true then _ else pure (some (rg X.env.scope k)))=_
 rw[j,f,g.hs];split at h
 . rename_i b;cases h;rw[if_pos b];rfl
 rename_i b;rw[if_neg b,if_neg (by simp)];split at h
 . rename_i d;cases h;rw[if_pos d];rfl
 rename_i d;rw[if_neg d];split at h
 . rename_i a;cases h;rw[if_pos a];rfl
 rename_i a;rw[if_neg a];split at h
 . cases h
 rename_i i;cases h;rw[if_neg i];rfl
theorem HQ {s:Stmt}{tg:FG}{X:Cx}:DS X s (aD bu tg):=.of (λb0 s σ H Q I h=>by obtain⟨_,_,_,_,_,_,_,_,h,_⟩:=h;cases h)
theorem V3 {tg v:Expr}{env:Env}(h:lM v=false):adf [tg] v env=pure none:=by
 cases tg with
 |Tuple es kt p=>cases v<;>first|rfl|cases h
 |List es p=>cases v<;>first|rfl|cases h
 |_=>rfl
theorem zt {tg:Expr}{env:Env}(h:isStar tg=false):(ab7 [tg] env).map (·.2)= [adG tg env]:=by rw[qc h];rfl
theorem FX {o i v:Expr}{q:Pos}{l:Nat}{env:Env}:adH [.Subscript o i q] v l env=pure false:=by cases v<;>rfl
theorem N4 {o i v:Expr}{q:Pos}{env:Env}:adf [.Subscript o i q] v env=pure none:=by cases v<;>rfl
theorem J_ (P:Pk)(g:Gd m c X){E:Cs->Bool->Expr->FE}{T:Cs->Expr->FT}(A:∀c X,Gd m c X->∀rf e,DE X e (E c rf e))(B:∀c X,Gd m c X->∀e,DT X e (T c e)){tg v:Expr}{p:Pos}:DS X (.Assign [tg] v p) (FV m P E T c tg v):=by
 have TJ:∀{x:Str},w_ c x=true->X.env.scope.names.lookup x=some .local:=fun {x} h=>by rw[g.hs];exact eq_of_beq h
 unfold FV;split
 . rename_i x px s
   obtain rfl:=qY s;split
   . rename_i i o
     obtain⟨a,b,d⟩:=sF g o;split
     . rename_i elt gs sc q f
       obtain rfl:=N1 f;split
       . rename_i n
         unfold HP;split
         . rename_i tg it ifs hg
           obtain rfl:=HJ hg;split
           . rename_i h
             simp only[aae,aaV]at h;obtain⟨ok,z⟩:=zo g (λc X g e=>A c X g false e) B h.1 (tg:=tg) (elt:=elt) (ifs:=ifs);have hs:=(zr g (elt:=elt) (gs:=[⟨tg,it,ifs,0⟩]) (sc:=sc) (p:=q) (px:=px) (x:=x) (l:=p.line)).trans (by rw[n]);cases c.mt.elem x
             . exact Au g.xe g.cm ok (n0 P g (A c X g false)) z g.t8 a b hs (kR h.2) d
             . exact yg g.xe g.cm ok (n0 P g (A c X g false)) z g.t8 a b hs (kR h.2) d
           . exact HQ
         . exact HQ
       . rename_i n
         exact Ce g.t8 a b (w9 P g (λc X g e=>A c X g false e) B) ((zr g).trans (by rw[show A1 c.sc x px q sc=false by simpa using n])) d
     . split
       . exact bV
       . rename_i h
         exact Ce g.t8 a b (A c X g _ _) (wV (by simpa using h)) d
   . exact bV
 . split
   . rename_i q hq
     obtain⟨_,rfl⟩:=AS hq;exact vL (A c X g _ _) (lN g (A c X g false) 3 _) FX N4 (zt rfl)
   . split
     . rename_i k f
       obtain⟨k2,pt2,rfl⟩:=AU f;split
       . rename_i ts ht
         obtain⟨kt,pt,rfl⟩:=AU ht;split
         . exact bV
         rename_i f;have f:k.any isStar=false:=by simpa using f
         have u:∀l,adH [.Tuple ts kt pt] (.Tuple k k2 pt2) l X.env=pure false:=λ_=>rfl;split
         . rename_i r hp
           have sw:=ZK (kt:=kt) (k2:=k2) (pt:=pt) (pt2:=pt2) g f hp;cases r with
           |false=>exact vL (Cb (u5 (A c X g) ts k)) (lN g (A c X g false) 3 _) (u _) sw rfl
           |true =>
             rw[if_pos rfl];split
             . rename_i xy ab ZM Cr
               split
               . rename_i x y s hy
                 split
                 . rename_i i j o hj
                   split
                   . rename_i h
                     simp only[aae,aaV,beq_iff_eq]at h;obtain⟨⟨⟨h1,h2⟩,h3⟩,h4⟩:=h;obtain⟨ex,ey⟩:=xy;obtain⟨a,b⟩:=ab;obtain rfl:=q_ ZM;obtain rfl:=q_ Cr;obtain⟨px,rfl⟩:=mF s;obtain⟨py,rfl⟩:=mF hy;exact Nm g.cm g.t8 (by rw[g.hN];exact fP o) (by rw[g.hN];exact fP hj) (by simpa using h4) (TJ h2) (TJ h3) (u5 (A c X g) _ _) (sw.trans (by rw[if_pos rfl,h1])) (u _)
                   . exact bV
                 . exact bV
               . exact bV
             . exact bV
         . exact bV
       . exact bV
     . split
       . exact bV
       rename_i h;simp only[aa4,not_or,acx]at h;exact vL (A c X g false _) (lN g (A c X g false) 3 _) (wV h.1.1) (V3 h.1.2) (zt h.2)
theorem Ka (g:Gd m c X){E:Expr->FE}(l:∀e,DE X e (E e)){tg v:Expr}{op:adT}{p:Pos}:DS X (.AugAssign tg op v p) (FW c E tg op v):=by
 unfold FW;split
 . rename_i i h
   obtain⟨x,j,f⟩:=bind_some h;obtain⟨k,rfl⟩:=mF j;obtain⟨a,b,d⟩:=sF g f;cases op with
   |Add=>exact CG g.t8 a b Ly (l _) d|Sub=>exact CG g.t8 a b Lz (l _) d|_=>exact bV
 . exact bV
theorem N6 {e:Expr}(h:(kV e).isSome=true):∃s k p,e = .Constant (.str s) k p:=by
 cases e with
 |Constant v k p=>cases v with
  |str s=>exact⟨s,k,p,rfl⟩|_=>cases h
 |_=>cases h
theorem Kb (P:Pk){W:Nat}{l:Bool}(g:Gd m c X){E:Cs->Bool->Expr->FE}{T:Cs->Expr->FT}(f:∀c X,Gd m c X->∀rf e,DE X e (E c rf e))(j:∀c X,Gd m c X->∀e,DT X e (T c e)){B:List Stmt->FS}(i:∀b,kI X b (B b))(s:Stmt):
  DS X s (N2 m P W l E T B c s):=by
 have a:aes (model X.prog X.w) X.A X.env X.xe:=by rw[g.xe];exact PassesOwn.never
 cases s with
 |Return v p=>cases v with
  |some e=>exact MJ (f c X g _ _)|none=>exact bV
 |If=>exact QK (j c X g _) (i _) (i _)
 |Assign N3 v p=>cases N3 with
  |nil=>exact bV
  |cons tg r=>cases r with
    |nil=>exact J_ P g f j|cons=>exact bV
 |AugAssign=>exact Ka g (f c X g false)
 |For tg it body zq p =>
  show DS X _ (if isSet it || !zq.isEmpty then b_ else(match FU m c tg it with|some q=>_|none=>_));split
  . exact bV
  . rename_i h
    simp only[aa4,not_or,acx,ae_]at h;cases zq with
    |cons=>cases h.2
    |nil =>
      split
      . rename_i q d
        exact JV a g.cm (J9 g (f c X g false) d) (lN g (f c X g false) 3 _) (i _) (kR h.1)
      . exact MZ a g.cm (n0 P g (f c X g false)) (lN g (f c X g false) 3 _) (i _) (kR h.1)
 |While t body zq p=>cases zq with
  |nil=>exact Fd W a (j c X g _) (i _)|cons=>exact bV
 |Pass=>exact Jn
 |Expr e p =>
  show DS X _ (if(kV e).isSome then bb else if nY e then b_ else eI (E c false e));split
  . rename_i h
    obtain⟨s,k,q,rfl⟩:=N6 h;exact MK
  . split
    . exact bV
    . rename_i h;exact Jo (f c X g false _) (wV (by simpa using h))
 |_=>exact bV
theorem Kc (P:Pk){W:Nat}{e:Bool}(g:Gd m c X)(d:List Stmt):kI X d (body m P W e c d):=by
 obtain⟨b,a⟩:=AZ m P 30;have:∀n s,DS X s (sS m P W e (iv m P 30).1 (iv m P 30).2 c n s):=λn=>by
  induction n with
  |zero=>exact λ_=>bV|succ n ih=>exact λs=>Kb P g b a (xa ih) s
 exact xa (this 12) d
end
structure bK where
 nm:Str
 ps:List Str
 N:List Str
 st:Stmt
 kp:Bool
 mt:List Str
 pu:Bool
 gn:Str
 ld:Option dS
 lam:Option (Pos×Str)
structure Mo where
 ds:List bK
 ja:List Str
 wQ:List (Str×D)
 wR:List (Str×List (Str×D))
 P:Pk
 W:Nat
noncomputable def kT:Nat->List bK->List (Str×Nat×Nat)
 |_,[]=>[]|j,d::ds=>if d.ld.isSome then kT (j+1) ds else(d.gn,j,d.ps.length)::kT (j+1) ds
noncomputable def kU:Nat->List bK->List (Str×Nat)
 |_,[]=>[]|j,d::ds=>if d.ld.isSome then(d.gn,j)::kU (j+1) ds else kU (j+1) ds
noncomputable def lO (ds:List bK):List (Str×dS):=ds.filterMap λd=>d.ld.map λl=>(d.gn,l)
def Mo.g (M:Mo)(T:Nat->Fn)(k:Nat):G0:=⟨T,k,kT 0 M.ds,M.ja,M.wQ,M.wR,kU 0 M.ds⟩
def A2 (a:Bool)(f:Fn):Fn:=if a then gu f else f
def Mo.rh (M:Mo)(d:bK):Option (Pos×Str×dS):=d.lam.bind λq=>((lO M.ds).lookup q.2).map λl=>(q.1,q.2,l)
def bK.run (M:Mo)(d:bK)(T:Nat->Fn)(k:Nat):Fn:=match d.ld with
 |some l=>dD l.fv.length l.ps.length ((iv (M.g T k) M.P 30).1 ⟨l.fv++l.ps,l.sc,false,[],[],none⟩ false l.bd)|none=>A2 d.pu (ao d.kp d.N.length d.ps.length (body (M.g T k) M.P M.W d.kp ⟨d.N,aX d.st,true,d.mt,[],M.rh d⟩ (dQ d.st)))
theorem t_:∀{ds:List bK} {j:Nat} {x:Str} {i n:Nat},(x,i,n)∈kT j ds->∃d q,i=j+q/\ds[q]? = some d/\d.ld=none/\d.gn=x/\d.ps.length=n
 | [],_,_,_,_,h=>by simp[kT]at h
 |d::ds,j,x,i,n,h=>by
  unfold kT at h;have rest:(x,i,n)∈kT (j+1) ds->∃e q,i=j+q/\(d::ds)[q]? = some e/\e.ld=none/\e.gn=x/\e.ps.length=n:=λh=>by obtain⟨e,q,f,b,a⟩:=t_ h;exact⟨e,q+1,by omega,by simpa using b,a⟩
  split at h
  . exact rest h
  . rename_i c
    rcases aah.mp h with h|h
    . cases h;exact⟨d,0,rfl,rfl,by simpa using c,rfl,rfl⟩
    . exact rest h
theorem ua:∀{ds:List bK} {j:Nat} {x:Str} {i:Nat},(x,i)∈kU j ds->∃d q l,i=j+q/\ds[q]? = some d/\d.ld=some l/\d.gn=x
 | [],_,_,_,h=>by simp[kU]at h
 |d::ds,j,x,i,h=>by
  unfold kU at h;have rest:(x,i)∈kU (j+1) ds->∃e q l,i=j+q/\(d::ds)[q]? = some e/\e.ld=some l/\e.gn=x:=λh=>by obtain⟨e,q,l,f,b,a⟩:=ua h;exact⟨e,q+1,l,by omega,by simpa using b,a⟩
  split at h
  . rename_i c
    rcases aah.mp h with h|h
    . cases h
      obtain⟨l,e⟩:=adU.mp c;exact⟨d,0,l,rfl,rfl,e,rfl⟩
    . exact rest h
  . exact rest h
structure Good (M:Mo)(T:Nat->Nat->Fn):Prop where
 z:∀j ds g,T 0 j ds g=none
 s:∀k j d,M.ds[j]? = some d->T (k+1) j=d.run M (T k) k
 sc:∀d∈M.ds,d.ld=none->jI d.N d.ps (aX d.st)
 lc:∀d∈M.ds,∀p x l,M.rh d=some (p,x,l)->l.fv=mC l.sc/\l.ar.defaults = []/\l.ar.kw_defaults = []/\d.nm ++ ".<locals>." ++ "<lambda>" = l.qual /\ ∀y∈l.fv,(aX d.st).names.lookup y=some .cell
 ln:((lO M.ds).map (·.1)).Nodup
 lf:∀d∈M.ds,d.ld=none->d.gn ∉ (lO M.ds).map (·.1)
inductive xb (M:Mo)(T T':Nat->Fn)(k:Nat):Nat->List bK->Prop
 |nil {j:Nat}:xb M T T' k j []
 |cons {j:Nat} {d:bK} {ds:List bK} (h:T' j=d.run M T k) (r:xb M T T' k (j+1) ds):xb M T T' k j (d::ds)
theorem xb.get {M:Mo}{T U:Nat->Fn}{k:Nat}:∀{j:Nat} {ds:List bK},xb M T U k j ds->∀{i:Nat} {d:bK},ds[i]? = some d->U (j+i)=d.run M T k
 |_,_,.nil,_,_,h=>by simp at h|_,_,.cons h r,0,d,e=>by simp at e;subst e;exact h|j,_,.cons h r,i+1,d,e=>by have:=r.get (i:=i) (by simpa using e);rw[show j+(i+1)=j+1+i by omega];exact this
structure vC (M:Mo)(K:KW)(f:Nat->Addr)(fd:Nat->abN):Prop where
 fn:∀j d,M.ds[j]? = some d->d.ld=none->yz K.fr d.nm d.nm d.st (f j) (fd j)/\K.mg d.gn=some (.ref (f j))/\Binds K.fr (fd j) d.ps []
 lt:∀(j:Nat) (d:bK),M.ds[j]? = some d->d.ld=none->∀p x,d.lam=some (p,x)->∃cc P,(fd j).code = .ref cc/\adB K.fr cc P=true/\(P,p,d.nm ++ ".<locals>." ++ "<lambda>")∈K.lx.tb
 lm:K.lx.lm=λx=>(lO M.ds).lookup x
 ls:∀(j:Nat) (d:bK) (l:dS),M.ds[j]? = some d->d.ld=some l->uV l
 bl:∀x∈M.ja,K.mg x=none
 cn:∀x d,(x,d)∈M.wQ->∃v u,K.mg x=some u/\RelV v u /\ ∀K H ι,Rel K H ι d v
 dc:∀x t,(x,t)∈M.wR->∃a,K.mg x=some (.ref a)/\iR K.w K a t
section
variable {M:Mo}{T:Nat->Nat->Fn}{K:KW}{f:Nat->Addr}{fd:Nat->abN}{P:aaG}{base:Heap}
theorem Good.len (G:Good M T){k j:Nat}{d:bK}(h:M.ds[j]? = some d)(a:d.ld=none):∀ds g r,T k j ds g=some r->ds.length=d.ps.length:=λds g r q=>by
 cases k with
 |zero=>rw[G.z]at q;cases q
 |succ k =>
  rw[G.s k j d h]at q;unfold bK.run at q;rw[a]at q;unfold A2 at q;dsimp only at q;split at q
  . exact AA (λ_ _ _=>tS _ _ _) ds g r q
  . exact tS ds g r q
theorem A3 (G:Good M T)(A:vC M K f fd){x:Str}{l:dS}(h:(x,l)∈lO M.ds):K.lx.lm x=some l:=by rw[A.lm];exact fz G.ln h
theorem zu {ds:List bK}{j:Nat}{d:bK}{l:dS}(h:ds[j]? = some d)(a:d.ld=some l):(d.gn,l)∈lO ds:=ab3.mpr ⟨d,aaO h,by rw[a];rfl⟩
theorem Kd (G:Good M T)(A:vC M K f fd){d:bK}(a:d∈M.ds)(b:d.ld=none):K.lx.lm d.gn=none:=by
 rw[A.lm];show(lO M.ds).lookup d.gn=none;cases e:(lO M.ds).lookup d.gn with
 |none=>rfl|some l=>exact absurd (abV (f:=(·.1)) (aaT e)) (G.lf d a b)
theorem Di (G:Good M T)(A:vC M K f fd):∀k,(∀j d,M.ds[j]? = some d->d.ld=none->dU P K.w K.fr K.mg base gY k (f j) (fd j) d.ps (kL K d.ps.length (T k j))) /\ ∀j d l,M.ds[j]? = some d->d.ld=some l->qT P K base k d.gn (T k j)
 | 0=>⟨λj d h _=>Js λds g=>G.z j ds g,λj d l h _=>L3.FF λds g=>G.z j ds g⟩
 |k+1=>by
  obtain⟨ih,ZN⟩:=Di G A k;have TK:∀{X:Cx},X.prog=P->X.kw=K->X.base=base->(∀x i n,(x,i,n)∈(M.g (T k) k).fns->wU (M.g (T k) k) X x i n/\X.lx.lm x=none)/\(∀x i,(x,i)∈(M.g (T k) k).NT->(∃l,X.lx.lm x=some l)/\qT X.prog X.kw X.base (M.g (T k) k).k x ((M.g (T k) k).T i)):=fun {X} e1 e2 e3=>by
    subst e1 e2 e3;refine⟨λx i n b=>?_,λx i b=>?_⟩
    . obtain⟨e,q,v,o,h0,h3,h4⟩:=t_ b
      have v:i=q:=by omega
      subst v h3 h4;obtain⟨F',mV,gI⟩:=A.fn i e o h0;exact⟨⟨f i,fd i,e.ps,ih i e o h0,mV,F'.kp,gI,G.len o h0⟩,Kd G A (aaO o) h0⟩
    . obtain⟨e,q,l,v,o,h0,h3⟩:=ua b
      have v:i=q:=by omega
      subst v h3;exact⟨⟨l,A3 G A (zu o h0)⟩,ZN i e l o h0⟩
  refine⟨λj d h c=>?_,λj d l h c=>?_⟩
  . obtain⟨F,hm,hb⟩:=A.fn j d h c
    have hd:=aaO h;have S:=G.sc d hd c;have eK:d.ps.length<=d.N.length:=by have:=congrArg ahn S.pre;rw[aa2]at this;omega
    have main:dU P K.w K.fr K.mg base gY (k+1) (f j) (fd j) d.ps (kL K d.ps.length (ao d.kp d.N.length d.ps.length (body (M.g (T k) k) M.P M.W d.kp ⟨d.N,aX d.st,true,d.mt,[],M.rh d⟩ (dQ d.st)))):=by
      refine QN F S eK λde y outer s H E ju hr=>?_;have r:=TK (X:=(l7 K.lx gY P K.w K.fr K.mg base d.N d.nm (aX d.st) (f j) de y outer s H E).vi) rfl rfl rfl;by_cases TM:K.fr.In base
      . have gd:Gd (M.g (T k) k) ⟨d.N,aX d.st,true,d.mt,[],M.rh d⟩ (l7 K.lx gY P K.w K.fr K.mg base d.N d.nm (aX d.st) (f j) de y outer s H E).vi:=⟨rfl,rfl,S.nd,rfl,rfl,hr,λ_ _=>rfl,(λ_ h=>nomatch h),λx i n b=>(r.1 x i n b).1,A.bl,A.cn,A.dc,λx i n b=>(r.1 x i n b).2,r.2,λp x l u=>?_⟩
        . exact Kc M.P gd _
        obtain⟨c2,c3,c4,c5,c6⟩:=G.lc d hd p x l u;obtain⟨⟨p',x'⟩,hq,u⟩:=afV.mp u;obtain⟨l',gr,u⟩:=aak.mp u;cases u;have c1:=aaT gr;obtain⟨cc,PP,t1,t2,t3⟩:=A.lt j d h c _ _ hq;rw[c5]at t3;obtain⟨e,ZO,ZP⟩:=ab3.mp c1;obtain⟨l',e1,e2⟩:=aak.mp ZP;cases e2;obtain⟨je,ZQ⟩:=List.getElem?_of_mem ZO;exact⟨A3 G A c1,A.ls je e l ZQ e1,c2,c3,c4,⟨cc,PP,ju.symm.trans t1,agI TM t2,t3⟩,c5,c6,λ_=>rfl⟩
      . exact .of λb0 s' σ H' Q I _=>absurd I.ok.mod.qr TM
    rw[G.s k j d h];unfold bK.run;rw[c];unfold A2;dsimp only;split
    . exact JK main
    . exact main
  . rw[G.s k j d h]
    unfold bK.run;rw[c];have S:=A.ls j d l h c;refine NM S (A3 G A (zu h c)) λcl a cd y outer s H hr=>?_;have r:=TK (X:=oN K.lx P K.w K.fr K.mg base l cl a cd y outer s H) rfl rfl rfl;have gd:Gd (M.g (T k) k) ⟨l.fv++l.ps,l.sc,false,[],[],none⟩ (oN K.lx P K.w K.fr K.mg base l cl a cd y outer s H):=⟨rfl,rfl,S.nd,rfl,rfl,hr,(λz=>nomatch z),(λ_ h=>nomatch h),λx i n b=>(r.1 x i n b).1,A.bl,A.cn,A.dc,λx i n b=>(r.1 x i n b).2,r.2,λ_ _ _ h=>nomatch h⟩
    exact(AZ (M.g (T k) k) M.P 30).1 _ _ gd false l.bd
end
def A4 (K:aat)(lx:Lx):Sp:=λb H Q _=>∃(a:Addr) (ns:List Int),b = [.ref a]/\cS K H a (ns.map V.int)/\ns.length<=63/\(∀q∈lx.tb,H q.1=some (.bU q.2.1 q.2.2)) /\ ∀H',Q (.bl true) H'
theorem ub {K:KW}{H:Hp}{ι:Ix}:∀ns:List Int,ag K H ι (ns.map D.int) (ns.map V.int)
 | []=>by simp[ag]|n::ns=>by simp only[aa5,ag];exact⟨_,_,rfl,by simp[Rel],ub ns⟩
theorem N7 {K:KW}{fn:Fn}(h:∀ns:List Int,ns.length<=63->∃g',fn [.lst (ns.map .int)] []=some (.bl true,g'))(vs:List V)(H:Hp)(Q:VK)(E:XK)(q:A4 K.fr K.lx vs H Q E):kL K 1 fn vs H Q E:=by
 obtain⟨a,ns,rfl,c,k,n,d⟩:=q;obtain⟨g',l⟩:=h ns k;refine⟨rfl,⟨[],[],λ_=>0⟩,[],[.lst (ns.map .int)],.bl true,g',⟨acM,rfl,(λb j=>by cases j),(λi xs z=>by simp at z),λq d=>⟨n q d,by simp⟩⟩,?_,l,λf o v e G r=>?_⟩
 . simp only[ag]
   refine⟨_,_,rfl,?_,rfl⟩;simp only[Rel];refine⟨a,_,rfl,?_,ub ns⟩;rcases c with c|c
   . exact .inl ⟨c,by simp,by simp⟩
   . exact .inr c
 . simp only[Rel]at r
   rw[r];exact d f
inductive bj (K:aat)(ts:List Addr):List bK->List Addr->List abN->List (Addr×Pos×Str)->Prop
 |nil:bj K ts [] [] [] []
 |cons {nm gn:Str} {ps N:List Str} {st:Stmt} {kp pu:Bool} {mt:List Str} {ds:List bK} {fs:List Addr} {eV:List abN} {tb:List (Addr×Pos×Str)} {f:Addr} {oc:Value} {od an:Option Addr} {sl:Array (Option Value)} {kV dc pm cd ct:Value}
  (a:acF K aaZ gn=some (some (.ref f)))
  (l:K.lookup f=some ⟨oc,od,.func (acs nm nm (fX st) (dQ st) (aX st) .none kV dc pm an cd ct),sl⟩)
  (e:ad2 K cd nm=true) (k:ach K (.ref f)=true)
  (b:∀us:List Value,us.length=ps.length->aeR (acs nm nm (fX st) (dQ st) (aX st) .none kV dc pm an cd ct) ⟨us,[]⟩=pure (ps.zip us))
  (r:bj K ts ds fs eV tb):bj K ts (⟨nm,ps,N,st,kp,mt,pu,gn,none,none⟩::ds) (f::fs) (acs nm nm (fX st) (dQ st) (aX st) .none kV dc pm an cd ct::eV) tb
 |maker {nm gn:Str} {ps N:List Str} {st:Stmt} {kp pu:Bool} {mt:List Str} {ds:List bK} {fs:List Addr} {eV:List abN} {tb:List (Addr×Pos×Str)} {f:Addr} {oc:Value} {od an:Option Addr} {sl:Array (Option Value)} {kV dc pm ct:Value} {cc:Addr} {P:Addr} {p:Pos} {x:Str} {vs:Array Value} {ZR:Option Addr} {jT:Array (Option Value)}
  (a:acF K aaZ gn=some (some (.ref f)))
  (l:K.lookup f=some ⟨oc,od,.func (acs nm nm (fX st) (dQ st) (aX st) .none kV dc pm an (.ref cc) ct),sl⟩)
  (e:ad2 K (.ref cc) nm=true) (k:ach K (.ref f)=true)
  (h:K.lookup cc=some ⟨.type "code",ZR,.fields vs,jT⟩) (h11:vs[11]? = some (.ref P)) (hh:adB K cc P=true) (o:K.lookup P=none) (m:P∈ts)
  (b:∀us:List Value,us.length=ps.length->aeR (acs nm nm (fX st) (dQ st) (aX st) .none kV dc pm an (.ref cc) ct) ⟨us,[]⟩=pure (ps.zip us))
  (r:bj K ts ds fs eV tb):bj K ts (⟨nm,ps,N,st,kp,mt,pu,gn,none,some (p,x)⟩::ds) (f::fs) (acs nm nm (fX st) (dQ st) (aX st) .none kV dc pm an (.ref cc) ct::eV) ((P,p,nm ++ ".<locals>." ++ "<lambda>")::tb)
 |lam {nm gn:Str} {ps N:List Str} {st:Stmt} {kp pu:Bool} {mt:List Str} {ds:List bK} {fs:List Addr} {eV:List abN} {tb:List (Addr×Pos×Str)} {ld:dS}
  (b:∀(cl:List (Str×Addr)) (pm de fM:Value) (us:List Value),us.length=ld.ps.length->aeR (ago "<lambda>" ld.qual ld.ar ld.bd ld.sc cl pm de fM) ⟨us,[]⟩=pure (ld.ps.zip us))
  (r:bj K ts ds fs eV tb):bj K ts (⟨nm,ps,N,st,kp,mt,pu,gn,some ld,none⟩::ds) (0::fs) (default::eV) tb
section
variable {K:aat}{ts:List Addr}{h:Heap}{mg:Str->Option Value}{f0:Addr}{d0:abN}
theorem bj.all (X:K.In h)(G:h.Ns aaZ mg){ds:List bK}{fs:List Addr}{s:List abN}{tb:List (Addr×Pos×Str)}(L:bj K ts ds fs s tb):
  ∀j d,ds[j]? = some d->(d.ld=none->(yz K d.nm d.nm d.st (fs.getD j f0) (s.getD j d0)/\mg d.gn=some (.ref (fs.getD j f0))/\Binds K (s.getD j d0) d.ps []) /\ ∀us:List Value,us.length=d.ps.length->aeR (s.getD j d0) ⟨us,[]⟩=pure (d.ps.zip us)) /\
   (∀p x,d.lam=some (p,x)->∃cc P,(s.getD j d0).code = .ref cc/\adB K cc P=true/\(P,p,d.nm ++ ".<locals>." ++ "<lambda>")∈tb) /\
   ∀l,d.ld=some l->∀(cl:List (Str×Addr)) (pm de fM:Value) (us:List Value),us.length=l.ps.length->aeR (ago "<lambda>" l.qual l.ar l.bd l.sc cl pm de fM) ⟨us,[]⟩=pure (l.ps.zip us):=by
 induction L with
 |nil=>intro j d h;simp at h
 |cons a l e k b r ih =>
  intro j d h;cases j with
  |zero=>cases h;exact⟨λ_=>⟨⟨BX l e k,afi X G a,.all b⟩,b⟩,λ_ _ z=>nn z,λ_ z=>nn z⟩|succ j=>exact ih j d h
 |maker a l e k h1 _ h2 h3 h4 b r ih =>
  intro j d h;cases j with
  |zero=>cases h;exact⟨λ_=>⟨⟨BX l e k,afi X G a,.all b⟩,b⟩,λp x z=>by cases z;exact⟨_,_,rfl,h2,aaC⟩,λ_ z=>nn z⟩
  |succ j =>
   obtain⟨c,i,o⟩:=ih j d h;refine⟨c,λp x z=>?_,o⟩;obtain⟨cc,P,n,q,f⟩:=i p x z;exact⟨cc,P,n,q,aau _ f⟩
 |lam b r ih =>
  intro j d h;cases j with
  |zero=>cases h;exact⟨λz=>nn z.symm,λ_ _ z=>nn z,λl z=>by cases z;exact b⟩|succ j=>exact ih j d h
theorem bj.out {ds:List bK}{fs:List Addr}{d:List abN}{tb:List (Addr×Pos×Str)}(L:bj K ts ds fs d tb):∀q∈tb,(∃c,adB K c q.1=true)/\K.lookup q.1=none/\q.1∈ts:=by
 induction L with
 |nil=>intro q h;cases h|cons a l e k b r ih=>exact ih|lam b r ih=>exact ih
 |maker a l e k h1 _ h2 h3 h4 b r ih =>
  intro q h;cases h with
  |head=>exact⟨⟨_,h2⟩,h3,h4⟩|tail _ h=>exact ih q h
end
theorem ZS {p:List Value->Prop}(h:p []):∀us:List Value,us.length=0->p us
 | [],_=>h
theorem zw {p:List Value->Prop}{n:Nat}(h:∀a us,us.length=n->p (a::us)):∀us:List Value,us.length=n+1->p us
 |a::us,e=>h a us (Nat.succ.inj e)
theorem pI {p:List Value->Prop}(h:∀a,p [a]):∀us:List Value,us.length=1->p us:=zw λa=>ZS (h a)
theorem kW {p:List Value->Prop}(h:∀a b,p [a,b]):∀us:List Value,us.length=2->p us:=zw λa=>pI (h a)
theorem m9 {p:List Value->Prop}(h:∀a b c,p [a,b,c]):∀us:List Value,us.length=3->p us:=zw λa=>kW (h a)
theorem TN {p:List Value->Prop}(h:∀a b c d,p [a,b,c,d]):∀us:List Value,us.length=4->p us:=zw λa=>m9 (h a)
theorem Dj {p:List Value->Prop}(h:∀a b c d e,p [a,b,c,d,e]):∀us:List Value,us.length=5->p us:=zw λa=>TN (h a)
theorem ZT {p:List Value->Prop}(h:∀a b c d e f,p [a,b,c,d,e,f]):∀us:List Value,us.length=6->p us:=zw λa=>Dj (h a)
structure HR (l:dS):Prop where
 kind:l.sc.kind = .function
 co:l.sc.isCoroutine=false
 gen:l.sc.isGenerator=false
 HF:∀y∈l.sc.names,y.2 ≠ .cell
 fr:∀x,l.sc.names.lookup x=some .free->x∈l.fv
 fv:∀x∈l.fv,l.sc.names.lookup x=some .free
 ps:∀x∈l.ps,l.sc.names.lookup x=some .local
 nd:(l.fv++l.ps).Nodup
theorem whole {l:adA}{w:World}{K:aat}{h:Heap}{mg:Str->Option Value}{fa:Addr}{M:Mo}{T:Nat->Nat->Fn}{i R:Nat}{d:bK}{x:Str}{fs:List Addr}{z:List abN}{J:List Addr}{tb:List (Addr×Pos×Str)}(X:K.In h)(G:h.Ns aaZ mg)(I:M.ds[i]? = some d)(E:d.ld=none)(C:d.ps = [x])(O:d.gn = "law")(Q:mg "law" = some (.ref fa))
   (Y:Good M T) (U:∀e∈M.ds,∀l,e.ld=some l->HR l) (L:bj K J M.ds fs z tb) (Z:(tb.map (·.1)).Nodup) (bl:∀y∈M.ja,acF K aaZ y=some none)
   (N:∀y e,(y,e)∈M.wQ->∃v u,acF K aaZ y=some (some u)/\RelV v u /\ ∀K H ι,Rel K H ι e v)
   (dc:∀y t,(y,t)∈M.wR->∃a,acF K aaZ y=some (some (.ref a)) /\ ∀lx,iR w ⟨K,w,mg,lx⟩ a t)
   (B:∀ns:List Int,ns.length<=63->∃g',T R i [.lst (ns.map .int)] []=some (.bl true,g')):
   ∃(fd:abN) (lx:Lx),TabsOk K J lx/\(∀(s:aac) (v:Value),ag8 s fd ⟨[v],[]⟩ [(x,v)]) /\ ∀base:Heap,K.In base->base.Ns aaZ mg->dU l.prog w K mg base gY R fa fd [x] (A4 K lx):=by
 have A:vC M ⟨K,w,mg,⟨tb,λx=>(lO M.ds).lookup x⟩⟩ (λj=>fs.getD j fa) (λj=>z.getD j (z.getD 0 default)):=⟨λj d h b=>((L.all X G j d h).1 b).1,λj d h _ p x b=>(L.all X G (f0:=fa) j d h).2.1 p x b,rfl,λj d l h b=>by
   have S:=U d (aaO h) l b;exact⟨S.kind,S.co,S.gen,S.HF,S.fr,S.fv,S.ps,S.nd,(L.all X G (f0:=fa) (d0:=default) j d h).2.2 l b⟩,λy n=>PySem.W.mg_none_of X G (bl y n),λy e hm=>by
   obtain⟨v,u,f,k,o⟩:=N y e hm;exact⟨v,u,afi X G f,k,o⟩,λy t hm=>by
   obtain⟨a,f,k⟩:=dc y t hm;exact⟨a,afi X G f,k _⟩⟩
 obtain⟨F,hm,r⟩:=A.fn i d I E;rw[O]at hm;have e:fs.getD i fa=fa:=by have:=hm.symm.trans Q;injection this with this;injection this
 refine⟨z.getD i (z.getD 0 default),⟨tb,λx=>(lO M.ds).lookup x⟩,⟨λq c=>(L.out q c).1,λq c=>(L.out q c).2.1,λq c=>(L.out q c).2.2,Z⟩,λs v=>.of_eq ?_,λbase _ _=>?_⟩
 . have:=((L.all X G (f0:=fa) (d0:=z.getD 0 default) i d I).1 E).2 [v] (by rw[C];rfl)
   rw[this,C];rfl
 have ok:=(Di (P:=l.prog) (base:=base) Y A R).1 i d I E;dsimp only at ok;rw[e,C]at ok;exact dU.imp ok (N7 (K:=⟨K,w,mg,⟨tb,λx=>(lO M.ds).lookup x⟩⟩) B)
end RI
namespace TL
open PySem.SeqAt PyProof.Rows PySem.W
section
variable {N:Nat}(hN:0<N)
include hN
end
end TL
namespace RI
open PyProof.Rows L2 L3
def V7:mG:=⟨"len",cK,λ_ _=>.inl ⟨_,M9,PySem.boot_len⟩⟩
def V8:mG:=⟨"int",jk,λ_ _=>.inr ⟨_,Na,ahX⟩⟩
def N8:mG:=⟨"tuple",jq,λ_ _=>.inr ⟨_,Nb,ahr⟩⟩
noncomputable def jF (a f1:Fn):Fn:=λds g=>match ds with| [_,_]=>a ds g|_=>f1 ds g
theorem Dm {X:Cx}{v:Value}{c f1:Fn}(e:dk X v (kH X.kw c))(f:dk X v (kH X.kw f1)):dk X v (kH X.kw (jF c f1)):=by
 intro b0 s σ H xs us Q I r q;obtain⟨ι,g,ds,d,b,G0,a,q,p⟩:=q;unfold jF at q;split at q
 . exact e b0 s σ H xs us Q I r ⟨ι,g,_,d,b,G0,a,q,p⟩
 . exact f b0 s σ H xs us Q I r ⟨ι,g,_,d,b,G0,a,q,p⟩
def Rb:mG:=⟨"min",jF k9 h_,λa b=>.inl ⟨_,Dm (M_ b) (JO a.hd),boot_min⟩⟩
def Rc:uZ:=⟨"get",jD,ki,λa=>⟨_,_,ND a.units⟩⟩
noncomputable def isRef:D->Bool
 |.ref _=>true|_=>false
theorem xg {X:Cx}{b0:List (Addr×Obj)}{σ:L2.St}{H:Hp}{s:aac}{ι:Ix}{g:G}{d:D}{x:V}{v:Value}(I:Inv X b0 σ H s)(G0:aw X.kw H ι g)(r:Rel X.kw H ι d x)(i:RelV x v)(h:isRef d=true):
  s.TypeIs v "list" /\ ∀a,v = .ref a->∃ob,s.heap.get? a=some ob/\ob.dict=none:=by
 cases d with
 |ref n =>
  simp only[Rel]at r;obtain⟨a,rfl,b⟩:=r;have e:n<g.length:=by rw[<- G0.len];exact(aab.mp b.1).1
  obtain⟨f,c,_⟩:=G0.at (aag e) b;exact BS I i (.inl ⟨rfl,f,.of c⟩)
 |_=>cases h
def dR (d:D)(ds:List D)(g:G):Option (D×G):=match d,ds with
 |.ref n,[x]=>(g[n]?).bind λxs=>if az (xs.length+1)=true then some (.ax,g.set n (xs ++ [x]))else none|_,_=>none
theorem Dp {X:Cx}:MR X "list" "append" "list.append" isRef dR where
 pa:=afW
 slot:=PySem.F.slot_list_append
 ty:=PySem.F.type_list_append
 is:=xg
 run:=by
  intro b0 s σ H x xs v us Q I h rs q;obtain⟨ι,g,d,ds,r,l,G0,e,rl,i,q,p⟩:=q;cases d with
  |ref n =>
   match ds,q,rl with
   | [y],q,rl =>
    simp only[dR]at q;obtain⟨o,k,q⟩:=bind_some q;split at q
    . rename_i j
      cases q;simp only[Rel]at e;obtain⟨a,rfl,b⟩:=e;simp only[ag]at rl;obtain⟨w,_,rfl,c,rfl⟩:=rl;obtain⟨ws,hw,f⟩:=G0.at k b;refine tI b0 s σ H _ _ v us Q I h rs ⟨a,ws,w,rfl,rfl,hw,?_,?_⟩
      . have:=az.le j;rw[<- f.length];omega
      . exact p _ ι _ (Ext.put b hw) (G0.put b hw (ag.append f (by simp only[ag];exact⟨_,_,rfl,c,rfl⟩))) (by simp[Rel])
    . cases q
   | [],q,_=>cases q|_::_::_,q,_=>cases q
  |_=>cases i
def FY:uZ:=⟨"append",isRef,dR,λ_=>⟨_,_,Dp⟩⟩
def Dq (E:Expr->FE)(c:List Expr):FI:=match c with
 | [a]=>eH (aE E [a])| [a,b]=>Sz (aE E [a,b])|_=>qW
def Ke:AV where
 nm:="range"
 tup:=false
 f:=Dq
 ok:=λi j hm d e c _=>by
  rename_i X k E h as p pos;unfold Dq;split
  . rename_i a
    simp only[abG,ag3,adJ]at c;exact QL d hm (e_ e _) (bh c)
  . rename_i a b
    simp only[abG,ag3,adJ,abl]at c;exact QM d hm (e_ e _) (by rw[bh c.1,bh c.2];rfl) (bh c.2)
  . exact sD
def Dr (E:Expr->FE)(b:List Expr):FI:=match b with
 | [a]=>uR (E a)|_=>qW
def N9:AV where
 nm:="enumerate"
 tup:=true
 f:=Dr
 ok:=λi j hm e h b c=>by
  rename_i X k E d as p pos;unfold Dr;split
  . rename_i a
    simp only[abG,ag3,adJ]at b;have:=c rfl;cases d with
    |Tuple elts kt tp=>exact JN e hm (h a) (bh b)|_=>cases this
  . exact sD
noncomputable def FZ (x:Str):Option Ty:=if x == "tuple" then some .tuple else none
theorem Kf {x:Str}{T:Ty}(h:FZ x=some T):x=aaD T.name:=by
 unfold FZ at h
 split at h;· rename_i e;cases h;exact eq_of_beq e
 cases h
noncomputable def xh:G0->Cs->(Expr->FE)->Expr->Option FT:=λ_ _ _ _=>none
noncomputable def TQ (x:Expr):Option (Str×Expr×Str):=(cV x).bind λq=>(two q.2).bind λr=>(nV r.2).map λt=>(q.1,r.1,t)
theorem N_ {x a:Expr}{f t:Str}(h:TQ x=some (f,a,t)):∃p p2 pos,x = .Call (.Name f p) [a,.Name t p2] [] pos:=by obtain⟨⟨k,as⟩,v1,b⟩:=bind_some h;obtain⟨⟨j,i⟩,v2,d⟩:=bind_some b;obtain⟨l,e,c⟩:=aak.mp d;cases c;obtain⟨p,pos,rfl⟩:=uY v1;obtain rfl:=q_ v2;obtain⟨p2,rfl⟩:=mF e;exact⟨p,p2,pos,rfl⟩
def V9:kS where
 e:=λm c E _ x=>(TQ x).bind λq=>if q.1 == "isinstance" && c.sc.names.lookup q.1 == some .globalImplicit&&c.sc.names.lookup q.2.2 == some .globalImplicit&&m.ja.elem q.1&&m.ja.elem q.2.2 && !(isStar q.2.1)then(FZ q.2.2).map λT=>Ax T (E q.2.1)else none
 t7:=by
  intro m c X E g i y x f h;obtain⟨⟨v,a,t⟩,v1,b⟩:=bind_some h;obtain⟨p,u,pos,rfl⟩:=N_ v1;dsimp only at b;split at b
  . rename_i d
    simp only[aae,beq_iff_eq,aaV]at d;obtain⟨⟨⟨⟨⟨j,s⟩,l⟩,o⟩,r⟩,k⟩:=d;obtain⟨T,n,h⟩:=aak.mp b;subst h;have e:=Kf n;subst j;subst e;exact Nc T (g.bl _ (ab9.mp o)) (g.bl _ (ab9.mp r)) (i a) (g.gl s) (g.gl l) (bh k)
  . cases b
 t:=xh
 tok:=by intro m c X E g i x f h;cases h
def Ds (d:bK):Bool:=d.ld.isSome||(
 decide ((aX d.st).kind = .function) && !(aX d.st).isCoroutine && !(aX d.st).isGenerator&&t9 d.N&&decide (d.N.take d.ps.length=d.ps) &&
 d.ps.all (λx=>(aX d.st).names.lookup x == some .local||(aX d.st).names.lookup x == some .cell)&&(aX d.st).names.all (λy=>!(y.2 == .free)))
def zx (ds:List bK):Bool:=ds.all Ds
theorem Dt {ds:List bK}(h:zx ds=true):∀d∈ds,d.ld=none->jI d.N d.ps (aX d.st):=λd hd i=>by have:=abS.mp h d hd;unfold Ds at this;rw[i]at this;simp only[ag1,Bool.false_or,aae,decide_eq_true_eq,aaV,abS,aa4,beq_iff_eq]at this;obtain⟨⟨⟨⟨⟨⟨c,f⟩,a⟩,j⟩,k⟩,l⟩,b⟩:=this;exact⟨c,f,a,n_ j,k,l,λy n e=>by have:=b y n;rw[e]at this;simp at this⟩
def Oa (l:dS):Bool:=decide (l.sc.kind = .function) && !l.sc.isCoroutine && !l.sc.isGenerator&&l.sc.names.all (λy=>!(y.2 == .cell))&&l.sc.names.all (λy=>!(y.2 == .free)||l.fv.elem y.1) &&
 l.fv.all (λx=>l.sc.names.lookup x == some .free)&&l.ps.all (λx=>l.sc.names.lookup x == some .local)&&t9 (l.fv++l.ps)
def HU (ds:List bK):Bool:=ds.all λd=>match d.ld with|some l=>Oa l|none=>true
theorem Kg {ds:List bK}(h:HU ds=true):∀d∈ds,∀l,d.ld=some l->HR l:=λd hd l i=>by have:=abS.mp h d hd;rw[i]at this;simp only[Oa,aae,decide_eq_true_eq,aaV,abS,aa4,beq_iff_eq]at this;obtain⟨⟨⟨⟨⟨⟨⟨f,j⟩,a⟩,k⟩,n⟩,o⟩,b⟩,p⟩:=this;exact⟨f,j,a,λy q e=>by have:=k y q;rw[e]at this;simp at this,λx c=>(n _ (aaT c)).elim (λz=>by simp at z) λz=>ab9.mp z,o,b,n_ p⟩
def Ob (M:Mo):Bool:=M.ds.all (λd=>match M.rh d with
 |some (_,_,l)=>decide (l.fv=mC l.sc)&&l.ar.defaults.isEmpty&&l.ar.kw_defaults.isEmpty&&decide (d.nm ++ ".<locals>." ++ "<lambda>" = l.qual)&&l.fv.all (λy=>(aX d.st).names.lookup y == some .cell)|none=>true)&&t9 ((lO M.ds).map (·.1))&&M.ds.all (λd=>d.ld.isSome || !((lO M.ds).map (·.1)).elem d.gn)
theorem Kh {M:Mo}{T:Nat->Nat->Fn}(z:∀j ds g,T 0 j ds g=none)(r:∀k,xb M (T k) (T (k+1)) k 0 M.ds)(s:zx M.ds=true)(q:Ob M=true):Good M T:=by
 simp only[Ob,aae,abS]at q;obtain⟨⟨q,n⟩,o⟩:=q;refine⟨z,λk j d h=>by simpa using (r k).get h,Dt s,λd hd p x l i=>?_,n_ n,λd hd i m=>?_⟩
 . have:=q d hd
   rw[i]at this;simp only[aae,decide_eq_true_eq,abS,beq_iff_eq,aep]at this;obtain⟨⟨⟨⟨a,b⟩,c⟩,e⟩,f⟩:=this;exact⟨a,b,c,e,f⟩
 . have:=o d hd
   rw[i,ab9.mpr m]at this;simp at this
noncomputable def HV:List Addr->Bool
 | []=>true|x::r=>!(r.elem x)&&HV r
theorem Du:∀{l:List Addr},HV l=true->l.Nodup
 | [],_=>acM|x::r,h=>by simp only[HV,aae,aaV]at h;exact aaS.mpr (And.intro (λz=>(by rw[ab9.mpr z]at h;exact absurd h.1 (by simp))) (Du h.2))
def At (K:aat)(b:List Addr)(w:World)(mg:Str->Option Value)(M:Mo):Prop:=∃fs eV tb,bj K b M.ds fs eV tb/\HV (tb.map (·.1))=true/\(∀y∈M.ja,acF K aaZ y=some none) /\
 (∀y e,(y,e)∈M.wQ->∃v u,acF K aaZ y=some (some u)/\RelV v u /\ ∀K H ι,Rel K H ι e v) /\
 (∀y t,(y,t)∈M.wR->∃a,acF K aaZ y=some (some (.ref a)) /\ ∀lx,iR w ⟨K,w,mg,lx⟩ a t)
theorem Ki {l:adA}{q:aaG}{y:List Str}{X:(Str->Option Value)->Heap->Prop}{E:World->Heap->Prop}{d:DefRec}{K:Params->aat}{M:Mo}{T:Nat->Nat->Fn}{i R:Nat}{dt:bK}{x:Str}{H:List Addr}(hn:l.most=some 63)(I:cX R aeU)(U:d.params.defaults = [])(S:d.name = "law")
  (Y:∀(w:World) (h:Heap),E w h->(K w.params).In h /\ ∀P∈H,h.get? P=some (acK #[]))
  (F:∀(w:World) (mg:Str->Option Value) (h:Heap),(K w.params).In h->h.Ns aaZ mg->At (K w.params) H w mg M)
  (Z:M.ds[i]? = some dt) (W:dt.ld=none) (J:dt.ps = [x]) (N:dt.gn = "law") (Q:Good M T) (O:HU M.ds=true)
  (A:∀ns:List Int,ns.length<=63->∃g',T R i [.lst (ns.map .int)] []=some (.bl true,g')):
  agE q y X E l.row.toRowW d [] (λf vs=>agu f vs):=
 L2.Jb (n:=63) (k:=R) (x:=x) (CX:=λ_=>gY) (sp:=λw j=>A4 (K w.params) j) hn (by decide) U I Y
  (λw mg u h c G b=>by obtain⟨fs,v,tb,L,s,B,C,e⟩:=F w mg h c G;rw[S]at b;exact whole c G Z W J N b Q (Kg O) L (Du s) B C e A)
  (λ_ _ _ a ns o p r=>⟨a,ns,rfl,p,o,r,λ_=>rfl⟩) λ_ _ _ _ _ z=>z
section
variable {α β:Type}{P:α->Prop}{Q:α->β->Prop}
theorem bn:∀y∈([]:List α),P y:=λy h=>by simp at h
theorem bc {x:α}{l:List α}(h:P x)(r:∀y∈l,P y):∀y∈x::l,P y:=λy z=>by
 rcases aah.mp z with rfl|z
 . exact h
 . exact r y z
theorem TR:∀y e,(y,e)∈([]:List (α×β))->Q y e:=λy e h=>by simp at h
theorem cc {x:α}{d:β}{l:List (α×β)}(h:Q x d)(r:∀y e,(y,e)∈l->Q y e):∀y e,(y,e)∈(x,d)::l->Q y e:=λy e z=>by
 rcases aah.mp z with z|z
 . cases z;exact h
 . exact r y e z
end
def F0 (m:G0)(c:Cs)(x:Str):Option (List (Str×D)):=if iH x then none else if c.sc.names.lookup x=some .globalImplicit then m.wR.lookup x else none
theorem Kj {m:G0}{c:Cs}{X:Cx}(g:Gd m c X){x:Str}{t:List (Str×D)}(h:F0 m c x=some t):(x == ("__debug__":Str))=false/\Gl X x /\ ∃a,X.mg x=some (.ref a)/\iR X.w X.kw a t:=by
 unfold F0 at h;split at h
 . cases h
 . rename_i d
   split at h
   . rename_i b
     exact⟨(nZ (by simpa using d)).1,g.gl b,g.dc x t (lookup_mem h)⟩
   . cases h
noncomputable def TU:Expr->Option (Expr×Str×Pos)
 |.Attribute o x p=>some (o,x,p)|_=>none
noncomputable def one {b:Type}:List b->Option b
 | [a]=>some a|_=>none
theorem Od {b:Type}{l:List b}{a:b}(h:one l=some a):l = [a]:=by
 cases l with
 |nil=>cases h
 |cons x l=>cases l with
  |nil=>cases h;rfl|cons=>cases h
theorem Oe {e o:Expr}{x:Str}{p:Pos}(h:TU e=some (o,x,p)):e = .Attribute o x p:=by
 cases e with
 |Attribute=>cases h;rfl|_=>exact nn h
noncomputable def TV (e:Expr):Option (Str×Expr):=(sV e).bind λu=>(nV u.1).map λC=>(C,u.2)
theorem Of {e k:Expr}{C:Str}(h:TV e=some (C,k)):∃p3 p4,e = .Subscript (.Name C p4) k p3:=by obtain⟨⟨o,c⟩,a,h⟩:=bind_some h;obtain⟨d,b,h⟩:=aak.mp h;cases h;obtain⟨p3,rfl⟩:=AS a;obtain⟨p4,rfl⟩:=mF b;exact⟨p3,p4,rfl⟩
noncomputable def TX (e:Expr):Option (Expr×Str×Pos×Expr×Pos):=(C7 e).bind λq=>(TU q.1).bind λr=>(one q.2.1).map λy=>(r.1,r.2.1,r.2.2,y,q.2.2)
theorem Og {e o y:Expr}{nm:Str}{l pos:Pos}(h:TX e=some (o,nm,l,y,pos)):e = .Call (.Attribute o nm l) [y] [] pos:=by obtain⟨⟨f,as,p⟩,b,h⟩:=bind_some h;obtain⟨⟨d,j,k⟩,c,h⟩:=bind_some h;obtain⟨i,a,h⟩:=aak.mp h;cases h;obtain rfl:=qZ b;obtain rfl:=Oe c;obtain rfl:=Od a;rfl
noncomputable def TY (x:Expr):Option (Str×Expr×Str×Pos×Expr×Pos):=(TX x).bind λq=>(TV q.1).map λr=>(r.1,r.2,q.2)
theorem Oh {x k y:Expr}{C nm:Str}{j pos:Pos}(h:TY x=some (C,k,nm,j,y,pos)):∃p3 p4,x = .Call (.Attribute (.Subscript (.Name C p4) k p3) nm j) [y] [] pos:=by obtain⟨⟨o,f,i,e,pos'⟩,a,h⟩:=bind_some h;obtain⟨⟨d,c⟩,b,h⟩:=aak.mp h;cases h;obtain rfl:=Og a;obtain⟨p3,p4,rfl⟩:=Of b;exact⟨p3,p4,rfl⟩
def Rf:kS where
 e:=λm c E _ x=>(TY x).bind λq=>if !(q.2.2.1 == "index")||uX q.2.1||isStar q.2.2.2.2.1 || !(q.2.2.2.1.endLine == q.2.2.2.2.2.line)then none else(F0 m c q.1).map λt=>AD t (E q.2.1) (E q.2.2.2.2.1)
 t7:=by
  intro m c X E g d u x f h;obtain⟨⟨C,k,nm,ap,y,pos⟩,v1,b⟩:=bind_some h;obtain⟨r,s,rfl⟩:=Oh v1;dsimp only at b;split at b
  . cases b
  . rename_i i
    simp only[aa4,not_or,aaV,afp,acx]at i;obtain⟨⟨⟨s1,s2⟩,s3⟩,s4⟩:=i;have s1:=eq_of_beq s1;subst s1;obtain⟨t,l,rfl⟩:=aak.mp b;obtain⟨j,p,a,n,o⟩:=Kj g l;refine JM o n (d _) (d _) p (zi s2) j (baseOk rfl) ?_ s4 (bh s3);rw[wW (by rw[abG,s3];rfl)];rfl
 t:=xh
 tok:=by intro m c X E g d x f h;cases h
def lP (d:D)(ds:List D)(g:G):Option (D×G):=match d,ds with
 |.ref n,[e]=>(g[n]?).bind λxs=>(hU e g).bind λzs=>if az (xs.length+zs.length)=true then some (.ax,g.set n (xs++zs))else none|_,_=>none
theorem Dv {X:Cx}:MR X "list" "extend" "list.extend" isRef lP where
 pa:=afW
 slot:=PySem.F.slot_list_extend
 ty:=PySem.F.type_list_extend
 is:=xg
 run:=by
  intro b0 s σ H x xs v us Q I k rs q;obtain⟨ι,g,d,ds,d',z,G0,f,rl,hT,q,p⟩:=q;unfold lP at q;split at q
  . rename_i n e
    obtain⟨ys,y,q⟩:=bind_some q;obtain⟨zs,l,q⟩:=bind_some q;split at q
    . rename_i u
      cases q;simp only[Rel]at f;obtain⟨a,rfl,c⟩:=f;simp only[ag]at rl;obtain⟨w0,_,rfl,j,rfl⟩:=rl;obtain⟨ws,hw,i⟩:=G0.at y c;obtain⟨b,o,rfl,r,h⟩:=j8 G0 j l;have:=az.le u;refine AE b0 s σ H _ _ v us Q I k rs ⟨a,b,ws,o,rfl,rfl,hw,r,by rw[<- i.length,<- h.length];omega,?_⟩;exact p _ ι _ (Ext.put c hw) (G0.put c hw (ag.append i h)) (by simp[Rel])
    . cases q
  . cases q
def F3:uZ:=⟨"extend",isRef,lP,λ_=>⟨_,_,Dv⟩⟩
end RI
namespace PySem
namespace F
theorem gw:entryFor table "dict.update.loop" = some ab5.«dict.update.loop»:=entryFor_of_tree (by kernel_rfl)
theorem dh:plainId "dict.update.loop" = true:=by decide +kernel
end F
theorem xi:typeLookup (.type "list") "keys" = pure none:=by rw[aeF,adu];kernel_rfl
theorem xj {prog:aaG}{w:World}{A:aaL}{E:Value->aac->Prop}{s:aac}{a:Addr}{o:Obj}{xs:Array Value}{k:Nat}{Q:Option Value->aac->Prop}
  (y:s.heap.get? a=some o) (x:o.cls = .type "list") (z:o.data = .seq xs k) (B:o.dict=none) (C:A.handled=none)
  (h:∀h' tk,(∀b ob,s.heap.get? b=some ob->h'.get? b=some ob)->Q none { s with heap:=h',toks:=tk }):
  wpAny (model prog w) A (getAttr? (.ref a) "keys") Q E s:=by
 obtain⟨c,p,dat,l⟩:=o;simp only at x z B;subst x z B;obtain⟨n,g,d,tk,os⟩:=s;have f:∀j,(⟨n,g,d,j,os⟩:aac).TypeIs (.ref a) "list":=λ_=>⟨_,y,rfl⟩
 have f1:=sub_AttributeError;have r:=F.slot_list_getattribute.lookup;have f4:=F.slot_list_getattribute.bind (.ref a);have u:=am_list_getattr_none;unfold getAttr? getAttrBy? getAttrBy;repeat (any_goals (first|assumption|exact f _| ((with_reducible show wpAny _ _ (call (Value.builtin "list.__getattribute__") _ _) _ _ _);refine acX F.slot_list_getattribute (f _) am_entry_list_getattribute (F.args_list_getattribute_2 _ _) (meets_getattribute_miss_list a xs k l "keys" _ xi (by decide) (by size_fits)) ⟨y,C,λh' j e i=>?_⟩)|wp_step))
 obtain⟨q,v,he⟩:=i.there;show wpAny _ _ (getattributeRaised _ _ _ _ _ _ _) _ _ _;unfold getattributeRaised;repeat (any_goals (first|assumption|wp_step))
 exact h _ _ i.keeps
end PySem
namespace L3
open PyProof.Rows L2 SeqAt DK
noncomputable def A5:D->Option (D×D)
 |.tup [k,v]=>some (k,v)|_=>none
noncomputable def jG:List D->Option (List (D×D))
 | []=>some []|d::ds=>(A5 d).bind λp=>(jG ds).map λr=>p::r
def mH:Fn:=λds g=>match ds with
 | [.lst ps]=>(jG ps).bind λb=>(putAll g.length b (g ++ [[]])).map λa=>(.aC g.length,a)|_=>none
section
variable {X:Cx}{b0:List (Addr×Obj)}{σ:L2.St}
theorem xk {A:aaL}{E:Value->aac->Prop}{P:aac->Prop}(hu:A.units+32<cLine)(hh:A.handled=none){a l B:Addr}{n:Nat}{ps:List D}{vs:List V}:∀(qs:List (D×D)) (i:Nat) {s:aac} {H:Hp} {ι:Ix} {g g':G},Inv X b0 σ H s->aw X.kw H ι g->dA ι n a true->mW X.kw H ι l vs->ag X.kw H ι ps vs->jG (ps.drop i)=some qs->putAll n qs g=some g' ->
  s.heap.IsListIter B l i->fK X b0 H B ->
  (∀s' H',Inv X b0 σ H' s'->Ext H ι H' ι->aw X.kw H' ι g'->P s') ->
  adO (model X.prog X.w) A (.builtin "dict.update.loop" ⟨[.ref a,.ref B,.int i 0,.none],[]⟩) (wants (λr s₂=>r = .none/\P s₂) E) s
 | [],i,s,H,ι,g,g',I,G0,ha,hq,hr,h,j,hit,hf,p=>by
  cases j;have hd:ps.drop i = []:=by
    cases e:ps.drop i with
    |nil=>rfl|cons x r=>rw[e]at h;simp only[jG]at h;obtain⟨_,_,h⟩:=bind_some h;obtain⟨_,_,h⟩:=aak.mp h;cases h
  obtain⟨au,cU,pl,hz⟩:=I.list hq.sq;have hlen:au.length<=i:=by rw[<- cU.length,<- hr.length];exact adF.mp hd
  refine acC F.gw ?_;rw[aci F.dh _];show wpAny _ A.in1 (adq (.ref B) >>= _) _ _ s;refine aaa (agg hh hit pl.isList (by simp;omega) λh' hx=>?_);show wpAny _ A.in1 (Builtin.Dict.addKeywords a [] >>= _) _ _ _;exact aaa (aad (aad ⟨rfl,p _ H (I.turned (t':=s.toks) (λb o hb q=>hx b o hb q) hf.1 hf.2.1 hf.2.2.2.1 hf.2.2.2.2.1 hf.2.2.2.2.2) Ext.refl G0⟩))
 | (k,v)::qs,i,s,H,ι,g,g',I,G0,ha,hq,hr,h,j,hit,hf,p=>by
  obtain⟨x,r,hd,HW,ZX⟩:∃x r,ps.drop i=x::r/\A5 x=some (k,v)/\jG r=some qs:=by
    cases e:ps.drop i with
    |nil=>rw[e]at h;simp[jG]at h
    |cons x r =>
      rw[e]at h;simp only[jG]at h;obtain⟨p0,h1,h⟩:=bind_some h;obtain⟨r0,h2,h⟩:=aak.mp h;cases h;exact⟨x,r,rfl,h1,h2⟩
  have hi:ps[i]? = some x:=by have:=congrArg (λl=>l[0]?) hd;simpa using this
  have ZY:ps.drop (i+1)=r:=by have:=congrArg List.tail hd;simpa using this
  have hx:x = .tup [k,v]:=by
    unfold A5 at HW;split at HW
    . cases HW;rfl
    . cases HW
  subst hx;obtain⟨au,cU,pl,hz⟩:=I.list hq.sq;obtain⟨w,hw,y⟩:=hr.get hi;obtain⟨u,NH,ru⟩:=cU.get hw;simp only[Rel]at y;obtain⟨b,us,rfl,ZZ,TZ⟩:=y;cases ru;simp only[ag]at TZ;obtain⟨kv,_,rfl,rk,vv,_,rfl,rv,rfl⟩:=TZ;refine acC F.gw ?_;rw[aci F.dh _];show wpAny _ A.in1 (adq (.ref B) >>= _) _ _ s;refine aaa (af6 hit pl.isList (by simpa using NH) λh' V_ sb=>?_);have I1:Inv X b0 σ H { s with heap:=h' }:=I.turned (t':=s.toks) (λb o hb e=>sb.extBut b o hb e) hf.1 hf.2.1 hf.2.2.2.1 hf.2.2.2.2.1 hf.2.2.2.2.2;obtain⟨fL,Rg,⟨o,h1,h2,m,h3⟩,_⟩:=I1.tuple ZZ.sq;obtain⟨ku,vu,rfl,NF,Z0⟩:∃ku vu,fL = [ku,vu]/\RelV kv ku/\RelV vv vu:=by
    cases Rg with
    |cons a1 r1=>cases r1 with
      |cons a2 r2=>cases r2;exact⟨_,_,rfl,a1,a2⟩
  show wpAny _ A.in1 (ac1 [.ref b] _ >>= _) _ _ _;refine aaa (aaW ?_);refine aaa (wpAny_tryCatch ?_);unfold Builtin.Dict.pairItems;refine aaa (adt ⟨o,h1,h2⟩ ?_);rw[if_pos (by decide)];refine aaa (acj h1 h3 (aad ?_));simp only[putAll]at j;obtain⟨g1,d,j⟩:=bind_some j;simp only[kh]at d;obtain⟨xs,Cm,d⟩:=bind_some d;split at d
  . rename_i hk
    simp only[aae]at hk;cases d;obtain⟨es,Hs,c,f,pG,fE,CQ,Z1,nd,sy,sz,rl⟩:=G0.tR Cm ha;have en:=Ent.of CQ Z1 rl;have Oj:=az.le hk.2;rw[sj en]at Oj;refine aaW ?_;refine nL I1 (by rw[in1_units];omega) f fE sz en nd hk.1 rk NF rv Z0 λtk vW c_ e1 e2 e3 e0 e4 e5=>?_;refine aad ⟨adL F.dh _,?_⟩;have x1:Ext H ι (upd H a (dO a c_ c)) ι:=Ext.put ha f;have eL:B≠a:=λz=>by rw[z]at hf;rw[hf.1]at f;cases f
    have:=xk (P:=P) hu hh qs (i+1) (qa (tk:=tk) I1 f e4 e5) (qb G0 ha pG f e1 e2 sy e0 (by omega)) ha (hq.ext x1) (ag.ext x1 _ hr) (by rw[ZY];exact ZX) j (V_.at λo q=>by rw[e5.2 B eL];exact q) ⟨by rw[aB eL];exact hf.1,hf.2⟩ (E:=E) λs' H' I' x' G'=>p s' H' I' (x1.trans x') G';exact this
  . cases d
theorem Kk {k:Nat}(B:cX k X.A):dk X (.type "dict") (kH X.kw mH):=by
 intro b0 s σ H xs us Q I r q;obtain⟨ι,g,ds,d,g',G0,y,q,p⟩:=q;unfold mH at q;split at q
 . rename_i ps
   obtain⟨qs,Nz,q⟩:=bind_some q;obtain⟨g2,Z2,q⟩:=aak.mp q;cases q;simp only[ag]at y;obtain⟨v,_,rfl,rv,rfl⟩:=y;simp only[Rel]at rv;obtain⟨l,vs,rfl,hq,Z3⟩:=rv;obtain⟨u,rfl,ru⟩:=vals1 r;cases ru;have hf:H s.heap.objs.size=none:=I.aU.fresh (aal _);have i:∀h:Heap,(h.push { cls:=.type "dict",data:=.dict #[] }).get? h.objs.size=some { cls:=.type "dict",data:=.dict #[] }:=λh=>aaq _ rfl;have I1:Inv X b0 σ (upd H s.heap.objs.size (dO s.heap.objs.size [] 0)) { s with heap:=s.heap.push { cls:=.type "dict",data:=.dict #[] } }:=I.laid (t':=s.toks) (λb u e=>aaf _ e) (aal _) ⟨i _,⟨_,i _⟩,λf n q k=>k _ q⟩;have j:Ext H ι (upd H s.heap.objs.size (dO s.heap.objs.size [] 0)) (ι.more s.heap.objs.size 1):=Ext.gA (b:=1) hf;have G1:aw X.kw (upd H s.heap.objs.size (dO s.heap.objs.size [] 0)) (ι.more s.heap.objs.size 1) (g ++ [[]]):=G0.gA hf (.d 0 [] [] (aaR _) .nil .nil (by simp[bY]) (beq_eq_false_iff_ne.mpr (aaN (aaH (big I)))) (aaR _)) (by simp[ag]);have m7:dA (ι.more s.heap.objs.size 1) g.length s.heap.objs.size true:=dA.new G0.len;refine callType_codes (Q₁:=λobj z=>obj = .ref s.heap.objs.size/\z={ s with heap:=s.heap.push { cls:=.type "dict",data:=.dict #[] } }) F.kt_called_dict (F.kt_typeCall_dict_1 _) F.entry_dict_init (kt_code_dict_new _ ⟨rfl,rfl⟩) ?_;rintro obj z ⟨rfl,rfl⟩;have hT:aiQ { s with heap:=s.heap.push { cls:=.type "dict",data:=.dict #[] } } (.ref s.heap.objs.size) "dict":=⟨_,i _,rfl⟩
   refine⟨hT,F.args_dict_init_2 _ _,?_⟩;unfold ab5.«dict.__init__»;refine aaa ?_;unfold Builtin.Dict.selfAndRest;refine aaa (agn hT ?_);show wpAny _ _ (pure (s.heap.objs.size,[acZ l])) _ _ _;refine aad ?_;show wpAny _ _ (afX "dict.__init__" s.heap.objs.size (.ref l) [] .none) _ _ _;unfold afX;have gL:=hq.ext j;obtain⟨au,cU,pl,hz⟩:=I1.list gL.sq;obtain⟨o,m,f,n,h3,h4⟩:=id pl;refine aaa (adt ⟨o,f,n⟩ ?_);rw[if_pos (by decide)];refine aaa (xj (A:=X.A.in1.in1) f n h4 h3 (by simp[B.hd]) λh' a hk=>?_);rw[if_pos (by rfl)];have c:Inv X b0 σ (upd H s.heap.objs.size (dO s.heap.objs.size [] 0)) { s with heap:=h',toks:=a }:=I1.kept (t':=a) hk;refine aaa (ab8 (aaa (ad_ (pl.keeps hk).isList ?_)));have I3:Inv X b0 σ (upd H s.heap.objs.size (dO s.heap.objs.size [] 0)) { s with heap:=h'.push { cls:=.type "list_iterator",data:=.fields #[.ref l,.int 0 0] },toks:=a }:=c.kept (t':=a) λb u e=>aaf _ e;refine aad ⟨adL F.dh _,?_⟩;refine xk (A:=X.A.in1) (by rw[in1_units];have:=B.units;omega) (by simp[B.hd]) qs 0 I3 G1 m7 gL (ag.ext j _ Z3) Nz Z2 ⟨_,aaq _ rfl,rfl,rfl⟩ (c.nu (aal _) (c.aU.fresh (aal _))) λs' x I' x' G'=>?_;refine⟨.ref s.heap.objs.size,x,I',rfl,p x _ _ (j.trans x') G' ?_⟩;simp only[Rel];exact⟨_,rfl,m7⟩
 . cases q
end
end L3
namespace HX
noncomputable def rl (x:Nat):Nat:=(x*2147483648) % 18446744073709551616+x / 8589934592
noncomputable def gx (w:Nat):Nat:=let y:=((w+18446744073709551616-2870177450013471924) % 18446744073709551616)*614540362697595703 % 18446744073709551616;y % 2147483648*8589934592+y / 2147483648
noncomputable def out (w:Nat):Int:=if(w == 18446744073709551616-1)=true then 1546275796 else if w<9223372036854775808 then(w:Int)else(w:Int)-18446744073709551616
end HX
set_option maxRecDepth 10000
namespace HX
theorem ec:((18446744073709551616:Nat):Int)=18446744073709551616:=rfl
end HX
namespace L3
open PyProof.Rows L2
noncomputable def ib (R:Str->Option Fn)(i:Nat)(fr:FA):FE:=λσ g=>match σ[i]? with
 |some (some (.fn y ds))=>(R y).bind λfn=>(fr σ g).bind λq=>fn (ds++q.1) q.2|_=>none
end L3
namespace RI
open PyProof.Rows L2 L3
def HY:mG:=⟨"dict",mH,λa _=>.inr ⟨_,Kk a,ahK⟩⟩
def T1 (m:G0):Str->Option Fn:=λy=>match m.fns.lookup y with
 |some q=>some (m.T q.1)|none=>(m.NT.lookup y).map λi=>fH (m.T i)
def Ol:kS where
 e:=λm c E _ x=>match x with
  |.Call (.Name y _) (a::as) [] _=>if iH y||(a::as).any isStar || !(u0 (c.sc.names.lookup y))then none else(km c.N y).map λi=>ib (T1 m) i (aE E (a::as))|_=>none
 t7:=by
  intro m c X E g hE rf x f h;split at h
  . rename_i y p a as pos
    split at h
    . cases h
    . rename_i hh
      simp only[aa4,not_or,acx,aaV,afp]at hh;obtain⟨⟨h1,h2⟩,h3⟩:=hh;obtain⟨i,hi,rfl⟩:=aak.mp h;obtain⟨o1,o2,_⟩:=nZ h1;rw[abG,abl]at h2;have hN:X.N[i]? = some y:=by rw[g.hN];exact fP hi
      have hv:Bv X.env.scope y:=by
        rw[g.hs];unfold u0 at h3;split at h3
        . rename_i e;exact .inl e
        . rename_i e;exact .inr (.inl e)
        . rename_i e;exact .inr (.inr e)
        . cases h3
      refine .of (λb0 s σ H Q I k=>?_);obtain⟨ι,σd,g0,d,g',G0,S0,k,pp⟩:=k;unfold ib at k;split at k
      . rename_i z dz hz
        obtain⟨fn,pb,k⟩:=bind_some k;obtain⟨v,hσ,rv⟩:=S0.2 i _ hz;simp only[Rel]at rv;obtain⟨fa,gv,rfl,hV,rc⟩:=rv;obtain⟨mm,hn,nW⟩:=I.loc;obtain⟨u,r,l⟩:=nW i y _ hN hσ hv;cases r;have load:∀{Q:Value->aac->Prop} {E:Value->aac->Prop},Q (.ref fa) s->wpAny (model X.prog X.w) X.A (eval (.Name y p) X.env) Q E s:=λfin=>by
          rcases l with⟨hk,hm⟩|⟨hk,c,hc,fU⟩
          . exact aey (aez I.ok.kind hk hn hm fin) o1
          . rcases hk with hk|hk
            . exact aey (aeN I.ok.kind hk hc fU fin) o1
            . exact aey (agG I.ok.kind hk hc fU fin o2) o1
        unfold T1 at pb;split at pb
        . rename_i jn hl
          obtain⟨j,n⟩:=jn;cases pb;obtain⟨ab,fd,ps,ok,hm,kp,b,ln⟩:=g.fn z j n (lookup_mem hl);rcases hV with⟨rfl,_,mV⟩|⟨l',_,_,_,_,o,_⟩
          . have e:dz = []:=by
              have:=rc.length;exact acJ.mp (by simpa using this)
            subst e;have mV:X.mg z=some (.ref fa):=mV;rw[hm]at mV;cases mV;have q2:uJ (kL X.kw n (m.T j)) [] E0 (iZ X.kw (aE E (a::as))) σ H Q:=pT ln ⟨ι,σd,g0,d,g',G0,S0,k,pp⟩;refine ab4 (load ?_);refine ae5 (h₀:=X.base) I.ok.mod.qr kp (aY ((e_ hE (a::as)).un pos b0 s σ H _ I q2) λus s1 ⟨vs,H1,I1,r,q⟩=>⟨I1.gq,?_⟩) (bh h2.1) (gM h2.2);exact vk ok g.rm b .nil Ag I1 r q
          . have o:X.lx.lm z=some l':=o
            rw[g.lf z j n (lookup_mem hl)]at o;cases o
        . obtain⟨j,hl,rfl⟩:=aak.mp pb
          obtain⟨⟨l0,Z4⟩,ok⟩:=g.ll z j (lookup_mem hl);obtain⟨⟨es,g1⟩,h4,h5⟩:=bind_some k;rcases hV with⟨_,o,_⟩|C
          . have o:X.lx.lm z=none:=o
            rw[Z4]at o;cases o
          . have ud:∀{s':aac} {H':Hp} {σ':L2.St},Inv X b0 σ' H' s'->∀{ι':Ix} {Hs:List V},B7 X.kw H' ι' z fa Hs->PySem.W.FnAt fa s'.heap:=fun {s' H' σ'} I' {ι' Hs} C'=>by
              obtain⟨_,_,_,_,_,_,hf,_⟩:=C';exact⟨_,_,_,_,(I'.aU fa _ hf.1).1⟩
            refine ab4 (load ?_);refine PySem.W.callWith_F (ud I C) (aY ((e_ hE (a::as)).un pos b0 s σ H (λvs H1=>∃ι1,Ext H ι H1 ι1/\aw X.kw H1 ι1 g1/\ag X.kw H1 ι1 es vs) I ⟨ι,σd,g0,es,g1,G0,S0,h4,λH1 ι1 vs e1 G1 r1=>⟨ι1,e1,G1,r1⟩⟩) λus s1 ⟨vs,H1,I1,r,ι1,e1,G1,r1⟩=>?_) (bh h2.1) (gM h2.2);have C1:B7 X.kw H1 ι1 z fa gv:=by obtain⟨l,c,fM,pm,cl,q1,q2,q3,q4,q5,q6⟩:=C;exact⟨l,c,fM,pm,cl,q1,q2.ext e1,q3.ext e1,q4,q5,q6.mono λc u z q=>q.ext e1⟩
            refine⟨ud I1 C1,agq (ads (ok.run X.A X.stack s1 H1 ι1 fa gv vs us Q dz es d g1 g' g.rm I1.EM C1 r G1 (ag.ext e1 _ rc) r1 h5 (pp.mono e1)) λrr s' k=>?_)⟩;cases rr with
            |error e=>exact k.elim
            |ok fl =>
              cases fl with
              |ret u=>exact I1.after k|next=>exact ab6 k|brk=>exact ab6 k|cont=>exact ab6 k
      . cases k
  . cases h
 t:=xh
 tok:=by intro m c X E g hE x f h;cases h
end RI
namespace L3
open PyProof.Rows L2
noncomputable def dr (d:D)(g:G):D:=match d with
 |.ref n=>(match g[n]? with|some xs=>.lst xs|none=>.ref n)
 |d=>d
end L3
namespace PyProof.Rows
section
variable {prog:aaG}{w:World}{A:aaL}{E:Value->aac->Prop}{s:aac}
theorem F4 {h:Heap}{a:Addr}{vs:List Value}{n:Nat}{out:Array Value}(f:h.get? a=some (afb "list" vs.toArray n)):∃c,(agA h a vs out).get? a=some (afb "list" out c):=by unfold agA;have e:a<h.objs.size:=aas f;have d:=get?_update_seq f (λ_=>#[]);have b:=aaf (afb "list" #[] 0) (aaf (afb "tuple" vs.toArray 0) d);exact⟨_,get?_update_seq b (λ_=>out)⟩
theorem Dx {h:Heap}{a b:Addr}{vs:List Value}{out:Array Value}{o:Obj}(c:b≠a)(e:h.get? b=some o):(agA h a vs out).get? b=some o:=by unfold agA;rw[acu _ _ c.symm];exact aaf _ (aaf _ ((acu _ _ c.symm).trans e))
theorem Dy {x:Value}{ns:List Int}{Q:Value->aac->Prop}(v:ns.length<64)
  (u:∀(A':aaL) (E':Value->aac->Prop) (Q':List Value->aac->Prop),A'.handled=A.handled->(∀(h':Heap) (tk:Nat) (vs:List Value),(∀b o,s.heap.get? b=some o->h'.get? b=some o)->s.heap.objs.size<=h'.objs.size->acL vs ns->Q' vs { s with heap:=h',toks:=tk })->wpAny (model prog w) A' (ac2 x) Q' E' s)
  (h:∀(h':Heap) (tk L c:Nat) (out:Array Value),(∀b o,s.heap.get? b=some o->h'.get? b=some o)->s.heap.objs.size<=L->h'.get? L=some (afb "list" out c)->acL out.toList (acH ns)->Q (.ref L) { s with heap:=h',toks:=tk }):
  wpAny (model prog w) A (call (.builtin "sorted") [x]) Q E s:=by
 refine Calls.call_function_entry kind_sorted plain_sorted entry_sorted (args_sorted1 _) ?_;unfold ab5.«sorted»;refine aaa (m:=checkCount "sorted" 1 1 _) (aad ?_);refine aaa (u _ _ _ rfl λa r vs k n i=>?_);have p:vs.length<64:=by rw[i.length];exact v
 refine aaa (wpAny_newList ?_ (by rw[ac0];omega));have d:(a.push (afb "list" vs.toArray 0)).get? a.objs.size=some (afb "list" vs.toArray 0):=aaq _ rfl;refine aaa (aaW (aa6 slot_list_sort ⟨_,d,rfl⟩ entry_list_sort (list_sort_tree d i p λout l a1 a2 j=>⟨_,rfl,?_⟩) (args_list_sort _)));have e:=afO a2 j;subst e;obtain⟨c,u⟩:=F4 (out:=out) d;refine aad ⟨_,rfl,h _ _ a.objs.size c out (λb o q=>?_) n u a1⟩;have f:=k b o q;exact Dx (aaH (aas f)) (aaf _ f)
end
end PyProof.Rows
namespace SJ
open PyProof.Rows SW
theorem iD.at {h h':Heap}{a:Addr}{led:Bool}{ks:List Int}(e:iD h a led ks)(k:∀o,h.get? a=some o->h'.get? a=some o):iD h' a led ks:=by obtain⟨b,d,P,l,c,r⟩:=e;exact⟨b,d,P,l,k _ c,r⟩
def bH (val:Nat->Int):Nat->List Int
 | 0=>[]|i+1=>jW (bH val i) (val i)
theorem rj (val : Nat -> Int) {i : Nat}: ∀ {n : Nat}, i <= n -> (bH val i).length <= (bH val n).length
 | 0, h => by have : i = 0 := by omega
              subst this; exact aal _
 |n + 1, h => by
   by_cases e : i = n + 1
   . subst e; exact aal _
   . refine aa0 (rj val (n := n) (by omega)) ?_
     show _ <= (jW _ _).length;unfold jW;split <;> simp
section
variable {prog:aaG}{w:World}{A:aaL}{R:Result->aac->Prop}{I:Addr}{fp wr:List Addr}{G:Array afE->Array afE->Prop}{n:Nat}{P:Nat->Value->Prop}{St:Nat->aac->Prop}
theorem Dz (W:WalksS prog w A.in1 I fp wr G n P St)(S:Addr)(B:S ∉ fp)(led:Bool)(val:Nat->Int)(E:∀i v,P i v->∃t,v = .int (val i) t)(H:(bH val n).length<=4)(C:∀i,i<n->0<=val i/\val i<=7):
  ∀(k i:Nat) (s:aac),n-i=k->i<=n->St i s->iD s.heap S led (bH val i) ->
    (∀s',Moved (S::wr) G s s'->iD s'.heap S led (bH val n)->R (.ok (.ret .none)) s') ->
    adO (model prog w) A (.builtin "set.update.loop" ⟨[.ref S,.ref I],[]⟩) R s:=by
 have q:S ∉ wr:=λh=>B (W.sub _ h);have p:∀b∈wr,b∈S::wr:=λb a=>aau _ a;intro k;induction k with
 |zero =>
  intro i s hk hi d f j;have cF:i=n:=by omega
  subst cF;refine acC F.entry_set_update_loop ?_;rw[aci F.plain_set_update_loop _];show wpAny _ A.in1 (adq (.ref I) >>= _) _ _ s;refine aaa (W.done s _ _ d λs' hm=>?_);exact aad (j s' (hm.mono p) (f.at λo e=>hm.heap S _ q e))
 |succ k ih =>
  intro i s hk hi d f j;have c:i<n:=by omega
  refine acC F.entry_set_update_loop ?_;rw[aci F.plain_set_update_loop _];show wpAny _ A.in1 (adq (.ref I) >>= _) _ _ s;refine aaa (W.item i s _ _ c d λv s' r z hm=>?_);obtain⟨t,rfl⟩:=E i v r;have y:iD s'.heap S led (bH val i):=f.at λo e=>hm.heap S _ q e;show wpAny _ A.in1 (ac1 [ae1 (val i) t] (setAdd S (.int (val i) t)) >>= _) _ _ s';refine aaa (aaW ?_);unfold setAdd;refine aaW ?_;refine aaa ((adN prog w).pyHash (k:=val i) (intKind_is _ _ _ _) ?_);have hr:(bH val i).length<=3\/val i∈bH val i:=by
    by_cases hm:val i∈bH val i
    . exact .inr hm
    . have h1:=rj val (i:=i+1) c
      have h2:(bH val (i+1)).length=(bH val i).length+1:=by show(jW _ _).length=_;unfold jW;rw[if_neg hm];simp
      exact .inl (by omega)
  refine Jh (s:={ s' with toks:=s'.toks+1 }) y hr (C i c) λb h' l u=>?_;refine aad ⟨adL F.plain_set_update_loop _,ih (i+1) _ (by omega) c (W.frame _ s' _ _ z (agb _) λb a o e=>?_) u λvm Wb x=>?_⟩
  . rw[l.2 b (λh:b=S=>B (by rw[<- h];exact a))];exact e
  . refine j vm (Moved.trans W.gtrans ((hm.mono p).then_heap (agb _) λb o a e=>?_) Wb) x
    rw[l.2 b (λh:b=S=>a (by rw[h];exact aaC))];exact e
end
section
variable {prog:aaG}{w:World}{A:aaL}{E:Value->aac->Prop}{s:aac}
theorem We {h:Heap}{a:Addr}{led:Bool}(e:h.get? a=some (emp led)):iD h a led []:=
 ⟨#[],0,tb [] led,[],e,⟨rfl,rfl,rfl,ahc,by intro j b;simp[tb]at b,rfl,by decide⟩,rfl,aia _,rfl,by intro j b;simp[tb]at b⟩
theorem Wf {a:Addr}{ks:List Int}(B:iD s.heap a (!w.params.followText "set-order") ks):∃es ep t ord ok ms,s.heap.get? a=some (iw es ep t)/\Way prog w a es ep t ord ok/\(w.params.followText "set-order" = true\/t.plain=true)/\es.size<=18/\acL ord ms/\ms.Perm ks:=by
 obtain⟨es,ep,t,l,n,T,o,y,r,_⟩:=B;have hf:t.fits es.size=true:=T.fits;have u:es.size<=18:=aa0 T.n4 (by decide)
 have q:(es.toList.map (·.2)).Perm (l.map λp=>(nD p).2):=by
  have:=y.map (·.2)
  rwa[ad0]at this
 have io:∀l:List (Int×Nat),acL (l.map λp=>(nD p).2) (l.map (·.1)):=by
  intro l;induction l with
  |nil=>exact .nil|cons p l ih=>exact .cons _ _ ih
 cases hb:w.params.followText "set-order" with
 |true =>
  obtain⟨ms,b,d⟩:=tP (((tL (w.params.setOrder a ep) es).map (·.2)).trans q) (io l)
  exact⟨es,ep,t,_,_,ms,n,Vo hf hb,.inl rfl,u,b,by rw[<- r];exact d⟩
 |false =>
  rw[hb]at o;obtain⟨ms,b,d⟩:=tP q (io l);have f:=T.ri;have v:∀i j,t.place[i]? = some j->aaF t.place (j+1)=i+1:=by
   intro i j e;obtain⟨x,e⟩:=acR.mp e;obtain⟨a1,a2,k⟩:=mf f (j+1);have b:¬aaF t.place (j+1)<=i:=λh=>by have:=k i x h;omega
   have d:¬i+1<aaF t.place (j+1):=λh=>by
    have c:i+1<t.place.size:=by omega
    have q1:=a2 (i+1) c h;have q2:=qD f c (adC i);omega
   omega
  have z:aaF t.place 0=0:=by
   obtain⟨a1,a2,k⟩:=mf f 0;refine afy λh=>?_;have c:0<t.place.size:=by omega
   have:=a2 0 c (by omega);omega
  exact⟨es,ep,t,_,_,ms,n,Vp hf hb o T.pl T.sz z v,.inr T.pl,u,b,by rw[<- r];exact d⟩
theorem yk {a:Addr}{ks:List Int}{Q:Value->aac->Prop}(hh:A.handled=none)(B:iD s.heap a (!w.params.followText "set-order") ks)
  (h:∀(h':Heap) (tk L c:Nat) (out:Array Value),(∀b o,s.heap.get? b=some o->h'.get? b=some o)->s.heap.objs.size<=L->h'.get? L=some (afb "list" out c)->acL out.toList (acH ks)->Q (.ref L) { s with heap:=h',toks:=tk }):
  wpAny (model prog w) A (call (.builtin "sorted") [.ref a]) Q E s:=by
 obtain⟨l,v,t,ord,ok,ms,e,W,hd,x,d,u⟩:=Wf (prog:=prog) B;have r:acH ms=acH ks:=by refine afO ((afc ms).trans u) ?_;exact PySem.W.sortI_rises ms
 have n:l.size<=aax:=by rw[ac0];omega
 refine Dy (ns:=ms) (by rw[<- d.length,W.len];omega) (λz E' y q k=>?_) (by rw[r];exact h);exact ye W (by rw[q];exact hh) e hd n λi p j f=>k i p _ f (adp j) d
end
section
variable {prog:aaG}{w:World}{A:aaL}{E:Value->aac->Prop}{s:aac}
set_option maxHeartbeats 3200000 in
theorem call_set_list {l:Addr}{items:Array Value}{val:Nat->Int}{Q:Value->aac->Prop}(hh:A.handled=none)(I:s.heap.IsList l items)(C:∀(i:Nat) (v:Value),items[i]? = some v->∃t,v=ae1 (val i) t)(B:(bH val items.size).length<=4)(H:∀i,i<items.size->0<=val i/\val i<=7)
  (h:∀(h':Heap) (tk:Nat),iD h' s.heap.objs.size (!w.params.followText "set-order") (bH val items.size)->(∀b o,b<s.heap.objs.size->s.heap.get? b=some o->h'.get? b=some o)->Q (.ref s.heap.objs.size) { s with heap:=h',toks:=tk }):
  wpAny (model prog w) A (call (.type "set") [.ref l]) Q E s:=by
 generalize rT:(!w.params.followText "set-order")=led at *;obtain⟨c,tl,aC⟩:=F.called_set.mro;have ar:=F.called_set.made;have Aj:=F.called_set.sub;refine agq (codeAny_of_tree ?_);show wpAny _ _ (callAny (.type "set") _) _ _ _;refine aad ⟨Code.quiet_builtin _ (by decide +kernel),acC F.entry_type_call ?_⟩;rw[Around.under_plain (weight_type_call_type "set" [.ref l] []) rfl];have h1:=F.called_set.notType;have h2:=F.called_set.canCreate;have ae:=F.typeCall_set_1 (.ref l);repeat (any_goals (first|assumption|wp_step))
 refine ads (Ji (.ref l) (E:=E) (Q₁:=λobj p=>obj = .ref s.heap.objs.size/\p={ s with heap:=s.heap.push (emp led) }) ⟨rfl,by rw[rT]⟩) λr p f=>?_;cases r with
 |error e=>exact f
 |ok fl =>
  cases fl with
  |ret obj =>
   obtain⟨rfl,rfl⟩:=f;have u:(s.heap.push (emp led)).get? s.heap.objs.size=some (emp led):=aaq _ rfl;have hT:aiQ { s with heap:=s.heap.push (emp led) } (.ref s.heap.objs.size) "set":=⟨_,u,rfl⟩
   have ax:=F.called_set.init.lookup;have ah:=F.called_set.init.bind (.ref s.heap.objs.size);repeat (any_goals (first|assumption|wp_step))
   refine ads (codeAny_call_builtin (R:=wants (λr n=>r = .none /\ ∃h' tk,n={ s with heap:=h',toks:=tk }/\iD h' s.heap.objs.size led (bH val items.size) /\
      (∀b o,b<s.heap.objs.size->s.heap.get? b=some o->h'.get? b=some o)) E) F.called_set.init.plain F.entry_set_init (check_set_init_1 hT ?_)) λr₂ n a=>?_
   . obtain⟨ol,x,y,nl,q⟩:=I
     obtain⟨ai,Rh,au,Oo⟩:=ol;simp only at y q;subst y;subst q;have Wh:(s.heap.push (emp led)).get? l=some { cls:=.type "list",dict:=Rh,data:=.seq items nl,slots:=Oo }:=aaf _ x;have aS:=F.sub_list_set;have ab:=F.sub_list_frozenset;have eL:(abg "list" == abg "dict")=false:=by decide
     have j:(s.heap.push (emp led)).IsList l items:=⟨_,Wh,rfl,nl,rfl⟩
     unfold ab5.«set.__init__» noKeywords aii;generalize Z_:agf=PI
     wp_walk
     subst Z_;refine ad_ j ?_;refine aaa (wpAny_runValue ?_);have k:l<s.heap.objs.size:=aas x;have d:A.in1.in1.in1.handled=none:=by simp[hh]
     have Wi:l≠(s.heap.push (emp led)).objs.size:=by rw[ab_];exact aaH (abX k)
     have yF:s.heap.objs.size ∉ [(s.heap.push (emp led)).objs.size,l]:=by rw[ab_];simp only[aah,ae8,aaw,or_false,not_or];exact⟨aaH (adC _),aeB k⟩
     refine Dz ((Walks.list d _ l Wi items).toS) s.heap.objs.size yF led val C B H (items.size-0) 0 _ (by omega) (aaR _) ⟨⟨_,aaq _ rfl,rfl,rfl⟩,(j.push _)⟩ ?hS0 ?hR
     case hS0=>exact We (aaf _ u)
     case hR =>
      intro s' hm yG;obtain⟨h',g',d',tN,BM⟩:=s';have eg:g'=s.gens:=hm.gens;have z:d'=s.drawn:=hm.drawn;have eo:BM=s.os:=hm.os;subst eg;subst z;subst eo;show wpAny _ _ _ _ _ _;refine aad ?_;show wpAny _ _ (ret acg) _ _ _;have ht:∀b o,b<s.heap.objs.size->s.heap.get? b=some o->h'.get? b=some o:=λb o B e=>by
       have q1:b≠s.heap.objs.size:=aaH B;have q2:b≠(s.heap.push (emp led)).objs.size:=by rw[ab_];exact aaH (abX B)
       exact hm.heap b o (by simp only[aah,aaw,or_false,not_or];exact⟨q1,q2⟩) (aaf _ (aaf _ e))
      exact aad ⟨rfl,h',tN,rfl,yG,ht⟩
   . cases r₂ with
     |error e=>exact a
     |ok fl₂ =>
      cases fl₂ with
      |ret r =>
       obtain⟨rfl,h',tk,rfl,gL,eA⟩:=a;repeat (any_goals (first|assumption|wp_step))
       exact h _ _ gL eA
      |_=>exact a.elim
  |_=>exact f.elim
end
end SJ
namespace L3
open PyProof.Rows L2 SJ
def xl (a:FE):FE:=λσ g=>(a σ g).bind λr=>(hU r.1 r.2).bind λxs=>(fF xs).bind λns=>if decide ((bH (λi=>ns.getD i 0) ns.length).length<=4 /\ ∀i,i<ns.length->0<=ns.getD i 0/\ns.getD i 0<=7)=true then some (.lst ((acH (bH (λi=>ns.getD i 0) ns.length)).map .int),r.2)else none
section
variable {X:Cx}
theorem Oq {e:Expr}{N:FE}{R C P B:Pos}(hh:X.A.handled=none)(K:X.mg "sorted" = none)(E:X.mg "set" = none)(S:DE X e N)(J:Gl X "sorted")(T:Gl X "set")
   (O:aay [Expr.Call (.Name "set" C) [e] [] B] X.env=(false,eval (.Call (.Name "set" C) [e] [] B) X.env)::aay [] X.env) (M:aay [e] X.env=(false,eval e X.env)::aay [] X.env):
   DE X (.Call (.Name "sorted" R) [.Call (.Name "set" C) [e] [] B] [] P) (xl N):=.of (by
 intro b0 s σ H Q I h;obtain⟨ι,σd,g,d,g',G0,S0,h,p⟩:=h;obtain⟨⟨d1,g1⟩,h1,h⟩:=bind_some h;obtain⟨xs,hx,h⟩:=bind_some h;obtain⟨ns,hn,h⟩:=bind_some h;dsimp only at hx h;split at h
 . rename_i k
   cases h;rw[decide_eq_true_eq]at k;obtain⟨k,h7⟩:=k;have arg:=(fV S.un jS M) B b0 s σ H (λvs H1=>∃f a us,vs = [.ref a]/\cS X.kw H1 a us/\ag X.kw H1 f xs us/\Ext H ι H1 f/\aw X.kw H1 f g') I (tD.bind G0 S0 h1 λH1 f v y j S1 r1=>by obtain⟨a,us,rfl,hq,x⟩:=j8 j r1 hx;exact⟨f,a,us,rfl,hq,x,y,j⟩)
   refine ab4 (gX I J K (u:=.builtin "sorted") rfl ?_ (by decide) (by decide));refine aeD ?_ O rfl;rw[O];show wpAny _ _ (spliced ((false,eval (.Call (.Name "set" C) [e] [] B) X.env)::acm P (aay [] X.env))) _ _ s;refine ae4 ?_;refine ab4 (gX I T E (u:=.type "set") rfl ?_ (by decide) (by decide));refine ab2 (aY arg λpI s1 q1=>?_) M rfl;obtain⟨vs,H1,r,rv,f,a,us,rfl,hq,x,y,j⟩:=q1;obtain⟨u,rfl,ru⟩:=rv.one;cases ru;obtain⟨l,cU,pl,hz⟩:=r.list hq;have hA:=nK hn x cU;have ab:l.length=ns.length:=by obtain⟨ps,rfl,rfl⟩:=mr hA;simp
   have ir:l.toArray.size=ns.length:=by rw[aar];exact ab
   refine SJ.call_set_list (items:=l.toArray) (val:=λi=>ns.getD i 0) hh pl.isList (λi v hv=>aiq (by simpa using hA:acL l.toArray.toList ns) i v (by rw[aet];exact hv)) (by rw[ir];exact k) (by rw[ir];exact h7) λh2 T7 z k2=>?_;rw[ir]at z;refine aha ?_;have kk:∀b o,s1.heap.get? b=some o->h2.get? b=some o:=λb o q=>k2 b o (aas q) q;have I2:Inv X b0 σ H1 { s1 with heap:=h2,toks:=T7 }:=r.kept kk;refine SJ.yk (s:={ s1 with heap:=h2,toks:=T7 }) hh z λh3 ae L c out k3 hL hc hO=>?_;have T9:s1.heap.objs.size<=L:=by obtain⟨_,_,_,_,ha,_⟩:=z;exact aa0 (adp (aas ha)) hL
   have n:=r.aU.fresh T9;have Sn:((acH (bH (λi=>ns.getD i 0) ns.length)).map V.int).length<=aax:=by rw[aaI,(afc _).length_eq];exact aa0 k (by decide)
   refine⟨.ref L,_,r.laid (t':=ae) (λb o q=>k3 b o (kk b o q)) T9 (show dj X.prog X.w _ _ _ (.lst ((acH (bH (λi=>ns.getD i 0) ns.length)).map V.int)) from⟨Sn,out.toList,c,iY hO,by simpa[afb]using hc⟩),rfl,p _ _ _ (y.trans (Ext.lay n)) (j.lay n) ?_⟩;simp only[Rel];exact⟨_,_,rfl,.inl ⟨.inl aR,j.fresh n,j.gZ n⟩,qQ _⟩
 . cases h)
end
@[simp] theorem Kl {a:FE}{σ:Sg}{g:G}:xl a σ g=(a σ g).bind λr=>(hU r.1 r.2).bind λxs=>(fF xs).bind λns=>if decide ((bH (λi=>ns.getD i 0) ns.length).length<=4 /\ ∀i,i<ns.length->0<=ns.getD i 0/\ns.getD i 0<=7)=true then some (.lst ((acH (bH (λi=>ns.getD i 0) ns.length)).map .int),r.2)else none:=rfl
end L3
namespace RI
open PyProof.Rows L2 L3
noncomputable def u6 (x:Expr):Option (Str×Expr):=match x with
 |.Call f as ks _=>(match f with
  |.Name t _=>(match as with
   | []=>none|a::r=>if r.isEmpty&&ks.isEmpty then some (t,a)else none)
  |_=>none)
 |_=>none
theorem xm {x a:Expr}{t:Str}(h:u6 x=some (t,a)):∃p pos,x = .Call (.Name t p) [a] [] pos:=by
 cases x with
 |Call f as ks pos =>
  cases f with
  |Name t' p =>
   cases as with
   |nil=>cases h
   |cons b r =>
    simp only[u6]at h;split at h
    . rename_i c
      rw[aae,aep,aep]at c;cases h;obtain⟨rfl,rfl⟩:=c;exact⟨_,_,rfl⟩
    . cases h
  |_=>cases h
 |_=>cases h
def DC (m:G0)(c:Cs)(t r:Str)(x:Expr):Option Expr:=(u6 x).bind λy=>(u6 y.2).bind λz=>if y.1 == t&&z.1 == r&&c.sc.names.lookup y.1 == some .globalImplicit&&c.sc.names.lookup z.1 == some .globalImplicit&&m.ja.elem y.1&&m.ja.elem z.1 && !(isStar z.2)then some z.2 else none
theorem DD {m:G0}{c:Cs}{t r:Str}{x a:Expr}(h:DC m c t r x=some a):∃p p2 pos mI,x = .Call (.Name t p) [.Call (.Name r p2) [a] [] mI] [] pos/\c.sc.names.lookup t=some .globalImplicit/\c.sc.names.lookup r=some .globalImplicit/\t∈m.ja/\r∈m.ja/\isStar a=false:=by
 obtain⟨⟨s,y⟩,f,j⟩:=bind_some h;obtain⟨⟨q,z⟩,e,b⟩:=bind_some j;dsimp only at b e;obtain⟨p,pos,rfl⟩:=xm f;obtain⟨p2,mI,rfl⟩:=xm e;split at b
 . rename_i d
   simp only[aae,beq_iff_eq,aaV]at d;obtain⟨⟨⟨⟨⟨⟨rfl,rfl⟩,k⟩,l⟩,n⟩,i⟩,o⟩:=d;cases b;exact⟨_,_,_,_,rfl,k,l,ab9.mp n,ab9.mp i,o⟩
 . cases b
def Ov:kS where
 e:=λm c E _ x=>(DC m c "sorted" "set" x).map λa=>xl (E a)
 t7:=by intro m c X E g b r x f h;obtain⟨a,d,rfl⟩:=aak.mp h;obtain⟨p,o,pos,q,rfl,i,n,j,k,l⟩:=DD d;exact Oq g.rm.hd (g.bl _ j) (g.bl _ k) (b a) (g.gl i) (g.gl n) rfl (bh l)
 t:=xh
 tok:=by intro m c X E g b x f h;cases h
def Ri:kS where
 e:=λm c E _ x=>match x with
  |.List [] _=>if c.mt.elem (aaD "[]")then some (aM mkRef aj)else none|_=>none
 t7:=by
  intro m c X E g a b x f h;split at h
  . split at h
    . cases h
      exact vK (e_ a [])
    . cases h
  . cases h
 t:=xh
 tok:=by intro m c X E g a x f h;cases h
noncomputable def Ow:Expr->Option (List Expr)
 |.List es _=>some es|_=>none
theorem DF {e:Expr}{es:List Expr}(h:Ow e=some es):∃p,e = .List es p:=by
 cases e with
 |List a p=>cases h;exact⟨p,rfl⟩|_=>exact nn h
noncomputable def T_:Expr->Option (Expr×Expr)
 |.BinOp a op b _=>if op = .Mult then some (a,b)else none|_=>none
theorem Ox {e a b:Expr}(h:T_ e=some (a,b)):∃p,e = .BinOp a .Mult b p:=by
 cases e with
 |BinOp a op b p =>
  cases op with
  |Mult=>cases h;exact⟨p,rfl⟩|_=>exact nn h
 |_=>exact nn h
def Oy (E:Expr->FE)(v:Expr):FE:=match Ow v with
 |some a=>aM mkRef (aE E a)
 |none=>match(T_ v).bind λq=>(Ow q.1).map λa=>(a,q.2)with
  |some q=>ak gh (aM bQ (aE E q.1)) (E q.2)|none=>E v
theorem Oz {X:Cx}{E:Expr->FE}(j:∀e,DE X e (E e))(v:Expr):DE X v (Oy E v):=by
 unfold Oy;split
 . rename_i c h
   obtain⟨p,rfl⟩:=DF h;exact vK (e_ j _)
 . split
   . rename_i q h
     obtain⟨⟨a,b⟩,d,h⟩:=bind_some h;obtain⟨c,f,rfl⟩:=aak.mp h;obtain⟨p,rfl⟩:=Ox d;obtain⟨i,rfl⟩:=DF f;exact jy zf (Cc (e_ j _)) (j _)
   . exact j _
def xn (E:Expr->FE):List (Option Expr)->List Expr->List (FE×FE)
 |some k::ks,v::vs=>(E k,Oy E v)::xn E ks vs|_,_=>[]
theorem zz {X:Cx}{E:Expr->FE}(a:∀e,DE X e (E e)):∀(ks:List (Option Expr)) (vs:List Expr),ks.all (·.isSome)=true->ks.length=vs.length->f_ X ks vs (xn E ks vs)
 | [],[],_,_=>trivial| [],_::_,_,h=>by simp at h|_::_,[],_,h=>by simp at h|none::_,_::_,h,_=>by simp at h|some k::ks,v::vs,h,hl=>And.intro (a k) (And.intro (Oz a v) (zz a ks vs (by simpa using h) (by simpa using hl)))
def OA:kS where
 e:=λm c E _ x=>match x with
  |.Dict (k::b) vals _=>if(k::b).all (·.isSome)&&decide ((k::b).length=vals.length)&&decide ((k::b).length<=15)then some (nO (xn E (k::b) vals))else none|_=>none
 t7:=by
  intro m c X E g d i x f h;split at h
  . rename_i k b vals pos
    split at h
    . rename_i a
      rw[aae,aae,decide_eq_true_eq,decide_eq_true_eq]at a;cases h;exact Fy g.hu (zz d _ _ a.1.1 a.1.2) a.1.1 a.1.2 (by simp) a.2
    . cases h
  . cases h
 t:=xh
 tok:=by intro m c X E g d x f h;cases h
noncomputable def HZ:Expr->Option (Const×Nat×Pos)
 |.Constant v k p=>some (v,k,p)|_=>none
theorem DH {e:Expr}{v:Const}{k:Nat}{p:Pos}(h:HZ e=some (v,k,p)):e = .Constant v k p:=by
 cases e with
 |Constant=>cases h;rfl|_=>exact nn h
noncomputable def OB:Expr->Option (ady×Expr×Scope×Pos)
 |.Lambda a b s p=>some (a,b,s,p)|_=>none
theorem OC {e b:Expr}{a:ady}{s:Scope}{p:Pos}(h:OB e=some (a,b,s,p)):e = .Lambda a b s p:=by
 cases e with
 |Lambda=>cases h;rfl|_=>exact nn h
noncomputable def Rj:Expr->Bool
 |e=>(OB e).isSome
theorem xo {b:Type}[DecidableEq b]{x y:Option b}(h:(x.isSome&&decide (x=y))=true):∃z,x=some z/\y=some z:=by simp only[aae,decide_eq_true_eq]at h;obtain⟨z,a⟩:=adU.mp h.1;exact⟨z,a,h.2 ▸ a⟩
noncomputable def A6 (f:Expr->Expr->Bool):List Expr->List Expr->Bool
 | [],bs=>bs.isEmpty|a::as,bs=>(bs.head?.map λb=>f a b&&A6 f as bs.tail).getD false
theorem Km {f:Expr->Expr->Bool}(h:∀a b,f a b=true->a=b):∀{as bs:List Expr},A6 f as bs=true->as=bs:=fun {as}=>by
 induction as with
 |nil=>intro bs q;cases bs with
  |nil=>rfl|cons=>cases q
 |cons a as ih=>intro bs q;cases bs with
  |nil=>cases q
  |cons b bs =>
   have q:(f a b&&A6 f as bs)=true:=q;rw[aae]at q;rw[h a b q.1,ih q.2]
def zA:Nat->Expr->Expr->Bool
 | 0,_,_=>false
 |n+1,a,b=>((zj a).isSome&&decide (zj a=zj b))||((HZ a).isSome&&decide (HZ a=HZ b)) ||
  ((HI a).bind λx=>(HI b).map λy=>zA n x.1 y.1&&zA n x.2.1 y.2.1&&decide (x.2.2=y.2.2)).getD false ||
  ((C7 a).bind λx=>(C7 b).map λy=>zA n x.1 y.1&&A6 (zA n) x.2.1 y.2.1&&decide (x.2.2=y.2.2)).getD false
theorem gD {a b:Type}{x:Option a}{y:Option b}{f:a->b->Bool}(h:(x.bind λu=>y.map λv=>f u v).getD false=true):∃u v,x=some u/\y=some v/\f u v=true:=by
 cases x with
 |none=>cases h
 |some u=>cases y with
  |none=>cases h|some v=>exact⟨u,v,rfl,rfl,h⟩
theorem OD:∀(n:Nat) (a b:Expr),zA n a b=true->a=b:=λn=>by
 induction n with
 |zero=>intro a b h;cases h
 |succ n ih =>
  intro a b h;rcases aeP.mp h with h|h
  . rcases aeP.mp h with h|h
    . rcases aeP.mp h with h|h
      . obtain⟨z,c,d⟩:=xo h
        exact(qY c).trans (qY d).symm
      . obtain⟨z,c,d⟩:=xo h
        exact(DH c).trans (DH d).symm
    . obtain⟨⟨e,l,i⟩,⟨f,k,j⟩,c,d,h⟩:=gD h
      simp only[aae,decide_eq_true_eq]at h;rw[wX c,wX d,ih _ _ h.1.1,ih _ _ h.1.2,h.2]
  . obtain⟨⟨e,l,i⟩,⟨f,k,j⟩,c,d,h⟩:=gD h
    simp only[aae,decide_eq_true_eq]at h;rw[qZ c,qZ d,ih _ _ h.1.1,Km ih h.1.2,h.2]
noncomputable def H0:List Arg->Option (List (Str×Pos))
 | []=>some []|a::as=>if a.annotation.isSome then none else(H0 as).map ((a.arg,a.pos):: ·)
theorem OE:∀{as:List Arg} {l:List (Str×Pos)},H0 as=some l->as=l.map λq=>⟨q.1,none,q.2⟩:=fun {as}=>by
 induction as with
 |nil=>intro l h;cases h;rfl
 |cons a as ih =>
  intro l h;obtain⟨x,an,p⟩:=a;cases an with
  |some=>exact nn h
  |none =>
   obtain⟨c,b,rfl⟩:=aak.mp (show(H0 as).map ((x,p):: ·)=some l from h)
   rw[ih b];rfl
noncomputable def DJ (a:ady):Option (List (Str×Pos)):=if a.posonlyargs.isEmpty&&a.vararg.isNone&&a.kwonlyargs.isEmpty&&a.kw_defaults.isEmpty&&a.kwarg.isNone&&a.defaults.isEmpty then H0 a.args else none
theorem DL {a:ady}{l:List (Str×Pos)}(h:DJ a=some l):a=⟨[],l.map λq=>⟨q.1,none,q.2⟩,none,[],[],none,[]⟩:=by
 obtain⟨p,as,v,k,b,kw,d⟩:=a;unfold DJ at h;split at h
 . rename_i z
   simp only[aae,aep,Option.isNone_iff_eq_none]at z;obtain⟨⟨⟨⟨⟨rfl,rfl⟩,rfl⟩,rfl⟩,rfl⟩,rfl⟩:=z;rw[<- OE h]
 . cases h
noncomputable def OF (a b:ady):Bool:=(DJ a).isSome&&decide (DJ a=DJ b)
theorem Kn {a b:ady}(h:OF a b=true):a=b:=by obtain⟨z,d,c⟩:=xo h;exact(DL d).trans (DL c).symm
noncomputable def A7 (N:List Str):List Str->Option (List Nat)
 | []=>some []|y::ys=>(km N y).bind λi=>(A7 N ys).map (i :: ·)
theorem zB {N:List Str}:∀{ys:List Str} {is:List Nat},A7 N ys=some is->C4 N is ys
 | [],is,h=>by cases h;exact⟨rfl,λj i y a _=>by simp at a⟩
 |y::ys,is,h=>by
  unfold A7 at h;obtain⟨i,d,h⟩:=bind_some h;obtain⟨f,c,rfl⟩:=aak.mp h;obtain⟨e,k⟩:=zB c;refine⟨by simp[e],λj n l a b=>?_⟩;cases j with
  |zero=>simp at a b;subst a b;exact fP d|succ j=>exact k j n l (by simpa using a) (by simpa using b)
def aL (E:Expr->FE)(q:Pos×Str×dS)(is:List Nat):List Expr->Option FA
 | []=>some aj
 |e::es=>match OB e with
  |some (ar,bd,sc,p)=>if decide (p=q.1)&&OF ar q.2.2.ar&&zA 9 bd q.2.2.bd&&decide (sc=q.2.2.sc)then(aL E q is es).map (af (sx q.2.1 is))else none|none=>if isStar e then none else(aL E q is es).map (af (E e))
theorem A8 {X:Cx}{E:Expr->FE}(r:∀e,DE X e (E e)){p:Pos}{x:Str}{l:dS}(L:uW X p x l){is:List Nat}(s:C4 X.N is l.fv):∀{es:List Expr} {f:FA},aL E (p,x,l) is es=some f->wM X es f
 | [],f,h=>by cases h;exact J0
 |e::es,f,h=>by
  rw[aL]at h;split at h
  . rename_i o bd sc q d
    obtain rfl:=OC d;split at h
    . rename_i z
      simp only[aae,decide_eq_true_eq]at z;obtain⟨⟨⟨j,b⟩,n⟩,i⟩:=z;obtain⟨k,a,rfl⟩:=aak.mp h;subst j;have:=Kn b;subst this;have:=OD _ _ _ n;subst this;subst i;exact J2 L s (A8 r L s a)
    . cases h
  . split at h
    . cases h
    . rename_i c
      obtain⟨k,a,rfl⟩:=aak.mp h;exact FJ (r _) (A8 r L s a) (bh (by simpa using c))
def Wj:kS where
 e:=λm c E _ x=>(cV x).bind λy=>if iH y.1||y.2.any isStar || !(y.2.any Rj) || !c.all || !(decide (c.sc.names.lookup y.1=some .globalImplicit))then none else c.lam.bind λq=>(m.fns.lookup y.1).bind λj=>(A7 c.N q.2.2.fv).bind λis=>(aL E q is y.2).map λfr=>aq (jE (m.T j.1)) fr
 t7:=by
  intro m c X E g r rf x f h;obtain⟨⟨y,as⟩,hv,d⟩:=bind_some h;obtain⟨p,pos,rfl⟩:=uY hv;dsimp only at d;split at d
  . cases d
  . rename_i o
    simp only[aa4,not_or,acx,aaV,afp,decide_eq_true_eq]at o;obtain⟨⟨⟨⟨u,k⟩,h3⟩,h4⟩,h5⟩:=o;obtain⟨⟨p',x',l⟩,hq,s⟩:=bind_some d;obtain⟨⟨i,n⟩,hf,k2⟩:=bind_some s;obtain⟨is,hi,v⟩:=bind_some k2;obtain⟨fr,pC,rfl⟩:=aak.mp v;obtain⟨o1,o2,_⟩:=nZ u;cases as with
    |nil=>cases h3
    |cons a as =>
     rw[abG,abl]at k;obtain⟨fa,fd,ps,ok,hm,kp,b,ln⟩:=g.fn y i n (lookup_mem hf);have z:C4 X.N is l.fv:=by rw[g.hN];exact zB hi
     exact FK ok g.rm hm kp b ln (g.al h4) (A8 r (g.lh _ _ _ hq) z pC) (g.gl h5) o1 (bh k.1) (gM k.2)
 t:=xh
 tok:=by intro m c X E g r x f h;cases h
noncomputable def OG:Nat->Expr->Option Expr
 |_,.Lambda a b s p=>some (.Lambda a b s p)|n+1,.Call _ as _ _=>as.findSome? (OG n)|_,_=>none
noncomputable def zD:Nat->Stmt->Option Expr
 |n+1,.FunctionDef _ _ b _ _ _ _ _ _ _=>b.findSome? (zD n)|n+1,.If _ b o _=>(b.findSome? (zD n)).or (o.findSome? (zD n))|n+1,.For _ _ b _ _=>b.findSome? (zD n)|n,.Assign _ v _=>OG n v|n,.Return (some v) _=>OG n v|_,_=>none
def A9 (nm:Str)(c:Stmt):dS:=match zD 9 c with
 |some (.Lambda a b s _)=>⟨a,b,s,nm ++ ".<locals>." ++ "<lambda>",mC s,a.args.map (·.arg)⟩|_=>⟨⟨[],[],none,[],[],none,[]⟩,.Constant .none 0 ⟨0,0,0,0⟩,⟨.function,[],false,false,[]⟩,"",[],[]⟩
noncomputable def OH (a:Stmt):Pos:=match zD 9 a with
 |some (.Lambda _ _ _ p)=>p|_=>⟨0,0,0,0⟩
end RI
namespace K21
open PyProof.Rows L2 L3 RI
noncomputable def top (i:Nat):Stmt:=afP.main.body.getD i (.Pass ⟨0,0,0,0⟩)
noncomputable def md (nm:Str)(ps e:List Str)(i:Nat)(d:Bool:=false)(a:List Str:=[])(b:Bool:=false)(c:Str:=nm):bK:=⟨nm,ps,ps++e,top i,d,a,b,c,none,none⟩
noncomputable def mm (nm:Str)(ps c:List Str)(i:Nat)(x:Str)(b:Str:=nm)(a:List Str:=[]):bK:=⟨nm,ps,ps++c,top i,false,a,false,b,none,some (OH (top i),x)⟩
def ml (nm x:Str)(i:Nat):bK:=⟨"<lambda>",(A9 nm (top i)).fv++(A9 nm (top i)).ps,[],top i,false,[],false,x,some (A9 nm (top i)),none⟩
noncomputable def Wk:=md "number_of" ["manner","name"] [] 2
noncomputable def Wn:=md "hands_of" ["manner"] [] 3
noncomputable def Wo:=md "last_round" ["stride","span","moves","reads","moved_in"] ["seen","start","moved","hand","often"] 8 false ["seen","*seen"]
noncomputable def Wq:=md "write_step" ["writes","reads"] [] 10
noncomputable def Wr:=md "toggle_of" ["manner","deed","ahead"] [] 11
noncomputable def Wt:=md "others_of" ["manner","hand"] [] 20
noncomputable def Wu:=md "shaken_by" ["manner","hand"] [] 21
noncomputable def Wv:=md "shake_step" ["sources","targets","answer","reads"] ["place"] 22
noncomputable def Ww:=md "turned" ["bit"] [] 23
noncomputable def Wx:=mm "signs_look" ["manner","hand","reads"] ["hands","span","ending","used","second"] 34 "signs_look.lambda"
noncomputable def Rk:=mm "round_step" ["manner","hand","reads"] ["others","sources","targets"] 35 "round_step_signs.lambda" "round_step_signs"
noncomputable def Rl:=md "moved_in" ["manner","hand","reads"] ["hands","first","second","moved","place","other","sign"] 37 false ["moved"] false "moved_in_signs"
noncomputable def Rm:=md "signs_put" ["manner","hand","deed","ahead","reads"] ["others","rest","look","calls","content"] 39
noncomputable def Rn:=md "calls_of" ["hands","others","reads"] ["calls","other","sign"] 40 false ["calls"]
noncomputable def Ro:=md "next_step" ["manner","hand","deed","ahead","reads"] [] 45
noncomputable def Rp:=md "put_step" ["manner","hand","deed","ahead","reads"] ["word"] 47
noncomputable def Rq:=md "_law_hand" ["_law_script","_law_k"] ["_law_cell"] 50 true
noncomputable def Rt:=md "_law_take" ["_law_hand_here","_law_many"] ["_law_digit","_law_turn","_law_mixed","_law_other"] 51 false ["_law_hand_here"]
noncomputable def Ru:=md "_law_pick" ["_law_hand_here","_law_some"] [] 52
noncomputable def Rv:=md "_law_value" ["_law_hand_here"] ["_law_way"] 53
noncomputable def Rw:=md "_law_world" ["_law_hand_here","_law_boxes","_law_changes"] [] 54 true
noncomputable def Rx:=md "_law_see" ["_law_world_here","_law_box"] [] 55 false ["_law_world_here"]
noncomputable def Ry:=md "_law_set" ["_law_world_here","_law_box","_law_content_here"] [] 56
noncomputable def Rz:=md "_law_collect" ["_law_world_here","_law_name","_law_many"] ["_law_found","_law_j"] 57 false ["_law_found"]
noncomputable def RA:=md "_law_follows" ["_law_manner","_law_own","_law_deed","_law_ahead_here","_law_world_here","_law_due"] ["_law_reads","_law_step","_law_content_here","_law_found"] 58
noncomputable def RB:=md "_law_ahead" ["_law_hand_here","_law_many"] [] 59
noncomputable def RC:=md "_law_hands" ["_law_hand_here"] [] 60
noncomputable def RE:=md "_law_bits" ["_law_hand_here","_law_many"] [] 61
noncomputable def RF:=md "_law_state" ["_law_hand_here","_law_many"] [] 62
noncomputable def RG:=md "_law_content" ["_law_hand_here","_law_hands_here"] [] 63
noncomputable def RH:=md "_law_other_content" ["_law_world_here","_law_box"] ["_law_hand_here","_law_hands_here","_law_value_here","_law_calls","_law_toggle","_law_view"] 64
noncomputable def RJ:=md "_law_round" ["_law_world_here","_law_own","_law_manner"] ["_law_word","_law_hands_here","_law_toggles","_law_shakes","_law_moves","_law_signs","_law_j","_law_first","_law_second","_law_moved","_law_turned","_law_calls"] 65 false ["_law_signs","*_law_signs"]
noncomputable def RK:=md "_law_look" ["_law_world_here","_law_own","_law_manner"] ["_law_seen","_law_second","_law_moved","_law_j"] 66 false ["_law_seen"]
noncomputable def RL:=md "_law_begin" ["_law_hand_here","_law_manner","_law_own"] ["_law_hands_here","_law_boxes","_law_i","_law_j","_law_world_here"] 67 true ["_law_world_here","_law_boxes","=moving","*_law_boxes"]
noncomputable def RM:=md "_law_signs_manner" ["_law_hand_here"] ["_law_bits_here"] 68
noncomputable def RN:=md "law" ["_law_script"] ["_law_n","_law_hand_here","_law_manner","_law_hands_here","_law_own","_law_ahead_here","_law_world_here","_law_calls","_law_j","_law_view","_law_toggle","_law_value_here"] 69 false ["_law_calls"]
def RO:=ml "signs_look" "signs_look.lambda" 34
def RP:=ml "round_step" "round_step_signs.lambda" 35
def ds:List bK:=[Wk,Wn,Wo,Wq,Wr,Wt,Wu,Wv,Ww,Wx,Rk,Rl,Rm,Rn,Ro,Rp,Rq,Rt,Ru,Rv,Rw,Rx,Ry,Rz,RA,RB,RC,RE,RF,RG,RH,RJ,RK,RL,RM,RN,RO,RP]
noncomputable def lj:List (Str×D):=[("once",.tup [.str "hands"]),("twice",.tup [.str "hands",.str "turn"]),("handed",.tup [.str "hands",.str "turn",.str "moves"]),("signs",.tup [.str "hands",.str "toggles",.str "shakes",.str "moves"]),("shared",.tup [.str "hands",.str "places",.str "toggles",.str "shakes",.str "moves"]),("tables",.tup [.str "hands",.str "boxes"])]
def pk:Pk:=⟨[V7,Rb,V8,N8,HY],[N8,HY],[FY,F3,Rc],[Ke,N9],[Wj,V9,Rf,Ov,OA,Ri,Ol]⟩
def mo:Mo:=⟨ds,["len","min","int","tuple","sorted","dict","set","range","enumerate","zip","isinstance"],[],[("NUMBERS",lj)],pk,1000000⟩
end K21
namespace L3
open PyProof.Rows L2 RI
section
variable {σ:Sg}{g:G}{fa fb fo fi:FE}{fr:FA}
@[simp] theorem Yk {xs:List D}{d:D}:av (.tup xs) d g=cz (.tup xs) d g:=rfl
@[simp] theorem Ko {xs:List D}{d:D}:av (.lst xs) d g=cz (.lst xs) d g:=rfl
@[simp] theorem Yl {n:Nat}{d:D}:av (.ref n) d g=cz (.ref n) d g:=rfl
@[simp] theorem Ym {n:Nat}{d:D}:av (.aC n) d g=(g[n]?).bind λxs=>if aW 6 d=true then(aK xs d).map λd=>(d,g)else none:=rfl
@[simp] theorem Wy {n:Nat}{i v:D}:kh (.ref n) i v g=putD (.ref n) i v g:=rfl
@[simp] theorem F5 {n:Nat}{i v:D}:kh (.aC n) i v g=(g[n]?).bind λxs=>if(aW 6 i&&iz xs)=true then some (g.set n (aP xs i v))else none:=rfl
@[simp] theorem Yn {v:D}:el fo fi v σ g=(fo σ g).bind λr=>(fi σ r.2).bind λq=>(kh r.1 q.1 v q.2).map λg'=>(σ,g'):=rfl
@[simp] theorem Yo {a:D->Bool}{m:D->List D->G->Option (D×G)}:eZ a m fo fr σ g=(fo σ g).bind λr=>if a r.1=true then(fr σ r.2).bind λq=>m r.1 q.1 q.2 else none:=rfl
@[simp] theorem Wz:oJ σ g=some (.aC g.length,g ++ [[]]):=rfl
@[simp] theorem Yp {n:Nat}:jD (.aC n)=true:=rfl
@[simp] theorem Yq {n:Nat}:isRef (.ref n)=true:=rfl
@[simp] theorem abw {n:Nat}{k:D}:ki (.aC n) [k] g=(g[n]?).bind λxs=>if aW 6 k=true then some ((aK xs k).getD .ax,g)else none:=rfl
@[simp] theorem abx {n:Nat}{k x:D}:ki (.aC n) [k,x] g=(g[n]?).bind λxs=>if aW 6 k=true then some ((aK xs k).getD x,g)else none:=rfl
@[simp] theorem aby {n:Nat}{x:D}:dR (.ref n) [x] g=(g[n]?).bind λxs=>if az (xs.length+1)=true then some (.ax,g.set n (xs ++ [x]))else none:=rfl
@[simp] theorem Yr {n:Nat}{i:Int}:aW n (.int i)=true:=by cases n<;>rfl
@[simp] theorem Ys {n:Nat}{d:D}:nM d (.aC n) g=(g[n]?).bind λxs=>if aW 6 d=true then some (aK xs d).isSome else none:=rfl
@[simp] theorem Yt {d e:D}:wA d e g=(nM d e g).map λb=>(.bl b,g):=rfl
@[simp] theorem RQ {d e:D}:si d e g=(nM d e g).map λb=>(.bl (!b),g):=rfl
@[simp] theorem WA:isFn .ax=false:=rfl
@[simp] theorem Yu {b:Bool}:isFn (.bl b)=false:=rfl
@[simp] theorem WB {b:Int}:isFn (.int b)=false:=rfl
@[simp] theorem WC {b:Str}:isFn (.str b)=false:=rfl
@[simp] theorem WD {b:List D}:isFn (.tup b)=false:=rfl
@[simp] theorem WE {b:List D}:isFn (.lst b)=false:=rfl
@[simp] theorem WG:isFn .dn=false:=rfl
@[simp] theorem WH {b:Nat}:isFn (.ref b)=false:=rfl
@[simp] theorem WI {b:Nat}:isFn (.aC b)=false:=rfl
end
end L3
namespace Pd
open L3 L2
def u7:FS:=ay (aD (fC (.int 0)) (gN 2)) (ay (cy (aH (ak oLt (aa 1) (aq cK (af (aa 0) (aj))))) (aD (ak av (aa 0) (aa 1)) (gN 2)) (bb)) (aO (aM mkRef (af (ak dI (aa 2) (aq jk (af (ak Cw (aa 2) (ak (bS jB (λi j=>i ^ j.toNat)) (fC (.int 10)) (fC (.int 18)))) (aj)))) (af (ak bI (ak bI (ak (bS cp (· % ·)) (aa 2) (fC (.int 2305843009213693951))) (ak dI (fC (.int 7919)) (aa 1))) (fC (.int 3))) (af (fC (.int 0)) (aj)))))))
def u9:FS:=ay (cy (aH (ak wa (ak av (aa 0) (fC (.int 0))) (fC (.int 0)))) (ay (aD (ak (bS cp (· % ·)) (ak av (aa 0) (fC (.int 0))) (aa 1)) (gN 2)) (ay (aD (ak (bS eX (· / ·)) (ak av (aa 0) (fC (.int 0))) (aa 1)) (el (aa 0) (fC (.int 0)))) (aO (aa 2)))) (bb)) (ay (aD (ak bI (ak av (aa 0) (fC (.int 2))) (fC (.int 1))) (el (aa 0) (fC (.int 2)))) (ay (aD (ak av (aa 0) (fC (.int 2))) (gN 3)) (ay (aD (ak (bS cp (· % ·)) (ak dI (ak av (aa 0) (fC (.int 1))) (ak bI (ak bI (fC (.int 48271)) (ak dI (ak dI (fC (.int 2)) (aa 3)) (aa 3))) (ak dI (fC (.int 65537)) (aa 3)))) (fC (.int 2305843009213693921))) (gN 4)) (ay (aD (ak bI (ak bI (ak (bS cp (· % ·)) (aa 4) (fC (.int 1000003))) (ak dI (aa 3) (fC (.int 99991)))) (fC (.int 11))) (gN 5)) (ay (aD (ak (bS cp (· % ·)) (ak dI (aa 4) (aa 5)) (fC (.int 2305843009213693907))) (gN 4)) (aO (ak (bS cp (· % ·)) (ak bI (ak (bS eX (· / ·)) (aa 4) (fC (.int 97))) (ak (bS eX (· / ·)) (aa 4) (fC (.int 1000033)))) (aa 1))))))))
def A_ (take:Fn):FS:=aO (ak av (aa 1) (aq take (af (aa 0) (af (aq cK (af (aa 1) (aj))) (aj)))))
mutual
noncomputable def nf:D->Bool
 |.fn _ _=>false|.tup xs=>Ua xs|_=>true
noncomputable def Ua:List D->Bool
 | []=>true|d::ds=>nf d&&Ua ds
end
theorem lQ {i j:Int}(b:-(2 ^ 64)<i)(a:i<2 ^ 64):cI i j=true:=by unfold cI;rw[aa4];exact .inl (acz (by omega))
theorem lR {i j:Int}(b:-(2 ^ 64)<j)(a:j<2 ^ 64):cI i j=true:=by unfold cI;rw[aa4];exact .inr (acz (by omega))
theorem mJ {i j:Int}(b:0<j)(a:j<1073741824):eX i j=true:=by unfold eX;rw[aae];exact⟨acz (by omega),acz (by omega)⟩
theorem fg {i j:Int}(a:0<j):cp i j=true:=acz (by omega)
def Hd (g:G)(n:Nat)(B:Int):Prop:=∃a b c:Int,g[n]? = some [.int a,.int b,.int c]/\0<=a/\0<=b/\b<2 ^ 62/\0<=c/\c<=B
theorem Hd.mono {g n B B'}(h:Hd g n B)(d:B<=B'):Hd g n B':=let⟨a,b,c,h1,h2,h3,h4,h5,h6⟩:=h;⟨a,b,c,h1,h2,h3,h4,h5,by omega⟩
theorem Hd.lt {g n B}(h:Hd g n B):n<g.length:=let⟨_,_,_,h1,_⟩:=h;(aab.mp h1).1
def Fr (n:Nat)(g g':G):Prop:=g'.length=g.length /\ ∀j,j≠n->g'[j]? = g[j]?
theorem Fr.refl {n g}:Fr n g g:=⟨rfl,λ_ _=>rfl⟩
theorem Fr.trans {n g g1 g2}(a:Fr n g g1)(b:Fr n g1 g2):Fr n g g2:=⟨b.1.trans a.1,λj h=>(b.2 j h).trans (a.2 j h)⟩
theorem Fr.set {n:Nat}{g:G}{xs:List D}:Fr n g (g.set n xs):=⟨by simp,λj h=>by rw[aam (aaN h)]⟩
theorem ud {a b c:D}:bJ [a,b,c] 0=some a:=rfl
theorem m7 {a b c:D}:bJ [a,b,c] 1=some b:=rfl
theorem at2 {a b c:D}:bJ [a,b,c] 2=some c:=rfl
theorem WJ {g:G}{n:Nat}{a b c v:D}(h:g[n]? = some [a,b,c]):putD (.ref n) (.int 0) v g=some (g.set n [v,b,c]):=by unfold putD;simp only[h];rfl
theorem put2 {g:G}{n:Nat}{a b c v:D}(h:g[n]? = some [a,b,c]):putD (.ref n) (.int 2) v g=some (g.set n [a,b,v]):=by unfold putD;simp only[h];rfl
def dY (f:Fn):Prop:=∀(n:Nat) (m:Int) (g:G) (B:Int),B<2 ^ 40->0<m->m<1073741824->Hd g n B ->
 ∃r g',f [.ref n,.int m] g=some (.int r,g')/\0<=r/\r<m/\Hd g' n (B+1)/\Fr n g g'
theorem Kp:dY (ao false 6 2 u9):=λn m g B hB hm p h=>by
 obtain⟨a,b,c,d,f,j,l,q,ab⟩:=h;have k:n<g.length:=(aab.mp d).1;by_cases h0:0<a
 . refine⟨a % m,g.set n [.int (a / m),.int b,.int c],bL (σ':=[some (.ref n),some (.int m),some (.int (a % m)),none,none,none]) rfl ?_ (by simp),aeK _ (by omega),ad1 _ hm,⟨a / m,b,c,by simp[k],Int.ediv_nonneg f (by omega),j,l,q,by omega⟩,Fr.set⟩
   simp[u9,d,ud,h0,fg hm,mJ hm p,WJ d]
 . have i:(g.set n [.int a,.int b,.int (c+1)])[n]? = some [.int a,.int b,.int (c+1)]:=by simp[k]
   generalize e:b*(48271+2*(c+1)*(c+1)+65537*(c+1)) % 2305843009213693921=x;have ae:0<=x:=by rw[<- e];exact aeK _ (by decide)
   have Uc:x<2305843009213693921:=by rw[<- e];exact ad1 _ (by decide)
   generalize s:x*(x % 1000003+(c+1)*99991+11) % 2305843009213693907=y;refine⟨(y / 97+y / 1000033) % m,g.set n [.int a,.int b,.int (c+1)],bL (σ':=[some (.ref n),some (.int m),none,some (.int (c+1)),some (.int y),some (.int (x % 1000003+(c+1)*99991+11))]) rfl ?_ (by simp),aeK _ (by omega),ad1 _ hm,⟨a,b,c+1,i,f,j,l,by omega,by omega⟩,Fr.set⟩;have m1:cI 2 (c+1)=true:=lQ (by decide) (by decide);have z:cI (2*(c+1)) (c+1)=true:=lR (by omega) (by omega);have r:cI 65537 (c+1)=true:=lQ (by decide) (by decide);have m4:cI b (48271+2*(c+1)*(c+1)+65537*(c+1))=true:=lQ (by omega) (by omega);have m5:cI (c+1) 99991=true:=lR (by decide) (by decide);have m6:cI x (x % 1000003+(c+1)*99991+11)=true:=lQ (by omega) (by omega);have u:cp (b*(48271+2*(c+1)*(c+1)+65537*(c+1))) 2305843009213693921=true:=fg (by decide);have o:cp x 1000003=true:=fg (by decide);have d3:cp (x*(x % 1000003+(c+1)*99991+11)) 2305843009213693907=true:=fg (by decide);have d4:cp (y / 97+y / 1000033) m=true:=fg hm;have v:eX y 97=true:=mJ (by decide) (by decide);have q2:eX y 1000033=true:=mJ (by decide) (by decide);simp[u9,d,ud,m7,at2,h0,put2 d,i,m1,z,r,m4,m5,m6,u,o,d3,d4,v,q2,e,s]
theorem dY.w {f:Fn}(h:dY f){n:Nat}{m:Int}{g:G}{B:Int}{Q:D×G->Prop}(j:B<2 ^ 40)(i:0<m)(k:m<1073741824)(hh:Hd g n B)(q:∀r g',0<=r->r<m->Hd g' n (B+1)->Fr n g g'->Q (.int r,g')):wp (f [.ref n,.int m] g) Q:=by obtain⟨r,g',e,a,c,d,b⟩:=h n m g B j i k hh;exact⟨_,e,q r g' a c d b⟩
def jf (f:Fn):Prop:=∀(n:Nat) (xs:List D) (g:G) (B:Int),B<2 ^ 40->xs ≠ []->xs.length<1000->Hd g n B ->
 ∃d g',f [.ref n,.lst xs] g=some (d,g')/\d∈xs/\Hd g' n (B+1)/\Fr n g g'
theorem Kq {t:Fn}(q:dY t):jf (ao false 2 2 (A_ t)):=λn xs g B l j p h=>by
 have o:0<xs.length:=List.length_pos_iff.mpr j;obtain⟨r,k,e,d,i,c,a⟩:=q n (xs.length:Int) g B l (by omega) (by omega) h;have b:r.toNat<xs.length:=by omega
 have f:bJ xs r=some xs[r.toNat]:=by unfold bJ iu;rw[if_pos d,if_pos i];exact aag b
 refine⟨xs[r.toNat],k,bL (σ':=[some (.ref n),some (.lst xs)]) rfl ?_ a.1,abc b,c,a⟩;simp[A_,e,f]
theorem jf.w {f:Fn}(h:jf f){n:Nat}{xs:List D}{g:G}{B:Int}{Q:D×G->Prop}(i:B<2 ^ 40)(j:xs ≠ [])(k:xs.length<1000)(hh:Hd g n B)(q:∀d g',d∈xs->Hd g' n (B+1)->Fr n g g'->Q (d,g')):wp (f [.ref n,.lst xs] g) Q:=by obtain⟨d,g',e,a,c,b⟩:=h n xs g B i j k hh;exact⟨_,e,q d g' a c b⟩
theorem Ud:jB 10 18=true:=by decide
theorem p12:jB 10 12=true:=by decide
def rA (f:Fn):Prop:=∀(ns:List Int) (i:Nat) (g:G),i<=100->∃xs,f [.lst (ns.map .int),.int i] g=some (.ref g.length,g ++ [xs])/\Hd (g ++ [xs]) g.length 0
section
variable {σ σ1:Sg}{g g1:G}{f:FE}{f1 f2:FS}{c:FT}{d:D}
theorem jg (h:f1 σ g=some (.nx,σ1,g1)):ay f1 f2 σ g=f2 σ1 g1:=by rw[oF,h];rfl
theorem xp (h:f1 σ g=some (.rt d,σ1,g1)):ay f1 f2 σ g=some (.rt d,σ1,g1):=by rw[oF,h];rfl
theorem ic {i:Nat}(h:f σ g=some (d,g1)):aD f (gN i) σ g=some (.nx,σ.set i (some d),g1):=by rw[yR,h];rfl
theorem lq (h:c σ g=some (true,g1)):cy c f1 f2 σ g=f1 σ g1:=by rw[wc,h];rfl
theorem ie (h:c σ g=some (false,g1)):cy c f1 f2 σ g=f2 σ g1:=by rw[wc,h];rfl
theorem sH (h:f σ g=some (d,g1)):aO f σ g=some (.rt d,σ,g1):=by rw[jK,h];rfl
end
theorem aJ {n:Nat}(h:n<=1000):az n=true:=by rw[JI];exact decide_eq_true (by omega)
theorem Kr:rA (ao true 3 2 u7):=λns i g l=>by
 have fin:∀cell:Int,∃xs,(aO (aM mkRef (af (ak dI (aa 2) (aq jk (af (ak Cw (aa 2) (ak (bS jB (λi j=>i ^ j.toNat)) (fC (.int 10)) (fC (.int 18)))) (aj)))) (af (ak bI (ak bI (ak (bS cp (· % ·)) (aa 2) (fC (.int 2305843009213693951))) (ak dI (fC (.int 7919)) (aa 1))) (fC (.int 3))) (af (fC (.int 0)) (aj)))))) [some (.lst (ns.map .int)),some (.int i),some (.int cell)] g=some (.rt (.ref g.length),[some (.lst (ns.map .int)),some (.int i),some (.int cell)],g ++ [xs])/\Hd (g ++ [xs]) g.length 0:=by
   intro cell;have o:0<=cell % 2305843009213693951:=aeK _ (by decide);have n:cell % 2305843009213693951<2305843009213693951:=ad1 _ (by decide);have f:cp cell 2305843009213693951=true:=fg (by decide);have c:cI 7919 (i:Int)=true:=lQ (by decide) (by decide);by_cases hc:1000000000000000000<=cell
   . have a:cI cell 1=true:=lR (by decide) (by decide)
     refine⟨[.int cell,.int (cell % 2305843009213693951+7919*i+3),.int 0],by simp[Ud,hc,a,c,f],?_⟩;exact⟨cell,cell % 2305843009213693951+7919*i+3,0,by simp,by omega,by omega,by omega,by omega,by omega⟩
   . have a:cI cell 0=true:=lR (by decide) (by decide)
     refine⟨[.int 0,.int (cell % 2305843009213693951+7919*i+3),.int 0],by simp[Ud,hc,a,c,f],?_⟩;exact⟨0,cell % 2305843009213693951+7919*i+3,0,by simp,by omega,by omega,by omega,by omega,by omega⟩
 by_cases h:i<ns.length
 . obtain⟨xs,e,b⟩:=fin ns[i]
   refine⟨xs,yS (σ':=[some (.lst (ns.map .int)),some (.int i),some (.int ns[i])]) rfl ?_,b⟩;unfold u7;refine(jg (ic (d:=.int 0) (g1:=g) rfl)).trans ?_;refine(jg (σ1:=[some (.lst (ns.map .int)),some (.int i),some (.int ns[i])]) (g1:=g) ((lq (g1:=g) ?_).trans (ic ?_))).trans e
   . have:(i:Int)<(ns.length:Int):=by omega
     simp[this]
   . have k:bJ (ns.map D.int) (i:Int)=some (.int ns[i]):=fW (by simp[h])
     simp[k]
 . obtain⟨xs,e,b⟩:=fin 0
   refine⟨xs,yS (σ':=[some (.lst (ns.map .int)),some (.int i),some (.int 0)]) rfl ?_,b⟩;unfold u7;refine(jg (ic (d:=.int 0) (g1:=g) rfl)).trans ?_;refine(jg (σ1:=[some (.lst (ns.map .int)),some (.int i),some (.int 0)]) (g1:=g) ((ie (g1:=g) ?_).trans rfl)).trans e;have:¬(i:Int)<(ns.length:Int):=by omega
   simp[this]
theorem rA.w {f:Fn}(h:rA f){ns:List Int}{i:Nat}{g:G}{Q:D×G->Prop}(b:i<=100)(q:∀xs,Hd (g ++ [xs]) g.length 0->Q (.ref g.length,g ++ [xs])):wp (f [.lst (ns.map .int),.int i] g) Q:=by obtain⟨xs,e,a⟩:=h ns i g b;exact⟨_,e,q xs a⟩
noncomputable def gp (i:Int)(n:Nat):List D:=(aba n).map λ(k:Nat)=>D.int (i+k)
theorem bZ {i n}:(gp i n).length=n:=by simp[gp]
theorem iV {fr:FA}{σ:Sg}{g:G}{Q:List D×G->Prop}(h:wp (fr σ g) λr=>∃j:Int,r.1 = [.int j] /\ -1000000<=j/\j<=1000000/\Q (gp 0 j.toNat,r.2)):wp (eH fr σ g) Q:=by obtain⟨⟨ds,c⟩,e,j,rfl,a,b,q⟩:=h;refine⟨_,?_,q⟩;unfold eH;rw[e];simp only[aaj];rw[if_pos (d9.of a b)];rfl
theorem Ks {i:Int}{n j:Nat}{d:D}(h:(gp i n)[j]? = some d):j<n/\d = .int (i+j):=by
 unfold gp at h;rw[aaP]at h;cases hj:(aba n)[j]? with
 |none=>rw[hj]at h;cases h
 |some x =>
  rw[hj]at h;have a:=(aab.mp hj).1;have:x=j:=by rw[agJ (by simpa using a)]at hj;cases hj;rfl
  subst this;cases h;exact⟨by simpa using a,rfl⟩
theorem cZ {n j:Nat}{d:D}(h:(gp 0 n)[j]? = some d):j<n/\d = .int j:=by obtain⟨a,rfl⟩:=Ks h;exact⟨a,by simp⟩
theorem Kt {p o:Nat}{b:FS}{ds:List D}{g:G}{Q:D×G->Prop}(s:ds.length=o)(h:wp (b (ds.map some++aap (p-o) none) g) λr=>∃(k:Nat) (xs:List D),r.1 = .rt (.ref k)/\g.length<=k/\r.2.2[k]? = some xs/\aA g.length xs=true/\(r.2.2.take g.length).all (aA g.length)=true/\Q (.lst xs,r.2.2.take g.length)):wp (ao false p o b ds g) Q:=by
 obtain⟨⟨r,σ,c⟩,e,k,xs,rfl,l,a,f,j,q⟩:=h;dsimp only at *;unfold ao;rw[if_pos s,e];have n:k<c.length:=(aab.mp a).1;refine⟨_,?_,q⟩;have i:¬c.length=g.length:=by omega
 have d:¬k<g.length:=by omega
 simp only[aaj,aaz,if_false];unfold L3.settle;rw[if_neg i,if_pos j];dsimp only;rw[if_neg d,a];simp only[f,if_true]
theorem cR {n:Nat}:∀{xs:List D},(∀x∈xs,bB n x=true)->aA n xs=true
 | [],_=>rfl|x::xs,h=>by simp only[aA,aae];exact⟨h x (by simp),cR λy a=>h y (by simp[a])⟩
theorem iI {n:Nat}:∀{xs:List D},aA n xs=true->∀x∈xs,bB n x=true
 | [],_,x,hx=>by simp at hx
 |y::xs,h,x,hx=>by
  simp only[aA,aae]at h;rcases aah.mp hx with rfl|hx
  . exact h.1
  . exact iI h.2 x hx
theorem cP {n:Nat}{xs ys:List D}(h:aA n xs=true)(b:aA n ys=true):aA n (xs++ys)=true:=cR λx a=>by
 rcases aao.mp a with a|a
 . exact iI h x a
 . exact iI b x a
theorem xq {xs:List D}{n:Nat}{d:D}(h:xs[n]? = some d):bJ xs (n:Int)=some d:=by
 have c:=(aab.mp h).1;have b:(0:Int)<=n:=by omega
 have a:(n:Int)<(xs.length:Int):=by omega
 unfold bJ iu;rw[if_pos b,if_pos a];simpa using h
theorem ints_map:∀vs:List Int,fF (vs.map .int)=some vs
 | []=>rfl|v::vs=>by simp[fF,ints_map vs]
theorem DM {g:G}{p:Nat}{xs:List D}{i:Nat}{v:D}(h:g[p]? = some xs)(b:i<xs.length):putD (.ref p) (.int i) v g=some (g.set p (xs.set i v)):=by
 have a:iu xs.length (i:Int)=some i:=by unfold iu;rw[if_pos (by omega),if_pos (by omega)];simp
 unfold putD;simp only[h,a]
end Pd
namespace Wd
open L3 L2 RI
open Pd
def xt:FS:=aO (nO [(fC (.str "hand"),aa 0),(fC (.str "boxes"),aa 1),(fC (.str "left"),aa 2),(fC (.str "steps"),aM mkRef aj),(fC (.str "reads"),aM mkRef aj)])
def F6 (take other:Fn):FS:=ay (cy (jZ (aH (ak wa (ak av (aa 0) (fC (.str "left"))) (fC (.int 0)))) (jZ (aH (ak wA (aa 1) (ak av (aa 0) (fC (.str "moving"))))) (aH (ak oEq (aq take (af (ak av (aa 0) (fC (.str "hand"))) (af (fC (.int 3)) aj))) (fC (.int 0)))))) (ay (aD (ak (bS eu (· - ·)) (ak av (aa 0) (fC (.str "left"))) (fC (.int 1))) (el (aa 0) (fC (.str "left")))) (aD (aq other (af (aa 0) (af (aa 1) aj))) (el (ak av (aa 0) (fC (.str "boxes"))) (aa 1)))) bb) (ay (eI (eZ isRef dR (ak av (aa 0) (fC (.str "steps"))) (af (aM aI (af (fC (.str "read")) (af (aa 1) aj))) aj))) (ay (eI (eZ isRef dR (ak av (aa 0) (fC (.str "reads"))) (af (ak av (ak av (aa 0) (fC (.str "boxes"))) (aa 1)) aj))) (aO (ak av (ak av (aa 0) (fC (.str "boxes"))) (aa 1)))))
def setB:FS:=ay (eI (eZ isRef dR (ak av (aa 0) (fC (.str "steps"))) (af (aM aI (af (fC (.str "write")) (af (aa 1) (af (aa 2) aj)))) aj))) (ay (eI (eZ isRef dR (ak av (aa 0) (fC (.str "reads"))) (af (fC .ax) aj))) (aD (aa 2) (el (ak av (aa 0) (fC (.str "boxes"))) (aa 1))))
def mK (see:Fn):FS:=ay (aD (aM mkRef aj) (gN 3)) (ay (dw (eH (af (aa 2) aj)) (gN 4) (eI (eZ isRef dR (aa 3) (af (aq see (af (aa 0) (af (aM aI (af (aa 1) (af (aa 4) aj))) aj))) aj)))) (aO (aa 3)))
def qd (a:Fn):FS:=ay (aD (aM aI aj) (gN 6)) (ay (oM (kQ (ak av (aa 4) (fC (.str "steps"))) (ak av (aa 4) (fC (.str "reads")))) (gT 2 (bR (gN 7) (bR (gN 8) g_))) (ay (cy (aH (ak bw (aq a (af (aa 0) (af (aa 1) (af (aa 2) (af (aa 3) (af (aa 6) aj)))))) (aa 7))) (aO (fC (.bl false))) bb) (aD (ak bI (aa 6) (aM aI (af (aa 8) aj))) (gN 6)))) (ay (aD (aq a (af (aa 0) (af (aa 1) (af (aa 2) (af (aa 3) (af (aa 6) aj)))))) (gN 9)) (aO (jz (Ax .tuple (aa 9)) (jz (ak oEq (aa 9) (aM aI (af (fC (.str "told")) (af (aa 5) aj)))) (ak oEq (aq a (af (aa 0) (af (aa 1) (af (aa 2) (af (aa 3) (af (aa 6) aj)))))) (aa 9)))))))
def rB (a:Fn):FS:=aO (aq jq (af (cH cg (eH (af (aa 1) aj)) [none,none,some 0] (gN 1) dZ (aq a (af (aa 2) (af (aM bQ (af (fC (.int 0)) (af (fC (.int 1)) (af (fC (.int 2)) (af (fC (.int 3)) (af (fC (.int 8)) (af (fC (.int 9)) (af (fC (.int 11)) aj)))))))) aj)))) aj))
def rC (take a:Fn):FS:=aO (aq a (af (aa 0) (af (aM bQ (af (fC (.int 1)) (af (fC (.int 2)) (af (fC (.int 2)) (af (fC (.int 3)) (af (fC (.int 3)) (af (fC (.int 2)) (af (fC (.int 3)) (af (ak bI (fC (.int 4)) (aq take (af (aa 0) (af (fC (.int 2)) aj)))) aj))))))))) aj)))
def u_ (take a:Fn):FS:=ay (aD (aq take (af (aa 0) (af (fC (.int 8)) aj))) (gN 1)) (ay (cy (aH (ak oEq (aa 1) (fC (.int 0)))) (aO (aM aI (af (aq take (af (aa 0) (af (fC (.int 5)) aj))) (af (aM aI (af (ak (bS eu (· - ·)) (aq take (af (aa 0) (af (fC (.int 3)) aj))) (fC (.int 1))) (af (aM aI aj) aj))) aj)))) bb) (ay (cy (aH (ak oEq (aa 1) (fC (.int 1)))) (aO (aq a (af (aa 0) (af (aM bQ (af (qG mj (fC (.int 1))) (af (ak (bS eu (· - ·)) (ak (bS jB (λi j=>i ^ j.toNat)) (fC (.int 10)) (fC (.int 12))) (fC (.int 1))) (af (ak (bS eu (· - ·)) (fC (.int 1)) (ak (bS jB (λi j=>i ^ j.toNat)) (fC (.int 10)) (fC (.int 12)))) (af (aM aI aj) (af (aM aI (af (fC (.int 0)) aj)) aj)))))) aj)))) bb) (aO (aq take (af (aa 0) (af (fC (.int 7)) aj))))))
noncomputable def W0 (h b:Nat)(l:Int)(s r:Nat):List D:=[.str "hand",.ref h,.str "boxes",.aC b,.str "left",.int l,.str "steps",.ref s,.str "reads",.ref r]
section
variable {h b s r:Nat}{l:Int}{ex:List D}
theorem rD:aK (W0 h b l s r++ex) (.str "hand")=some (.ref h):=rfl
theorem oP:aK (W0 h b l s r++ex) (.str "boxes")=some (.aC b):=rfl
theorem rE:aK (W0 h b l s r++ex) (.str "left")=some (.int l):=rfl
theorem sI:aK (W0 h b l s r++ex) (.str "steps")=some (.ref s):=rfl
theorem sJ:aK (W0 h b l s r++ex) (.str "reads")=some (.ref r):=rfl
theorem qf:aK (W0 h b l s r++ex) (.str "moving")=aK ex (.str "moving"):=rfl
theorem zE:aK (W0 h b l s r++ex) (.str "hands")=aK ex (.str "hands"):=rfl
theorem OI {v:Int}:aP (W0 h b l s r++ex) (.str "left") (.int v)=W0 h b v s r++ex:=rfl
end
def sL (f:Fn):Prop:=∀h b l g,f [.ref h,.aC b,.int l] g=some (.aC g.length,g ++ [W0 h b l (g.length+1) (g.length+2),[],[]])
theorem mL {n:Nat}:∀(ps:List (D×D)) (g:G) (xs:List D),g[n]? = some xs->ps.all (λp=>aW 6 p.1)=true->xs.length+2*ps.length<=1000->putAll n ps g=some (g.set n (ps.foldl (λa p=>aP a p.1 p.2) xs))
 | [],g,xs,h,_,_=>by simp only[putAll,List.foldl_nil,acT];obtain⟨d,e⟩:=aab.mp h;rw[<- e,abP]
 |p::ps,g,xs,h,hk,hz=>by
  rw[adK,aae]at hk;simp only[abT]at hz;have f:iz xs=true:=by unfold iz;exact aJ (by omega)
  have d:=(aab.mp h).1;have hlen:(aP xs p.1 p.2).length<=xs.length+2:=by
   have:∀(k:Nat) (xs:List D),xs.length<=k->(aP xs p.1 p.2).length<=xs.length+2:=λk=>by
    induction k with
    |zero=>intro xs c;match xs,c with| [],_=>simp[aP]
    |succ k ih =>
     intro xs c;match xs,c with
     | [],_=>simp[aP]| [a],_=>simp[aP]
     |a::b::r,c =>
      simp only[aP];split
      . simp
      . have:=ih r (by simp at c;omega)
        simp;omega
   exact this _ xs (aal _)
  have ih:=mL ps (g.set n (aP xs p.1 p.2)) (aP xs p.1 p.2) (aav d) hk.2 (by omega);have e:kh (.aC n) p.1 p.2 g=some (g.set n (aP xs p.1 p.2)):=by simp only[F5,h,aaj,hk.1,f,ael,if_true]
  unfold putAll;rw[e,aaj,ih,adw];rfl
theorem F7:sL (ao true 3 3 xt):=λh b l g=>by
 have e:nO [(fC (.str "hand"),aa 0),(fC (.str "boxes"),aa 1),(fC (.str "left"),aa 2),(fC (.str "steps"),aM mkRef aj),(fC (.str "reads"),aM mkRef aj)] [some (.ref h),some (.aC b),some (.int l)] g=some (.aC g.length,g ++ [W0 h b l (g.length+1) (g.length+2),[],[]]):=by
  have c:sk [(fC (.str "hand"),aa 0),(fC (.str "boxes"),aa 1),(fC (.str "left"),aa 2),(fC (.str "steps"),aM mkRef aj),(fC (.str "reads"),aM mkRef aj)] [some (.ref h),some (.aC b),some (.int l)] (g ++ [[]])=some ([(.str "hand",.ref h),(.str "boxes",.aC b),(.str "left",.int l),(.str "steps",.ref (g.length+1)),(.str "reads",.ref (g.length+2))],g ++ [[],[],[]]):=by simp[sk,mkRef,az,aax]
  unfold nO;rw[c];simp only[aaj];rw[mL (xs:=[]) _ _ (by simp) (by rfl) (by simp)];have d:agt (λa (p:D×D)=>aP a p.1 p.2) [] [(.str "hand",.ref h),(.str "boxes",.aC b),(.str "left",.int l),(.str "steps",.ref (g.length+1)),(.str "reads",.ref (g.length+2))]=W0 h b l (g.length+1) (g.length+2):=rfl;rw[d];simp
 unfold ao xt;simp[jK,e]
def cv (cs:List Nat)(g g':G):Prop:=g'.length=g.length /\ ∀j,j ∉ cs->g'[j]? = g[j]?
theorem cv.refl {cs g}:cv cs g g:=⟨rfl,λ_ _=>rfl⟩
theorem cv.trans {cs g g1 g2}(a:cv cs g g1)(b:cv cs g1 g2):cv cs g g2:=⟨b.1.trans a.1,λj h=>(b.2 j h).trans (a.2 j h)⟩
theorem cv.of {n cs g g'}(h:Fr n g g')(m:n∈cs):cv cs g g':=⟨h.1,λj a=>h.2 j λe=>a (e ▸ m)⟩
theorem cv.set {n:Nat}{cs:List Nat}{g:G}{xs:List D}(m:n∈cs):cv cs g (g.set n xs):=.of Fr.set m
def c9:List D->Bool
 |k::_::r=>aW 6 k&&c9 r| []=>true|_=>false
theorem gO {k v:D}(c:aW 6 k=true):∀{xs:List D},c9 xs=true->aK (aP xs k v) k=some v
 | [],_=>by simp only[aP,aK];rw[if_pos ((DK.fu k k c c).mpr rfl)]| [_],h=>by cases h
 |a::b::r,h=>by
  simp only[c9,aae]at h;simp only[aP];by_cases e:aF a k=true
  . rw[if_pos e];simp only[aK];rw[if_pos e]
  . rw[if_neg e];simp only[aK];rw[if_neg e];exact gO c h.2
theorem gP {k f v:D}(i:aW 6 k=true)(j:aW 6 f=true)(n:k≠f):∀{xs:List D},c9 xs=true->aK (aP xs k v) f=aK xs f
 | [],_=>by simp only[aP,aK];rw[if_neg λz=>n ((DK.fu k f i j).mp z)]| [_],h=>by cases h
 |a::b::r,h=>by
  simp only[c9,aae]at h;simp only[aP];by_cases e:aF a k=true
  . have d:=(DK.fu a k h.1 i).mp e
    subst d;have c:¬aF a f=true:=λz=>n ((DK.fu a f i j).mp z);rw[if_pos e];simp only[aK];rw[if_neg c,if_neg c]
  . rw[if_neg e]
    simp only[aK];rw[gP i j n h.2]
theorem iJ {k v:D}(c:aW 6 k=true):∀{xs:List D},c9 xs=true->c9 (aP xs k v)=true
 | [],_=>by simp[aP,c9,c]| [_],h=>by cases h
 |a::b::r,h=>by
  simp only[c9,aae]at h;simp only[aP];split
  . simp[c9,h]
  . simp[c9,h,iJ c h.2]
theorem oQ {k v c:D}:∀{xs:List D},aK xs k=some c->(aP xs k v).length=xs.length
 | [],h=>by cases h| [_],h=>by cases h
 |a::b::r,h=>by
  simp only[aP,aK]at h ⊢;split
  . simp
  . rename_i e
    rw[if_neg e]at h;simp[oQ h]
section
variable {g g':G}{w h b s r:Nat}{l:Int}{ex bx st rd mv:List D}
theorem Hd.ne {B:Int}{n:Nat}{xs:List D}(f:Hd g h B)(i:n≠h):Hd (g.set n xs) h B:=by obtain⟨a,b,c,d,e⟩:=f;exact⟨a,b,c,by rw[aam i];exact d,e⟩
end
def qg (take other:Fn):FS:=(cy (jZ (aH (ak wa (ak av (aa 0) (fC (.str "left"))) (fC (.int 0)))) (jZ (aH (ak wA (aa 1) (ak av (aa 0) (fC (.str "moving"))))) (aH (ak oEq (aq take (af (ak av (aa 0) (fC (.str "hand"))) (af (fC (.int 3)) aj))) (fC (.int 0)))))) (ay (aD (ak (bS eu (· - ·)) (ak av (aa 0) (fC (.str "left"))) (fC (.int 1))) (el (aa 0) (fC (.str "left")))) (aD (aq other (af (aa 0) (af (aa 1) aj))) (el (ak av (aa 0) (fC (.str "boxes"))) (aa 1)))) bb)
def F8:FS:=(ay (eI (eZ isRef dR (ak av (aa 0) (fC (.str "steps"))) (af (aM aI (af (fC (.str "read")) (af (aa 1) aj))) aj))) (ay (eI (eZ isRef dR (ak av (aa 0) (fC (.str "reads"))) (af (ak av (ak av (aa 0) (fC (.str "boxes"))) (aa 1)) aj))) (aO (ak av (ak av (aa 0) (fC (.str "boxes"))) (aa 1)))))
theorem OJ {take other:Fn}:F6 take other=ay (qg take other) F8:=rfl
section
variable {g:G}{w h b s r:Nat}{l:Int}{ex bx st rd mv:List D}{key c:D}
theorem gm {x:Str}:aW 6 (.str x)=true:=rfl
end
theorem fR {n:Nat}{k v:D}(d:bB n k=true)(c:bB n v=true):∀{xs:List D},aA n xs=true->aA n (aP xs k v)=true
 | [],_=>by simp[aP,aA,d,c]| [_],_=>by simp[aP,aA,d,c]
 |a::b::r,h=>by
  simp only[aA,aae]at h;simp only[aP];split
  . simp[aA,h,c]
  . simp[aA,h,fR d c h.2.2]
mutual
theorem bX {n:Nat}:∀d:D,flat d=true->bB n d=true
 |.ax,_=>rfl|.bl _,_=>rfl|.int _,_=>rfl|.str _,_=>rfl|.tup xs,h=>by simp only[bB];exact cG xs (by simpa[flat]using h)|.lst xs,h=>by simp only[bB];exact cG xs (by simpa[flat]using h)|.dn,h=>by simp[flat]at h|.ref _,h=>by simp[flat]at h|.aC _,h=>by simp[flat]at h|.fn _ _,h=>by simp[flat]at h
theorem cG {n:Nat}:∀ds:List D,aQ ds=true->aA n ds=true
 | [],_=>rfl|d::ds,h=>by simp only[aQ,aae]at h;simp only[aA,bX d h.1,cG ds h.2,ael]
end
noncomputable def own (nm:Str)(j:Nat):D:=.tup [.str nm,.int j]
theorem gC {nm:Str}{j:Nat}:aW 6 (own nm j)=true:=rfl
theorem xu {nm:Str}{i j:Nat}(h:i≠j):own nm i≠own nm j:=λe=>by
 unfold own at e;injection e with e
 injection e with _ e
 injection e with e _
 injection e with e
 omega
def fI (nm:Str)(n:Nat):List D:=(aba n).map λj=>.tup [.str "read",own nm j]
theorem F9 {nm n}:fI nm (n+1)=fI nm n ++ [.tup [.str "read",own nm n]]:=by simp[fI,aeL]
theorem iK {nm n}:(fI nm n).length=n:=by simp[fI]
def oa (P:D->Prop)(nm:Str)(n:Nat)(a:List D):Prop:=∀i,i<n->∃c,aK a (own nm i)=some c/\P c
def Bd (g:G):Prop:=∀(i:Nat) xs,g[i]? = some xs->aA g.length xs=true
theorem cj {n m:Nat}(h:n<=m):∀{xs:List D},aA n xs=true->aA m xs=true:=by
 have main:∀d:D,bB n d=true->bB m d=true:=λd=>by
  refine D.rec (motive_1:=λd=>bB n d=true->bB m d=true) (motive_2:=λds=>aA n ds=true->aA m ds=true) ?_ ?_ ?_ ?_ ?_ ?_ ?_ ?_ ?_ ?_ ?_ ?_ d
  . intro h;rfl
  . intro b h;rfl
  . intro b h;rfl
  . intro b h;rfl
  . intro xs ih h;simpa[bB]using ih (by simpa[bB]using h)
  . intro xs ih h;simpa[bB]using ih (by simpa[bB]using h)
  . intro h;rfl
  . intro k h;simp only[bB,decide_eq_true_eq]at h ⊢;omega
  . intro k h;simp only[bB,decide_eq_true_eq]at h ⊢;omega
  . intro x xs ih h;simpa[bB]using ih (by simpa[bB]using h)
  . intro h;rfl
  . intro x xs a e h
    simp only[aA,aae]at h ⊢;exact⟨a h.1,e h.2⟩
 intro xs h;exact cR λx c=>main x (iI h x c)
theorem Hd.take {g:G}{h f:Nat}{B:Int}(i:Hd g h B)(hh:h<f):Hd (g.take f) h B:=by obtain⟨a,b,c,d,e⟩:=i;exact⟨a,b,c,by rw[aaK hh];exact d,e⟩
theorem oR {nm n m}:aA m (fI nm n)=true:=cR λx a=>by simp only[fI,aaQ]at a;obtain⟨j,_,rfl⟩:=a;rfl
structure DN (next:Fn)(m ow dd ah:D)(st rd:List D)(gy:D)(g:G):Prop where
 at_:∀i,i<rd.length->∃x,st[i]? = some x/\next [m,ow,dd,ah,.tup (rd.take i)] g=some (x,g)
 fin:next [m,ow,dd,ah,.tup rd] g=some (.tup [.str "told",gy],g)
theorem H4 {i j:Nat}{x y:D}{σ:Sg}{g:G}:gT 2 (bR (gN i) (bR (gN j) g_)) (.tup [x,y]) σ g=some ((σ.set i (some x)).set j (some y),g):=by simp
def vG (d:D):Prop:=flat d=true/\dep d<=3
def og (f:Fn):Prop:=∀n g B,B+3<2 ^ 40->Hd g n B->∃d g',f [.ref n] g=some (d,g')/\vG d/\Hd g' n (B+3)/\Fr n g g'
theorem Ku {take z:Fn}(A:dY take)(C:jf z):og (ao false 2 1 (u_ take z)):=λn g B y hd=>by
 have key:wp (ao false 2 1 (u_ take z) [.ref n] g) λq=>vG q.1/\Hd q.2 n (B+3)/\Fr n g q.2:=by
  refine wp_run rfl ?_;simp[u_];refine A.w (by omega) (by decide) (by decide) hd λr g1 b c h f1=>?_;simp;by_cases h0:r=0
  . subst h0
    simp;refine A.w (by omega) (by decide) (by decide) h λp g2 b c hd2 f2=>?_;simp;refine A.w (by omega) (by decide) (by decide) hd2 λx g3 b c j i=>?_;have l:az 2=true:=rfl;have f:az 0=true:=rfl;simp[l,f];exact⟨(f1.trans (f2.trans i)).1,⟨by simp[flat,aQ],by simp[dep,bp]⟩,j.mono (by omega),f1.trans (f2.trans i)⟩
  . by_cases a:r=1
    . subst a
      have u:az 5=true:=rfl;have f:az 0=true:=rfl;have s:az 1=true:=rfl;simp[u,f,s,p12];refine C.w (by omega) (by simp) (by simp) h λd g2 hm hd2 f2=>?_;refine⟨(f1.trans f2).1,?_,hd2.mono (by omega),f1.trans f2⟩;simp only[aah,aaw,or_false]at hm;rcases hm with rfl|rfl|rfl|rfl|rfl<;>exact⟨by simp[flat,aQ],by simp[dep,bp]⟩
    . simp[h0,a]
      refine A.w (by omega) (by decide) (by decide) h λp g2 b c hd2 f2=>?_;exact⟨(f1.trans f2).1,⟨by simp[flat],by simp[dep]⟩,hd2.mono (by omega),f1.trans f2⟩
 obtain⟨⟨d,k⟩,e,a,v,o⟩:=key;exact⟨d,k,e,a,v,o⟩
def zF (f:Fn):Prop:=∀n g B,B+2<2 ^ 40->Hd g n B->∃(k:Nat) (g':G),f [.ref n] g=some (.int k,g')/\1<=k/\k<=5/\Hd g' n (B+2)/\Fr n g g'
theorem F_ {take u:Fn}(v:dY take)(x:jf u):zF (ao false 1 1 (rC take u)):=λn g B s hd=>by
 have key:wp (ao false 1 1 (rC take u) [.ref n] g) λq=>∃k:Nat,q.1 = .int k/\1<=k/\k<=5/\Hd q.2 n (B+2)/\Fr n g q.2:=by
  refine wp_run rfl ?_;simp[rC];refine v.w (by omega) (by decide) (by decide) hd λr g1 o p f f1=>?_;have z:az 8=true:=rfl;simp[z];refine x.w (by omega) (by simp) (by simp) f λd g2 hm hd2 f2=>?_;refine⟨(f1.trans f2).1,?_⟩;have:∃k:Nat,d = .int k/\1<=k/\k<=5:=by
   simp only[aah,aaw,or_false]at hm;rcases hm with rfl|rfl|rfl|rfl|rfl|rfl|rfl|rfl
   . exact⟨1,rfl,by decide,by decide⟩
   . exact⟨2,rfl,by decide,by decide⟩
   . exact⟨2,rfl,by decide,by decide⟩
   . exact⟨3,rfl,by decide,by decide⟩
   . exact⟨3,rfl,by decide,by decide⟩
   . exact⟨2,rfl,by decide,by decide⟩
   . exact⟨3,rfl,by decide,by decide⟩
   . exact⟨(4+r).toNat,by rw[ada (by omega)],by omega,by omega⟩
  obtain⟨k,rfl,a,j⟩:=this;exact⟨k,rfl,a,j,hd2.mono (by omega),f1.trans f2⟩
 obtain⟨⟨d,c⟩,e,k,rfl,b,l,h,i⟩:=key;exact⟨k,c,e,b,l,h,i⟩
def zG (f:Fn):Prop:=∀n (k:Nat) g (B:Int),k<=20->B+k<2 ^ 40->Hd g n B->∃(is:List Nat) (g':G),f [.ref n,.int k] g=some (.tup (is.map λ(i:Nat)=>D.int i),g')/\is.length=k/\Hd g' n (B+k)/\Fr n g g'
theorem Ga {z:Fn}(A:jf z):zG (ao false 2 2 (rB z)):=λn k g B x y hd=>by
 have key:wp (ao false 2 2 (rB z) [.ref n,.int k] g) λq=>∃is:List Nat,q.1 = .tup (is.map λ(i:Nat)=>D.int i)/\is.length=k/\Hd q.2 n (B+k)/\Fr n g q.2:=by
  refine wp_run rfl ?_;simp[rB];refine iV ?_;have l:az k=true:=aJ (by omega);simp[bZ,l];refine⟨by omega,?_⟩;refine iF (λj acc σ a=>(∃h,σ = [none,h,some (.ref n)])/\(∃is:List Nat,acc=is.map (λ(i:Nat)=>D.int i)/\is.length=j)/\Hd a n (B+j)/\Fr n g a) _ 0 _ _ [] ⟨⟨none,rfl⟩,⟨[],by simp,rfl⟩,by simpa using hd,.refl⟩ ?_ ?_
  . rintro j d acc σ a r ⟨⟨h,rfl⟩,⟨is,rfl,b⟩,f,c⟩
    obtain⟨v,rfl⟩:=cZ r;have s:az 7=true:=rfl;simp[s];refine A.w (by omega) (by simp) (by simp) f λd g2 hm hd2 f2=>?_;have:∃k:Nat,d = .int k:=by
     simp only[aah,aaw,or_false]at hm;rcases hm with rfl|rfl|rfl|rfl|rfl|rfl|rfl
     . exact⟨0,rfl⟩
     . exact⟨1,rfl⟩
     . exact⟨2,rfl⟩
     . exact⟨3,rfl⟩
     . exact⟨8,rfl⟩
     . exact⟨9,rfl⟩
     . exact⟨11,rfl⟩
    obtain⟨i,rfl⟩:=this;simp at b;exact⟨⟨is ++ [i],by simp,by simp[b]⟩,hd2.mono (by omega),c.trans f2⟩
  . rintro xs σ a ⟨_,⟨is,e,b⟩,f,c⟩
    simp[bZ]at e b f;subst e;simp[cg,b,l];exact⟨c.1,is,rfl,b,f,c⟩
 obtain⟨⟨d,a⟩,e,is,rfl,o,u,p⟩:=key;exact⟨is,a,e,o,u,p⟩
def cx (nm:Str):Nat->List D->List D
 |_,[]=>[]|i,v::vs=>own nm i::v::cx nm (i+1) vs
def lT (nm:Str)(i:Nat):List D->List (D×D)
 | []=>[]|v::vs=>(own nm i,v)::lT nm (i+1) vs
def m_ (nm:Str)(i:Nat)(vs:List D):List D:=(lT nm i vs).map λp=>.tup [p.1,p.2]
theorem ue {nm}:∀{i vs},jG (m_ nm i vs)=some (lT nm i vs)
 |_,[]=>rfl|i,v::vs=>by have ih:=ue (nm:=nm) (i:=i+1) (vs:=vs);unfold m_ at ih ⊢;simp only[lT,aa5,jG,A5,aaj,ih,abn]
theorem xw {nm}:∀{i vs v},m_ nm i (vs ++ [v])=m_ nm i vs ++ [.tup [own nm (i+vs.length),v]]
 |i,[],v=>by simp[m_,lT]|i,w::vs,v=>by have:=xw (nm:=nm) (i:=i+1) (vs:=vs) (v:=v);simp only[m_,lT,ac6,aa5,abT]at this ⊢;rw[this,show i+1+vs.length=i+(vs.length+1) by omega]
theorem xx {nm:Str}{i j:Nat}:aF (own nm i) (own nm j)=true ↔ i=j:=by
 rw[DK.fu _ _ gC gC];exact⟨λe=>by
  by_cases h:i=j
  . exact h
  . exact absurd e (xu h),λe=>by rw[e]⟩
theorem uf {nm v}:∀{i vs},aP (cx nm i vs) (own nm (i+vs.length)) v=cx nm i (vs ++ [v])
 |i,[]=>by simp[cx,aP]|i,w::vs=>by have ih:=uf (nm:=nm) (v:=v) (i:=i+1) (vs:=vs);simp only[cx,ac6,aP,abT];rw[if_neg (by rw[xx];omega),show i+(vs.length+1)=i+1+vs.length by omega,ih]
theorem rF {nm}:∀{i vs us},(lT nm (i+us.length) vs).foldl (λa p=>aP a p.1 p.2) (cx nm i us)=cx nm i (us++vs)
 |i,[],us=>by simp[lT]|i,v::vs,us=>by simp only[lT,ahM];have:=rF (nm:=nm) (i:=i) (vs:=vs) (us:=us ++ [v]);rw[uf];rw[aai]at this;simpa[Nat.add_assoc]using this
theorem sM {nm}:∀{i vs},(lT nm i vs).length=vs.length
 |_,[]=>rfl|i,v::vs=>by simp[lT,sM]
theorem H_ {nm}:∀{i vs},(lT nm i vs).all (λp=>aW 6 p.1)=true
 |_,[]=>rfl|i,v::vs=>by simp[lT,H_,gC]
theorem Gb {nm:Str}{vs:List D}{g:G}(a:vs.length<=100):mH [.lst (m_ nm 0 vs)] g=some (.aC g.length,g ++ [cx nm 0 vs]):=by unfold mH;simp only[ue,aaj];rw[mL (xs:=[]) _ _ (by simp) H_ (by rw[sM];simp;omega)];have:=rF (nm:=nm) (i:=0) (vs:=vs) (us:=[]);simp only[afZ,Nat.add_zero,acq,cx]at this;rw[this];simp
theorem ug {nm}:∀{i vs j},aK (cx nm i vs) (own nm (i+j))=vs[j]?
 |i,[],j=>by simp[cx,aK]|i,v::vs,0=>by simp only[cx,aK];rw[if_pos (by rw[xx];omega)];rfl|i,v::vs,j+1=>by have ih:=ug (nm:=nm) (i:=i+1) (vs:=vs) (j:=j);simp only[cx,aK];rw[if_neg (by rw[xx];omega),show i+(j+1)=i+1+j by omega,ih];simp
theorem rG {nm}:∀{i vs},c9 (cx nm i vs)=true
 |_,[]=>rfl|i,v::vs=>by simp[cx,c9,gC,rG]
theorem uh {nm}:∀{i vs},(cx nm i vs).length=2*vs.length
 |_,[]=>rfl|i,v::vs=>by simp[cx,uh];omega
theorem ui {nm m}:∀{i vs},aA m vs=true->aA m (cx nm i vs)=true
 |_,[],_=>rfl|i,v::vs,h=>by simp only[aA,aae]at h;have:bB m (own nm i)=true:=rfl;simp[cx,aA,this,h.1,ui h.2]
theorem DP {P:D->Prop}{nm vs}(h:∀v∈vs,P v):oa P nm vs.length (cx nm 0 vs):=λi a=>by refine⟨vs[i],?_,h _ (abc a)⟩;have:=ug (nm:=nm) (i:=0) (vs:=vs) (j:=i);rw[aaY]at this;rw[this];exact aag a
def uj (nm:Str)(o:Nat)(n:Nat):List D:=((aba n).filter λj=>!(j == o)).map λj=>own nm j
theorem zH {nm o n}:aQ (uj nm o n)=true/\bp (uj nm o n)<=50:=by
 have:∀l:List Nat,aQ (l.map λj=>own nm j)=true/\bp (l.map λj=>own nm j)<=50:=λl=>by
  induction l with
  |nil=>exact⟨rfl,by simp[bp]⟩
  |cons a l ih =>
   simp only[aa5,aQ,bp];exact⟨by rw[ih.1];rfl,agB.mpr ⟨by simp[own,dep,bp],ih.2⟩⟩
 exact this _
theorem Bd.app {g ys:G}(h:Bd g)(a:∀y∈ys,aA (g.length+ys.length) y=true):Bd (g++ys):=λi xs e=>by
 rw[aai];by_cases hi:i<g.length
 . rw[aan hi]at e
   exact cj (adE _ _) (h i xs e)
 . rw[aaJ (by omega)]at e
   exact a xs (aaO e)
theorem Bd.set {g:G}{n:Nat}{y:List D}(h:Bd g)(b:aA g.length y=true):Bd (g.set n y):=λi xs e=>by
 rw[acB];by_cases hi:i=n
 . subst hi
   have a:i<g.length:=by have:=(aab.mp e).1;simpa using this
   rw[aav a]at e;cases e;exact b
 . rw[aam (aaN hi)]at e
   exact h i xs e
theorem DQ {g:G}{h m:Nat}{B:Int}{xs:List D}(f:Hd g h B)(e:g[h]? = some xs):aA m xs=true:=by obtain⟨a,b,c,d,_⟩:=f;rw[d]at e;cases e;simp[aA,bB]
theorem Bd.fr {g g':G}{h:Nat}{B:Int}(b:Bd g)(f:Fr h g g')(a:Hd g' h B):Bd g':=λi xs e=>by
 by_cases hi:i=h
 . subst hi;exact DQ a e
 . rw[f.1];rw[f.2 i hi]at e;exact b i xs e
theorem Bd.hand {g:G}{xs:List D}{B:Int}(b:Bd g)(c:Hd (g ++ [xs]) g.length B):Bd (g ++ [xs]):=b.app λy a=>by simp at a;subst a;exact DQ c (by simp)
theorem Hd.app {g ys:G}{h:Nat}{B:Int}(f:Hd g h B):Hd (g++ys) h B:=by obtain⟨a,b,c,d,e⟩:=f;exact⟨a,b,c,by rw[aan (aab.mp d).1];exact d,e⟩
theorem Bd.gi {g:G}{h b:Nat}{l:Int}{c:List D}(e:Bd g)(hh:h<g.length)(f:b<g.length)(d:aA 0 c=true):Bd (g ++ [W0 h b l (g.length+1) (g.length+2)++c,[],[]]):=e.app λy a=>by
 simp only[aah,aaw,or_false]at a;rcases a with rfl|rfl|rfl
 . refine cP ?_ (cj (aaR _) d)
   simp[W0,aA,bB];omega
 . rfl
 . rfl
end Wd
namespace Wd
open L3 L2 RI Pd
def uk:FT:=aH (ak oLe (ak bI (aa 6) (aa 1)) (aq cK (af (aa 3) aj)))
def OK (R:Str->Option Fn):FS:=pZ 6 (λi j=>i+j) (aa 0)
def Bb (R:Str->Option Fn):FS:=ay (cy (aH (ak wa (aq cK (af (aa 9) aj)) (fC (.int 0)))) (aO (aM aI (af (aa 6) (af (aq ((jF k9 h_)) (af (aa 9) aj)) aj)))) bb) (OK R)
def WK (R:Str->Option Fn):FS:=ay (aD (cH cg (dy (aa 7)) [none,none,some 2,some 5] (gN 1) (aH (ak oEq (ak av (aa 3) (aa 1)) (aa 2))) (aa 1)) (gN 9)) (Bb R)
def WL (R:Str->Option Fn):FS:=ay (dw (dy (aa 7)) (gN 8) (aD (ak bI (eZ jD ki (aa 5) (af (aa 8) (af (fC (.int 0)) aj))) (fC (.int 1))) (el (aa 5) (aa 8)))) (WK R)
def WM (R:Str->Option Fn):FS:=ay (cy (aH (ak oEq (aq cK (af (aa 7) aj)) (fC (.int 0)))) (aO (aM aI (af (aa 6) (af (fC .ax) aj)))) bb) (WL R)
def oh (R:Str->Option Fn):FS:=ay (aD (ib R 4 (af (js (aa 3) (eB (aa 6)) (eB (ak bI (aa 6) (aa 1)))) aj)) (gN 7)) (WM R)
def gE (R:Str->Option Fn):FS:=ay (aD oJ (gN 5)) (ay (aD (fC (.int 0)) (gN 6)) (ay (yJ 1000000 (aH (ak oLe (ak bI (aa 6) (aa 1)) (aq cK (af (aa 3) aj)))) (ay (aD (ib R 4 (af (js (aa 3) (eB (aa 6)) (eB (ak bI (aa 6) (aa 1)))) aj)) (gN 7)) (ay (cy (aH (ak oEq (aq cK (af (aa 7) aj)) (fC (.int 0)))) (aO (aM aI (af (aa 6) (af (fC .ax) aj)))) bb) (ay (dw (dy (aa 7)) (gN 8) (aD (ak bI (eZ jD ki (aa 5) (af (aa 8) (af (fC (.int 0)) aj))) (fC (.int 1))) (el (aa 5) (aa 8)))) (ay (aD (cH cg (dy (aa 7)) [none,none,some 2,some 5] (gN 1) (aH (ak oEq (ak av (aa 3) (aa 1)) (aa 2))) (aa 1)) (gN 9)) (ay (cy (aH (ak wa (aq cK (af (aa 9) aj)) (fC (.int 0)))) (aO (aM aI (af (aa 6) (af (aq ((jF k9 h_)) (af (aa 9) aj)) aj)))) bb) (pZ 6 (λi j=>i+j) (aa 0)))))))) (aO (fC .ax))))
noncomputable def dN (l:List Nat):List D:=l.map λ(j:Nat)=>D.int j
theorem cQ {l}:(dN l).length=l.length:=by simp[dN]
structure SD (sd:List D)(f:Nat->Nat)(N:Nat):Prop where
 ka:c9 sd=true
 at_:∀j:Nat,aK sd (.int j)=if f j=0 then none else some (.int (f j))
 len:sd.length<=N
 nr:aA 0 sd=true
theorem SD.put {d f N}(h:SD d f N)(j:Nat):SD (aP d (.int j) (.int (f j+1:Nat))) (λi=>f i+if i=j then 1 else 0) (N+2):=by
 refine⟨iJ rfl h.ka,λi=>?_,?_,fR rfl rfl h.nr⟩
 . by_cases e:i=j
   . subst e
     rw[gO rfl h.ka];simp
   . rw[gP rfl rfl (λz=>e (by injection z with z;omega)) h.ka,h.at_]
     simp[e]
 . have:∀(xs:List D) k v,(aP xs k v).length<=xs.length+2:=λxs k v=>by
     have:∀(n:Nat) (xs:List D),xs.length<=n->(aP xs k v).length<=xs.length+2:=λn=>by
      induction n with
      |zero=>intro xs c;match xs,c with| [],_=>simp[aP]
      |succ n ih =>
       intro xs c;match xs,c with
       | [],_=>simp[aP]| [a],_=>simp[aP]
       |a::b::r,c =>
        simp only[aP];split
        . simp
        . have:=ih r (by simp at c;omega)
          simp;omega
     exact this _ xs (aal _)
   have:=this d (.int j) (.int (f j+1:Nat));have:=h.len;omega
noncomputable def cA (f:Nat->Nat)(l:List Nat):Nat->Nat:=λi=>f i+if i∈l then 1 else 0
def iB (f:Nat->Nat)(mv:D)(l:List Nat):List Nat:=l.filter λj=>aF (.int (f j:Nat)) mv
theorem Kv {rd:List D}{s m:Nat}(h:s+m<=rd.length):cutD rd (some (s:Int)) (some ((s+m:Nat):Int))=(rd.drop s).take m:=by unfold cutD;rw[j_ (by omega),CB h,show s+m-s=m by omega]
theorem Kw {q:Nat}{σ:Sg}{g:G}{l:List Nat}{r:List D}{f:Nat->Nat}{N:Nat}(u:g[q]? = some r)(S:SD r f N)(nd:l.Nodup)(v:N+2*l.length<=900)(x:σ[5]? = some (some (.aC q)))(s:σ.length=10):
  ∃cb o8,forL (gN 8) (aD (ak bI (eZ jD ki (aa 5) (af (aa 8) (af (fC (.int 0)) aj))) (fC (.int 1))) (el (aa 5) (aa 8))) (dN l) σ g=some (.nx,σ.set 8 o8,g.set q cb)/\SD cb (cA f l) (N+2*l.length)/\(l = []->σ.set 8 o8=σ):=by
 induction l generalizing σ g r f N with
 |nil =>
  refine⟨r,σ[8]'(by omega),?_,⟨S.ka,λj=>by simp[cA,S.at_],S.len,S.nr⟩,λ_=>by simp⟩;simp only[dN,agU,forL];rw[abP];obtain⟨d,e⟩:=aab.mp u;rw[<- e,abP]
 |cons j l ih =>
  rw[aaS]at nd;simp only[abT]at v;have d:=(aab.mp u).1;have k:=S.put j;have h:(aK r (.int j)).getD (.int 0)= .int (f j:Nat):=by
    rw[S.at_ j];by_cases e:f j=0
    . simp[e]
    . simp[e]
  have n:iz r=true:=by unfold iz;exact aJ (by have:=S.len;omega)
  have c:(σ.set 8 (some (.int j)))[5]? = some (some (.aC q)):=by rw[aam (by decide)];exact x
  have o:(σ.set 8 (some (D.int j)))[8]? = some (some (.int j)):=aav (by omega);have p:aD (ak bI (eZ jD ki (aa 5) (af (aa 8) (af (fC (.int 0)) aj))) (fC (.int 1))) (el (aa 5) (aa 8)) (σ.set 8 (some (.int j))) g=some (.nx,σ.set 8 (some (.int j)),g.set q (aP r (.int j) (.int (f j+1:Nat)))):=by simp[c,o,u,h,n]
  obtain⟨cb,o8,b,a,_⟩:=ih (σ:=σ.set 8 (some (.int j))) (g:=g.set q (aP r (.int j) (.int (f j+1:Nat)))) (aav d) k nd.2 (by omega) c (by simp[s]);refine⟨cb,o8,?_,?_,λz=>by cases z⟩
  . simp only[dN,aa5,forL]at b ⊢
    rw[show gN 8 (D.int j) σ g=some (σ.set 8 (some (.int j)),g) from rfl];simp only[aaj,p];rw[b,adw,adw]
  . refine⟨a.ka,λi=>?_,by have:=a.len;simp only[abT];omega,a.nr⟩
    rw[a.at_ i];have:cA (λi=>f i+if i=j then 1 else 0) l i=cA f (j::l) i:=by
      unfold cA;by_cases e:i=j
      . subst e;simp[nd.1]
      . simp[e]
    rw[this]
theorem xB {q:Nat}{g:G}{k:List D}{f:Nat->Nat}{mv:D}(c:g[q]? = some k)(d:flat mv=true):∀(l:List Nat),(∀j∈l,aK k (.int j)=some (.int (f j:Nat)))->∀o1,cN (gN 1) (aH (ak oEq (ak av (aa 3) (aa 1)) (aa 2))) (aa 1) (dN l) [none,o1,some mv,some (.aC q)] g=some (dN (iB f mv l),g)
 | [],_,_=>rfl
 |j::l,h,o1=>by
  have ih:=xB (f:=f) c d l (λi b=>h i (by simp[b])) (some (.int j));have a:=h j (by simp);have e:oEq (.int (f j:Nat)) mv g=some (.bl (aF (.int (f j:Nat)) mv),g):=by simp[oEq,flat,d,dep]
  simp only[dN,aa5]at ih ⊢;simp only[cN];simp[c,a,e];by_cases hc:aF (.int (f j:Nat)) mv=true
  . simp[hc,ih,iB,dN]
  . simp[hc,ih,iB,dN]
section
variable {R:Str->Option Fn}{fn:Fn}{nm:Str}{n q start N:Nat}{mv:D}{rd a b sd:List D}{f:Nat->Nat}{g:G}{o7 o8 o9:Option D}
theorem OL {l:List Nat}{d:Nat}{g:G}(h:d∈l)(i:∀j∈l,d<=j):jF k9 h_ [.lst (dN l)] g=some (.int d,g):=by
 have e:fF (dN l)=some (l.map λ(j:Nat)=>(j:Int)):=by have:=ints_map (l.map λ(j:Nat)=>(j:Int));rw[ad0]at this;exact this
 have m:(l.map λ(j:Nat)=>(j:Int)).min? = some (d:Int):=by rw[agm];refine⟨aaQ.mpr ⟨d,h,rfl⟩,λb c=>?_⟩;obtain⟨j,a,rfl⟩:=aaQ.mp c;have:=i j a;omega
 show h_ [.lst (dN l)] g=_;simp[hU,e,m]
end
theorem oj {n:Nat}{rest:List D}:∀{cs:List (List D)} {k:Nat},(∀c∈cs,c.length=n)->k<=cs.length->(cs.flatten++rest).drop (k*n)=(cs.drop k).flatten++rest
 |cs,0,_,_=>by simp| [],k+1,_,h=>by simp at h|c::cs,k+1,hl,h=>by have b:c.length=n:=hl c (by simp);have ih:=oj (rest:=rest) (cs:=cs) (k:=k) (λx a=>hl x (by simp[a])) (by simpa using h);rw[abW,aaU,show(k+1)*n=c.length+k*n by rw[aca,b];omega,List.drop_length_add_append,ih];simp
theorem ky {n:Nat}:∀{cs:List (List D)},(∀c∈cs,c.length=n)->cs.flatten.length=cs.length*n
 | [],_=>by simp|c::cs,h=>by rw[abW,aai,ky λx a=>h x (by simp[a]),h c (by simp),abT,aca];omega
noncomputable def eD:Option Nat->D
 |none=>.ax|some j=>.int j
theorem last_eq {R:Str->Option Fn}:gE R=ay (aD oJ (gN 5)) (ay (aD (fC (.int 0)) (gN 6)) (ay (yJ 1000000 uk (oh R)) (aO (fC .ax)))):=rfl
theorem wp_seq {f1 d:FS}{σ:Sg}{g:G}{Q:F×Sg×G->Prop}(h:wp (f1 σ g) λr=>r.1 = .nx/\wp (d r.2.1 r.2.2) Q):wp (ay f1 d σ g) Q:=by obtain⟨⟨r,c,g1⟩,e,a,b⟩:=h;dsimp only at a b;subst a;rw[oF,e];exact b
end Wd
namespace Wg
open L3 L2 RI Pd Wd
section
variable {σ σ1:Sg}{g g1 g2:G}{f f':FE}{f1 f2:FS}{c:FT}{d d':D}{i j n:Nat}{x:Option (F×Sg×G)}{Q:F×Sg×G->Prop}
theorem eC (h:f1 σ g=some (.nx,σ1,g1))(k:f2 σ1 g1=x):ay f1 f2 σ g=x:=(jg h).trans k
theorem cJ (h:f σ g=some (d,g1))(k:f2 (σ.set i (some d)) g1=x):ay (aD f (gN i)) f2 σ g=x:=eC (ic h) k
theorem oS (t:c σ g=some (true,g1))(h:f σ g1=some (d,g2)):ay (cy c (aO f) f1) f2 σ g=some (.rt d,σ,g2):=xp ((lq t).trans (sH h))
theorem di (h:f1 σ g=some (.nx,σ1,g1))(k:wp (f2 σ1 g1) Q):wp (ay f1 f2 σ g) Q:=by rw[jg h];exact k
theorem fj (h:f σ g=some (d,g1))(k:wp (f2 (σ.set i (some d)) g1) Q):wp (ay (aD f (gN i)) f2 σ g) Q:=di (ic h) k
theorem Bc {k:Nat}(t:c σ g=some (true,g1))(h:f1 σ g1=some (.nx,σ1,g2)):kJ c f1 (k+1) σ g=kJ c f1 k σ1 g2:=by simp only[kJ,t,aaj,if_true,h]
theorem Be {k:Nat}(t:c σ g=some (true,g1))(h:f1 σ g1=some (.rt d,σ1,g2)):kJ c f1 (k+1) σ g=some (.rt d,σ1,g2):=by simp only[kJ,t,aaj,if_true,h]
theorem sO {o:D->D->G->Option (D×G)}(h:f σ g=some (d,g1))(k:f' σ g1=some (d',g2)):ak o f f' σ g=o d d' g2:=by simp[h,k]
theorem Bf (h:f σ g=some (d,g1))(k:f' σ g1=some (d',g2)):pY i j (af f (af f' aj)) σ g=some (.nx,(σ.set i (some d)).set j (some d'),g2):=by simp[h,k]
theorem rH {fr:FA}(h:fr σ g=some ([.int n],g1))(b:n<=1000):eH fr σ g=some (gp 0 n,g1):=by obtain⟨q,a,e⟩:=iV (fr:=fr) (σ:=σ) (g:=g) (Q:=λq=>q=(gp 0 n,g1)) ⟨_,h,n,rfl,by omega,by omega,by simp⟩;rw[a,e]
theorem sP {l:List Nat}:aQ (dN l)=true:=by
 induction l with
 |nil=>rfl|cons x l ih=>exact ih
end
noncomputable def fA (n:Nat)(mv:D)(rd:List D)(a:D)(q:Nat)(start:Nat)(o7 o8 o9:Option D):Sg:=[some (.int n),some (.int n),some mv,some (.tup rd),some a,some (.aC q),some (.int start),o7,o8,o9]
theorem um {R:Str->Option Fn}{i:Nat}{fr:FA}{σ:Sg}{g:G}{y:Str}{ds:List D}{fn:Fn}(h:σ[i]? = some (some (.fn y ds)))(a:R y=some fn):ib R i fr σ g=(fr σ g).bind λq=>fn (ds++q.1) q.2:=by unfold ib;rw[h];simp[a]
section
variable {R:Str->Option Fn}{fn:Fn}{nm:Str}{cL:List D}{n q start N:Nat}{mv:D}{rd w sd:List D}{ms:List Nat}{f:Nat->Nat}{g:G}{o7 o8 o9:Option D}
structure zI (R:Str->Option Fn)(fn:Fn)(nm:Str)(cL:List D)(n q start N:Nat)(mv:D)(rd w:List D)(ms:List Nat)(sd:List D)(f:Nat->Nat)(g:G):Prop where
 hR:R nm=some fn
 hw:(rd.drop start).take n=w
 hf:∀g,fn (cL ++ [.tup w]) g=some (.lst (dN ms),g)
 nd:ms.Nodup
 ml:ms.length<=20
 hs:start+n<=rd.length
 hq:g[q]? = some sd
 S:SD sd f N
 hN:N+40<=900
 fm:flat mv=true
theorem xC (H:zI R fn nm cL n q start N mv rd w ms sd f g):(aD (ib R 4 (af (js (aa 3) (eB (aa 6)) (eB (ak bI (aa 6) (aa 1)))) aj)) (gN 7)) (fA n mv rd (.fn nm cL) q start o7 o8 o9) g=some (.nx,fA n mv rd (.fn nm cL) q start (some (.lst (dN ms))) o8 o9,g):=by have a:=Kv (rd:=rd) (s:=start) (m:=n) H.hs;rw[H.hw]at a;refine ic ?_;rw[um (y:=nm) (ds:=cL) (fn:=fn) rfl H.hR];simp[fA,jr];rw[show(start:Int)+(n:Int)=((start+n:Nat):Int) by simp,a];exact H.hf g
theorem Kx (H:zI R fn nm cL n q start N mv rd w ms sd f g)(b:ms = []):∃σ',oh R (fA n mv rd (.fn nm cL) q start o7 o8 o9) g=some (.rt (.tup [.int start,.ax]),σ',g):=by have a:az 2=true:=rfl;exact⟨_,eC (xC H) (oS (g1:=g) (d:=.tup [.int start,.ax]) (g2:=g) (by simp[fA,b,dN]) (by simp[fA,a]))⟩
theorem DR (H:zI R fn nm cL n q start N mv rd w ms sd f g)(p:ms ≠ []):∃cb p8,oh R (fA n mv rd (.fn nm cL) q start o7 o8 o9) g=Bb R (fA n mv rd (.fn nm cL) q start (some (.lst (dN ms))) p8 (some (.lst (dN (iB (cA f ms) mv ms))))) (g.set q cb)/\SD cb (cA f ms) (N+40):=by
 have o:=H.ml;obtain⟨cb,p8,e,a,_⟩:=Kw (l:=ms) (σ:=fA n mv rd (.fn nm cL) q start (some (.lst (dN ms))) o8 o9) H.hq H.S H.nd (by have:=H.hN;omega) rfl rfl;have b:SD cb (cA f ms) (N+40):=⟨a.ka,a.at_,by have:=a.len;omega,a.nr⟩
 have k:(g.set q cb)[q]? = some cb:=aav (aab.mp H.hq).1;have h:=xB (f:=cA f ms) k H.fm ms (λj c=>by rw[b.at_ j,if_neg];simp[cA,c]) none
 have i:¬((ms.length:Int)=0):=λz=>p (acJ.mp (by omega));have zl:az ms.length=true:=aJ (by omega);exact⟨cb,p8,eC (xC H) (eC ((ie (g1:=g) (by simp[fA,cQ,i,p])).trans rfl) (eC (f1:=dw (dy (aa 7)) (gN 8) (aD (ak bI (eZ jD ki (aa 5) (af (aa 8) (af (fC (.int 0)) aj))) (fC (.int 1))) (el (aa 5) (aa 8)))) e (cJ (d:=.lst (dN (iB (cA f ms) mv ms))) (g1:=g.set q cb) (by simp[fA,dy,aT,cQ,zl,cf,h,cg]) rfl))),b⟩
theorem Ia (H:zI R fn nm cL n q start N mv rd w ms sd f g)(b:ms ≠ [])(a:iB (cA f ms) mv ms = []):∃cb p7 p8 p9,oh R (fA n mv rd (.fn nm cL) q start o7 o8 o9) g=some (.nx,fA n mv rd (.fn nm cL) q (start+n) p7 p8 p9,g.set q cb)/\SD cb (cA f ms) (N+40):=by obtain⟨cb,p8,e,S⟩:=DR (o7:=o7) (o8:=o8) (o9:=o9) H b;refine⟨cb,some (.lst (dN ms)),p8,some (.lst (dN [])),?_,S⟩;rw[e,a];unfold Bb OK;simp[fA,dN]
theorem ON (H:zI R fn nm cL n q start N mv rd w ms sd f g)(k:ms ≠ []){d:Nat}(h:d∈iB (cA f ms) mv ms)(i:∀j∈iB (cA f ms) mv ms,d<=j):∃cb σ',oh R (fA n mv rd (.fn nm cL) q start o7 o8 o9) g=some (.rt (.tup [.int start,.int d]),σ',g.set q cb):=by obtain⟨cb,b,e,S⟩:=DR (o7:=o7) (o8:=o8) (o9:=o9) H k;refine⟨cb,fA n mv rd (.fn nm cL) q start (some (.lst (dN ms))) b (some (.lst (dN (iB (cA f ms) mv ms)))),?_⟩;rw[e];have hm:=OL (g:=g.set q cb) h i;have c:0<(iB (cA f ms) mv ms).length:=List.length_pos_of_mem h;have a:az 2=true:=rfl;unfold Bb;simp[fA,cQ,c,hm,a]
end
noncomputable def cC (ps:List (List Nat)):Nat->Nat->Nat
 | 0,_=>0|k+1,j=>cC ps k j+if j∈ps.getD k []then 1 else 0
theorem xD {ps:List (List Nat)}{k:Nat}:cA (cC ps k) (ps.getD k [])=cC ps (k+1):=rfl
def dM (mv:D)(ps:List (List Nat))(i:Nat):Prop:=ps.getD i [] ≠ []/\iB (cC ps (i+1)) mv (ps.getD i [])= []
def oT (mv:D)(ps:List (List Nat))(i:Nat):Option Nat->Prop
 |none=>ps.getD i []= []|some j=>ps.getD i [] ≠ []/\j∈iB (cC ps (i+1)) mv (ps.getD i []) /\ ∀k∈iB (cC ps (i+1)) mv (ps.getD i []),j<=k
structure zJ (fn:Fn)(cL:List D)(n:Nat)(ws:List (List D))(ps:List (List Nat)):Prop where
 len:∀w∈ws,w.length=n
 lp:ps.length=ws.length
 n1:1<=n
 fB:ws.length<=20
 at_:∀i,i<ws.length->(∀g,fn (cL ++ [.tup (ws.getD i [])]) g=some (.lst (dN (ps.getD i [])),g))/\(ps.getD i []).Nodup/\(ps.getD i []).length<=20
section
variable {R:Str->Option Fn}{fn:Fn}{nm:Str}{cL:List L3.D}{n q:Nat}{mv:L3.D}{rest:List L3.D}{ws:List (List L3.D)}{ps:List (List Nat)}
theorem Ky {k:Nat}(a:∀w∈ws,w.length=n)(h:k<ws.length):((ws.flatten++rest).drop (k*n)).take n=ws.getD k []:=by
 rw[oj a (by omega),acd h,abW,aaU];have e:ws.getD k []=ws[k]:=by rw[aaE,aag h];rfl
 rw[e,acI (by rw[a _ (abc h)];exact aal _),abj (by rw[a _ (abc h)];exact aal _)]
theorem xF (hR:R nm=some fn)(D:zJ fn cL n ws ps)(d:flat mv=true){k:Nat}{g:G}{b:List L3.D}(h:k<ws.length)(c:g[q]? = some b)(S:SD b (cC ps k) (k*40)):
   zI R fn nm cL n q (k*n) (k*40) mv (ws.flatten++rest) (ws.getD k []) (ps.getD k []) b (cC ps k) g:=by
 obtain⟨a1,a2,a⟩:=D.at_ k h;refine⟨hR,Ky D.len h,a1,a2,a,?_,c,S,?_,d⟩
 . rw[aai,ky D.len]
   have:(k+1)*n<=ws.length*n:=Nat.mul_le_mul_right _ (by omega);rw[aca]at this;omega
 . have:=D.fB;omega
theorem mM {start:Nat}{rd:List L3.D}{a:L3.D}{o7 o8 o9:Option L3.D}{g:G}(h:start+n<=rd.length):uk (fA n mv rd a q start o7 o8 o9) g=some (true,g):=by
 have e:((start:Int)+(n:Int)<=(rd.length:Int)):=by omega
 simp[uk,fA,dq,e]
theorem DU {start:Nat}{rd:List L3.D}{a:L3.D}{o7 o8 o9:Option L3.D}{g:G}(h:rd.length<start+n):uk (fA n mv rd a q start o7 o8 o9) g=some (false,g):=by
 have e:¬((start:Int)+(n:Int)<=(rd.length:Int)):=by omega
 simp[uk,fA,dq,e]
theorem zK (hR:R nm=some fn)(D:zJ fn cL n ws ps)(r:flat mv=true)(s:rest.length<n):∀(m k fuel:Nat) (g:G) (sd:List L3.D) (o7 o8 o9:Option L3.D),k+m=ws.length->m<fuel->g[q]? = some sd->SD sd (cC ps k) (k*40)->(∀i,k<=i->i<ws.length->dM mv ps i) ->
  ∃σ' cb,kJ uk (oh R) fuel (fA n mv (ws.flatten++rest) (.fn nm cL) q (k*n) o7 o8 o9) g=some (.nx,σ',g.set q cb)/\aA 0 cb=true
 | 0,k,fuel+1,g,sd,o7,o8,o9,hk,OO,hq,S,hg=>by
  refine⟨fA n mv (ws.flatten++rest) (.fn nm cL) q (k*n) o7 o8 o9,sd,?_,S.nr⟩;simp only[kJ];rw[DU (by rw[aai,ky D.len,<- hk];simp only[Nat.add_zero];omega)]
  obtain⟨b,e⟩:=aab.mp hq;simp only[aaj,aaz,if_false];rw[<- e,abP]
 |m+1,k,fuel+1,g,sd,o7,o8,o9,hk,OO,hq,S,hg=>by have H:=xF (rest:=rest) hR D r (show k<ws.length by omega) hq S;obtain⟨h0,d⟩:=hg k (aal _) (by omega);obtain⟨cb,c,h,o,e,a⟩:=Ia (o7:=o7) (o8:=o8) (o9:=o9) H h0 (by rw[xD];exact d);rw[xD]at a;have b:=(aab.mp hq).1;obtain⟨σ',l,f,j⟩:=zK hR D r s m (k+1) fuel (g.set q cb) cb c h o (by omega) (by omega) (aav b) ⟨a.ka,a.at_,by have:=a.len;rw[aca];omega,a.nr⟩ λi p=>hg i (by omega);refine⟨σ',l,(Bc (mM H.hs) e).trans ?_,j⟩;rw[show k*n+n=(k+1)*n by rw[aca];omega,f,adw]
theorem zL (hR:R nm=some fn)(D:zJ fn cL n ws ps)(v:flat mv=true){en:Option Nat}:∀(m k fuel:Nat) (g:G) (sd:List L3.D) (o7 o8 o9:Option L3.D),k+1+m=ws.length->m<fuel->g[q]? = some sd->SD sd (cC ps k) (k*40)->(∀i,k<=i->i+1<ws.length->dM mv ps i)->oT mv ps (ws.length-1) en ->
  ∃σ' cb,kJ uk (oh R) fuel (fA n mv (ws.flatten++rest) (.fn nm cL) q (k*n) o7 o8 o9) g=some (.rt (.tup [.int ((ws.length-1)*n:Nat),eD en]),σ',g.set q cb)
 | 0,k,fuel+1,g,sd,o7,o8,o9,hk,OO,hq,S,hg,he=>by
  have H:=xF (rest:=rest) hR D v (show k<ws.length by omega) hq S;have f:ws.length-1=k:=by omega
  rw[f]at he ⊢;cases en with
  |none =>
   obtain⟨σ',e⟩:=Kx (o7:=o7) (o8:=o8) (o9:=o9) H he;refine⟨σ',sd,(Be (mM H.hs) e).trans ?_⟩;obtain⟨c,p⟩:=aab.mp hq;rw[<- p,abP];rfl
  |some j =>
   obtain⟨h0,b,d⟩:=he;rw[<- xD]at b d;obtain⟨cb,σ',e⟩:=ON (o7:=o7) (o8:=o8) (o9:=o9) H h0 b d;exact⟨σ',cb,Be (mM H.hs) e⟩
 |m+1,k,fuel+1,g,sd,o7,o8,o9,hk,OO,hq,S,hg,he=>by have H:=xF (rest:=rest) hR D v (show k<ws.length by omega) hq S;obtain⟨h0,b⟩:=hg k (aal _) (by omega);obtain⟨cb,h,o,s,e,a⟩:=Ia (o7:=o7) (o8:=o8) (o9:=o9) H h0 (by rw[xD];exact b);rw[xD]at a;have c:=(aab.mp hq).1;obtain⟨σ',r,l⟩:=zL hR D v (en:=en) m (k+1) fuel (g.set q cb) cb h o s (by omega) (by omega) (aav c) ⟨a.ka,a.at_,by have:=a.len;rw[aca];omega,a.nr⟩ (λi u=>hg i (by omega)) he;refine⟨σ',r,(Bc (mM H.hs) e).trans ?_⟩;rw[show k*n+n=(k+1)*n by rw[aca];omega,l,adw]
theorem uo {d:L3.D}{σ':Sg}{c rd:List L3.D}{a:L3.D}(b:bB 0 d=true)(h:ay (yJ 1000000 uk (oh R)) (aO (fC .ax)) (fA n mv rd a 0 0 none none none) [[]]=some (.rt d,σ',[c])):ao false 10 5 (gE R) [.int n,.int n,mv,.tup rd,a] []=some (d,[]):=by
 have key:wp (ao false 10 5 (gE R) [.int n,.int n,mv,.tup rd,a] []) λq=>q=(d,[]):=by refine jL rfl ?_;rw[last_eq];refine fj (d:=.aC 0) (g1:=[[]]) rfl (fj (d:=.int 0) (g1:=[[]]) rfl ⟨_,h,?_⟩);exact⟨b,by simp,by simp,by simp⟩
 obtain⟨q,e,rfl⟩:=key;exact e
theorem OQ {N:Nat}:SD [] (cC ps 0) N:=⟨rfl,λj=>by simp[aK,cC],by simp,rfl⟩
theorem Bg (hR:R nm=some fn)(D:zJ fn cL n ws ps)(d:flat mv=true)(c:rest.length<n)(f:∀i,i<ws.length->dM mv ps i):ao false 10 5 (gE R) [.int n,.int n,mv,.tup (ws.flatten++rest),.fn nm cL] []=some (.ax,[]):=by obtain⟨b,a,e,_⟩:=zK (q:=0) (rest:=rest) hR D d c ws.length 0 1000000 [[]] [] none none none (by omega) (by have:=D.fB;omega) rfl OQ λi _=>f i;rw[Nat.zero_mul]at e;exact uo rfl ((jg e).trans rfl)
theorem Bh (hR:R nm=some fn)(D:zJ fn cL n ws ps)(c:flat mv=true)(h:1<=ws.length){en:Option Nat}(f:∀i,i+1<ws.length->dM mv ps i)(d:oT mv ps (ws.length-1) en):ao false 10 5 (gE R) [.int n,.int n,mv,.tup (ws.flatten++rest),.fn nm cL] []=some (.tup [.int ((ws.length-1)*n:Nat),eD en],[]):=by obtain⟨b,a,e⟩:=zL (q:=0) (rest:=rest) hR D c (ws.length-1) 0 1000000 [[]] [] none none none (by omega) (by have:=D.fB;omega) rfl OQ (λi _=>f i) d;rw[Nat.zero_mul]at e;refine uo ?_ (xp e);cases en<;>simp[bB,aA,eD]
end
end Wg
namespace Wg
open L3 L2 RI Pd Wd SJ
theorem uq (val:Nat->Int):∀(n:Nat) (k:Int),k∈bH val n ↔ ∃i,i<n/\val i=k
 | 0,k=>by simp[bH]
 |n+1,k=>by
  have ih:=uq val n;unfold bH SJ.jW;have:k∈(if val n∈bH val n then bH val n else bH val n ++ [val n])↔ k∈bH val n\/k=val n:=by
    split
    . rename_i h
      exact⟨.inl,λa=>by rcases a with a|rfl;exact a;exact h⟩
    . simp
  rw[this,ih];constructor
  . rintro(⟨i,b,a⟩|rfl)
    . exact⟨i,by omega,a⟩
    . exact⟨n,by omega,rfl⟩
  . rintro⟨i,b,a⟩
    by_cases e:i=n
    . subst e;exact .inr a.symm
    . exact .inl ⟨i,by omega,a⟩
theorem xG (val:Nat->Int):∀n,(bH val n).Nodup
 | 0=>acM
 |n+1=>by
  have ih:=xG val n;unfold bH SJ.jW;split
  . exact ih
  . rename_i h
    rw[aco];exact⟨ih,by simp,λa d b c z=>by simp at c;subst c;subst z;exact h d⟩
theorem Gf (ns:List Int)(k:Int):k∈bH (λi=>ns.getD i 0) ns.length ↔ k∈ns:=by
 rw[uq,abR];constructor
 . rintro⟨i,a,b⟩
   exact⟨i,a,by simpa[a]using b⟩
 . rintro⟨i,a,b⟩
   exact⟨i,a,by simpa[a]using b⟩
theorem OR {L d:List Nat}(h:∀j,j∈d ↔ j∈L)(nd:d.Nodup)(f:d.Pairwise (· <= ·)):acH (bH (λi=>(L.map λ(j:Nat)=>(j:Int)).getD i 0) (L.map λ(j:Nat)=>(j:Int)).length)=d.map λ(j:Nat)=>(j:Int):=by
 refine(afO ((List.perm_ext_iff_of_nodup (L3.nodup_map_on (λa _ b _ e=>by omega) nd) (xG _ _)).mpr λk=>?_) ?_).symm
 . rw[Gf]
   simp only[aaQ];exact⟨λ⟨j,c,e⟩=>⟨j,(h j).mp c,e⟩,λ⟨j,c,e⟩=>⟨j,(h j).mpr c,e⟩⟩
 . rw[List.pairwise_map]
   exact f.imp λh=>by omega
noncomputable def er (n o:Nat):List Nat:=(aba n).filter λj=>!(j == o)
def aG (n o sh:Nat):List Nat:=if sh=1 then er n o else []
theorem iL {n o j:Nat}:j∈er n o ↔ j<n/\j≠o:=by simp[er]
theorem DV {n o:Nat}:(er n o).Nodup:=ahE.sublist adb
theorem jN {n o:Nat}:(er n o).length<=n:=by have:=ab0 (λj=>!(j == o)) (aba n);rw[List.length_range]at this;exact this
theorem gj {n o sh:Nat}:(aG n o sh).length<=n:=by
 unfold aG;split
 . exact jN
 . simp
theorem jO {n o sh j:Nat}:j∈aG n o sh ↔ sh=1/\j<n/\j≠o:=by
 unfold aG;split
 . rename_i h;rw[iL];simp[h]
 . rename_i h;simp[h]
theorem OS {n o sh:Nat}:(aG n o sh).Nodup:=by
 unfold aG;split
 . exact DV
 . exact acM
inductive SC (n:Nat):D->Prop
 |mk (v:D) (bs:List Int) (t:Int) (vw:List D) (hv:vG v) (hb:bs.length=n) (hw:vw.length=n) (ha:∀x∈vw,vG x):SC n (.tup [v,.tup (bs.map .int),.int t,.tup vw])
noncomputable def DX (c:D)(i:Nat):D:=match c with
 |.tup xs=>xs.getD i .ax|_=>.ax
noncomputable def OT:D->Int
 |.int i=>i|_=>0
def cB (c:D)(j:Nat):Int:=OT (DX (DX c 1) j)
def cT (c:D):Int:=OT (DX c 2)
def cV (c:D):D:=DX c 0
def cW (c:D):D:=DX c 3
theorem Ib {a b c d:D}:bJ [a,b,c,d] 1=some b:=rfl
theorem RR {a b c d:D}:bJ [a,b,c,d] 2=some c:=rfl
theorem RS {a b c d:D}:bJ [a,b,c,d] 3=some d:=rfl
theorem RT {a b c d:D}:bJ [a,b,c,d] 0=some a:=rfl
section
variable {n o:Nat}{c:D}{g:G}
theorem SC.bit (h:SC n c)(b:o<n):(av c (.int 1) g).bind (λr=>av r.1 (.int o) r.2)=some (.int (cB c o),g):=by
 cases h with
 |mk v bs t vw hv hb hw ha =>
  have e:(bs.map D.int)[o]? = some (.int bs[o]):=by rw[aaP,aag (by omega)];rfl
  have a:cB (.tup [v,.tup (bs.map .int),.int t,.tup vw]) o=bs[o]:=by show OT ((bs.map D.int).getD o .ax)=_;rw[aaE,e];rfl
  simp[cz,Ib,fW e,a]
theorem SC.dF (h:SC n c):av c (.int 2) g=some (.int (cT c),g):=by
 cases h with
 |mk v bs t vw hv hb hw ha=>simp[cz,RR];rfl
theorem SC.val (h:SC n c):av c (.int 0) g=some (cV c,g):=by
 cases h with
 |mk v bs t vw hv hb hw ha=>simp[cz,RT];rfl
theorem SC.view (h:SC n c):av c (.int 3) g=some (cW c,g):=by
 cases h with
 |mk v bs t vw hv hb hw ha=>simp[cz,RS];rfl
end
structure cw (n o sh:Nat)(ks fs ss:List D):Prop where
 kl:ks.length=(aG n o sh).length
 fl:fs.length=n
 sl:ss.length=n
 ka:∀c∈ks,SC n c
 fa:∀c∈fs,SC n c
 sa:∀c∈ss,SC n c
noncomputable def dG (ks:List D):List D:=ks.flatMap λc=>[c,.ax]
theorem lU {ks:List D}:(dG ks).length=2*ks.length:=by
 induction ks with
 |nil=>rfl|cons c ks ih=>simp[dG]at ih ⊢;omega
theorem DY {ks:List D}{p:Nat}{c:D}(h:ks[p]? = some c):(dG ks)[2*p]? = some c:=by
 induction ks generalizing p with
 |nil=>simp at h
 |cons d ks ih =>
  cases p with
  |zero=>simp at h;subst h;rfl
  |succ p =>
   have:=ih (p:=p) (by simpa using h);simp only[dG,acU]at this ⊢;rw[show 2*(p+1)=2*p+2 by omega];simpa using this
def bN (ks fs ss:List D):List D:=dG ks++fs++ss
def sgn (n o sh:Nat)(ks:List D)(j:Nat):Int:=cB (ks.getD ((aG n o sh).idxOf j) .ax) o
def nc (tg:Nat)(fs ss:List D)(j:Nat):Bool:=decide (tg=1)&&decide (cT (fs.getD j .ax)≠cT (ss.getD j .ax))
def iC (n o sh:Nat)(ks fs ss:List D)(j:Nat):Bool:=decide (sh=1)&&(decide (cB (fs.getD j .ax) o≠sgn n o sh ks j)||decide (cB (ss.getD j .ax) o≠sgn n o sh ks j))
def eE (n o tg sh:Nat)(ks fs ss:List D):List Nat:=(er n o).filter λj=>nc tg fs ss j||iC n o sh ks fs ss j
theorem DZ {ks fs ss:List D}{n:Nat}{a b:Int}(f:fs.length=n)(h:ss.length=n)(j:1<=n)(i:a = -(2*(n:Int)))(k:b = -(n:Int)):cutD (bN ks fs ss) (some a) (some b)=fs:=by
 have c:(bN ks fs ss).length=(dG ks).length+n+n:=by simp[bN,f,h];omega
 unfold cutD;have d:HT.bf (bN ks fs ss).length 0 (some a)=(dG ks).length:=by show(if a<0 then(a+((bN ks fs ss).length:Int)).toNat else _)=_;rw[if_pos (by omega),c];omega
 have e:HT.bf (bN ks fs ss).length (bN ks fs ss).length (some b)=(dG ks).length+n:=by show(if b<0 then(b+((bN ks fs ss).length:Int)).toNat else _)=_;rw[if_pos (by omega),c];omega
 rw[d,e];unfold bN;rw[aaU,ad7,show(dG ks).length+n-(dG ks).length=fs.length by omega,aij]
theorem Bj {ks fs ss:List D}{n:Nat}{b:Int}(d:fs.length=n)(e:ss.length=n)(f:1<=n)(h:b = -(n:Int)):cutD (bN ks fs ss) (some b) none=ss:=by
 have a:(bN ks fs ss).length=(dG ks++fs).length+n:=by simp[bN,d,e];omega
 unfold cutD;have c:HT.bf (bN ks fs ss).length 0 (some b)=(dG ks++fs).length:=by show(if b<0 then(b+((bN ks fs ss).length:Int)).toNat else _)=_;rw[if_pos (by omega),a];omega
 rw[c,HT.l8];unfold bN at a ⊢;rw[ad7,a];exact abj (by omega)
def Ic:FT:=aH (ak bw (ak av (ak av (aa 2) (aa 1)) (fC (.int 2))) (ak av (ak av (aa 3) (aa 1)) (fC (.int 2))))
def OU:FS:=ay (aD (ak av (ak av (ak av (aa 2) (ak dI (fC (.int 2)) (aa 7))) (fC (.int 1))) (aa 1)) (gN 9)) (cy (B9 (aH (ak bw (ak av (ak av (ak av (aa 4) (aa 8)) (fC (.int 1))) (aa 1)) (aa 9))) (aH (ak bw (ak av (ak av (ak av (aa 5) (aa 8)) (fC (.int 1))) (aa 1)) (aa 9)))) (eI (eZ isRef dR (aa 6) (af (aa 8) aj))) bb)
def xH (a:Fn):FS:=ay (dw (uR (aq a (af (aa 0) (af (aa 1) aj)))) (gT 2 (bR (gN 7) (bR (gN 8) g_))) OU) (aO (xl (aa 6)))
def OW (num a b:Fn):FS:=ay (cy (aH (ak oEq (aq num (af (aa 0) (af (fC (.str "toggles")) aj))) (fC (.int 1)))) (aD (cH jj (dy (aq a (af (aa 0) (af (aa 1) aj)))) [none,none,some 4,some 5] (gN 1) Ic (aa 1)) (gN 6)) bb) (xH b)
def oo (num a b c:Fn):FS:=ay (aD (aq a (af (aa 0) aj)) (gN 3)) (ay (aD (js (aa 2) (eB (ak dI (qG mj (fC (.int 2))) (aa 3))) (eB (qG mj (aa 3)))) (gN 4)) (ay (aD (js (aa 2) (eB (qG mj (aa 3))) pW) (gN 5)) (ay (aD (aM mkRef aj) (gN 6)) (OW num b c))))
section
variable {n o tg sh:Nat}{m:D}{ks fs ss:List D}{g:G}{num hands cD aS:Fn}
theorem ne_int {i j:Int}:bw (.int i) (.int j) g=some (.bl (decide (i≠j)),g):=by
 by_cases e:i=j
 . subst e;simp[bw,flat,dep,aF]
 . simp[bw,flat,dep,aF,e]
theorem D0 {xs:List D}{j:Nat}(h:j<xs.length):bJ xs j=some (xs.getD j .ax):=fW (by rw[aaE,aag h];rfl)
theorem mem_getD {xs:List D}{j:Nat}(h:j<xs.length):xs.getD j .ax∈xs:=by rw[aaE,aag h];exact abc h
theorem sQ {c:D}{σ:Sg}{b:FE}(j:b σ g=some (c,g)){i:Nat}(d:σ[i]? = some (some (.int o)))(h:SC n c)(f:o<n):ak av (ak av b (fC (.int 1))) (aa i) σ g=some (.int (cB c o),g):=by
 have:=h.bit (g:=g) f;simp only[hZ,j,aaj,Ht,lH,d];cases e:av c (.int 1) g with
 |none=>rw[e]at this;cases this
 |some r =>
  rw[e]at this;have a:r.2=g:=by
   cases h with
   |mk v bs t vw hv hb hw ha=>simp[cz,Ib]at e;rw[<- e]
  simp only[aaj]at this ⊢;rw[a]at this;rw[a];simpa using this
theorem RU {j:Nat}{c d:D}(a:bJ fs j=some c)(f:bJ ss j=some d)(e:av c (.int 2) g=some (.int (cT c),g))(b:av d (.int 2) g=some (.int (cT d),g)):Ic [none,some (.int j),some (.tup fs),some (.tup ss)] g=some (decide (cT c≠cT d),g):=by unfold Ic;rw[cY,sO (d:=.int (cT c)) (d':=.int (cT d)) (g1:=g) (g2:=g) (by simp[cz,aT,a,e]) (by simp[cz,aT,f,b]),ne_int];rfl
theorem xI (R:cw n o sh ks fs ss):∀(l:List Nat),(∀j∈l,j<n)->∀o1,cN (gN 1) Ic (aa 1) (dN l) [none,o1,some (.tup fs),some (.tup ss)] g=some (dN (l.filter λj=>decide (cT (fs.getD j .ax)≠cT (ss.getD j .ax))),g)
 | [],_,_=>rfl
 |j::l,h,o1=>by
  have ih:=xI R l (λi b=>h i (by simp[b])) (some (.int j));have a:=h j (by simp);have d:=(R.fa _ (mem_getD (xs:=fs) (j:=j) (by rw[R.fl];exact a))).dF (g:=g);have e:=(R.sa _ (mem_getD (xs:=ss) (j:=j) (by rw[R.sl];exact a))).dF (g:=g);have c:=D0 (xs:=fs) (j:=j) (by rw[R.fl];exact a);have k:=D0 (xs:=ss) (j:=j) (by rw[R.sl];exact a);have f:=RU (g:=g) c k d e;simp only[dN,aa5]at ih ⊢;simp only[cN];rw[show gN 1 (D.int j) [none,o1,some (.tup fs),some (.tup ss)] g=some ([none,some (.int j),some (.tup fs),some (.tup ss)],g) from rfl];simp only[aaj,f,ih];by_cases hc:cT (fs.getD j .ax)≠cT (ss.getD j .ax)
  . rw[aeq,if_pos (decide_eq_true hc),if_pos (decide_eq_true hc),show aa 1 [none,some (D.int j),some (.tup fs),some (.tup ss)] g=some (.int j,g) from rfl,aaj,ih]
    rfl
  . rw[aeq,if_neg (by simpa using hc),if_neg (by simpa using hc)]
theorem RV {b c:FE}{σ:Sg}{x y z:Int}(e:b σ g=some (.int x,g))(f:c σ g=some (.int y,g))(d:σ[9]? = some (some (.int z))):B9 (aH (ak bw b (aa 9))) (aH (ak bw c (aa 9))) σ g=some (decide (x≠z)||decide (y≠z),g):=by
 have t1:aH (ak bw b (aa 9)) σ g=some (decide (x≠z),g):=by rw[cY,hZ,e];simp only[aaj,lH,d,ne_int,dq]
 have a:aH (ak bw c (aa 9)) σ g=some (decide (y≠z),g):=by rw[cY,hZ,f];simp only[aaj,lH,d,ne_int,dq]
 rw[Ni,t1,aaj,a];by_cases h:x≠z
 . rw[if_pos (decide_eq_true h),decide_eq_true h];rfl
 . rw[if_neg (by simpa using h),decide_eq_false h];rfl
theorem OX {t:FT}{σ:Sg}{b:Bool}{q j:Nat}{L:List Nat}(f:t σ g=some (b,g))(e:σ[6]? = some (some (.ref q)))(h:σ[8]? = some (some (.int j)))(d:g[q]? = some (dN L))(hz:L.length<900):cy t (eI (eZ isRef dR (aa 6) (af (aa 8) aj))) bb σ g=some (.nx,σ,g.set q (dN (L++if b then [j]else []))):=by
 have z:az ((dN L).length+1)=true:=aJ (by rw[cQ];omega);rw[wc,f];cases b with
 |true =>
  rw[cQ]at z;simp[e,h,d,z,dN]
 |false =>
  obtain⟨c,a⟩:=aab.mp d;simp only[aaj,aaz,if_false,abb];rw[<- a,abP];rfl
noncomputable def ng (m:D)(o n q:Nat)(W fs ss:List D)(a b c:Option D):Sg:=[some m,some (.int o),some (.tup W),some (.int n),some (.tup fs),some (.tup ss),some (.ref q),a,b,c]
theorem zM (R:cw n o sh ks fs ss)(A:o<n)(C:n<=5)(B:sh=1):∀(r:Nat) (p:Nat) (L:List Nat) (q:Nat) (g:G) (o7 o8 o9:Option D),p+r=(aG n o sh).length->g[q]? = some (dN L)->L.length+r<=18 ->
  ∃σ',forL (gT 2 (bR (gN 7) (bR (gN 8) g_))) OU (((dN (aG n o sh)).zipIdx.drop p).map λx=>.tup [.int (x.2:Nat),x.1]) (ng m o n q (bN ks fs ss) fs ss o7 o8 o9) g=some (.nx,σ',g.set q (dN (L++((aG n o sh).drop p).filter λj=>iC n o sh ks fs ss j)))/\σ'[6]? = some (some (.ref q))
 | 0,p,L,q,g,o7,o8,o9,hp,hq,k=>by have e:(aG n o sh).drop p = []:=adF.mpr (by omega);have z:(dN (aG n o sh)).zipIdx.drop p = []:=adF.mpr (by simp[cQ];omega);refine⟨ng m o n q (bN ks fs ss) fs ss o7 o8 o9,?_,rfl⟩;rw[e,z];simp only[agU,forL,af5,abb];obtain⟨k,e3⟩:=aab.mp hq;rw[<- e3,abP]
 |r+1,p,L,q,g,o7,o8,o9,hp,hq,k=>by
  have a:p<(aG n o sh).length:=by omega
  have l:=abc a;generalize c:(aG n o sh)[p]=j at l;obtain⟨_,b,ab⟩:=jO.mp l;have u:p<ks.length:=by rw[R.kl];exact a
  have ek:ks[p]? = some (ks.getD p .ax):=by rw[aaE,aag u];rfl
  have WO:(aG n o sh).idxOf j=p:=by rw[<- c];exact OS.idxOf_getElem p a
  have h:=R.ka _ (mem_getD (xs:=ks) u);have d:=R.fa _ (mem_getD (xs:=fs) (j:=j) (by rw[R.fl];exact b));have i:=R.sa _ (mem_getD (xs:=ss) (j:=j) (by rw[R.sl];exact b));have x0:(bN ks fs ss)[2*p]? = some (ks.getD p .ax):=by unfold bN;rw[aaU,aan (by rw[lU];omega)];exact DY ek
  have d1:(aG n o sh).drop p=j::(aG n o sh).drop (p+1):=by rw[acd a,c]
  have v:(dN (aG n o sh)).zipIdx.drop p=(.int j,p)::(dN (aG n o sh)).zipIdx.drop (p+1):=by rw[acd (by simp[cQ];exact a)];congr 1;simp[dN,c]
  have hlen:=(aab.mp hq).1;have hz:az ((dN L).length+1)=true:=aJ (by rw[cQ];omega);have f:sgn n o sh ks j=cB (ks.getD p .ax) o:=by unfold sgn;rw[WO]
  have s:=fW x0;rw[show((2*p:Nat):Int)=2*(p:Int) by simp]at s;have y:cI 2 (p:Int)=true:=rfl;have x1:=D0 (xs:=fs) (j:=j) (by rw[R.fl];exact b);have x2:=D0 (xs:=ss) (j:=j) (by rw[R.sl];exact b);have step:OU (ng m o n q (bN ks fs ss) fs ss (some (.int p)) (some (.int j)) o9) g=some (.nx,ng m o n q (bN ks fs ss) fs ss (some (.int p)) (some (.int j)) (some (.int (sgn n o sh ks j))),g.set q (dN (L ++ [j].filter λj=>iC n o sh ks fs ss j))):=by rw[aeq,af5];unfold iC;rw[decide_eq_true B,afg,f];exact cJ (sQ (by simp[ng,y,cz,aT,s]) rfl h A) (OX (RV (sQ (by simp[ng,cz,aT,x1]) rfl d A) (sQ (by simp[ng,cz,aT,x2]) rfl i A) rfl) rfl rfl hq (by omega))
  obtain⟨σ',e,h6⟩:=zM R A C B r (p+1) (L ++ [j].filter λj=>iC n o sh ks fs ss j) q (g.set q (dN (L ++ [j].filter λj=>iC n o sh ks fs ss j))) (some (.int p)) (some (.int j)) (some (.int (sgn n o sh ks j))) (by omega) (aav hlen) (by have:=ab0 (λj=>iC n o sh ks fs ss j) [j];simp only[aai,abT,afZ]at this ⊢;omega)
  refine⟨σ',?_,h6⟩;rw[v,d1,aa5];simp only[forL];rw[H4];simp only[aaj,ng,agY,agX]at step e ⊢;rw[step];simp only[aaj];rw[e,adw,aaU,<- adj];rfl
end
section
variable {n o tg sh:Nat}{m:D}{ks fs ss:List D}{g:G}{num hands cD aS:Fn}
theorem zN {j:Nat}:j∈eE n o tg sh ks fs ss ↔ (j∈er n o/\nc tg fs ss j=true)\/(j∈aG n o sh/\iC n o sh ks fs ss j=true):=by
 unfold eE;rw[abM,aa4];constructor
 . rintro⟨h,a|a⟩
   . exact .inl ⟨h,a⟩
   . refine .inr ⟨?_,a⟩
     have:sh=1:=by unfold iC at a;simp at a;exact a.1
     rw[jO];exact⟨this,iL.mp h⟩
 . rintro(⟨h,a⟩|⟨h,a⟩)
   . exact⟨h,.inl a⟩
   . exact⟨iL.mpr (jO.mp h).2,.inr a⟩
theorem xJ:(eE n o tg sh ks fs ss).Nodup:=DV.sublist adb
theorem OZ:(eE n o tg sh ks fs ss).Pairwise (· <= ·):=by
 have:(aba n).Pairwise (· <= ·):=List.pairwise_lt_range.imp λh=>adp h
 exact(this.sublist (adb (p:=λj=>!(j == o)))).sublist adb
theorem Kz:(eE n o tg sh ks fs ss).length<=n:=aa0 (ab0 _ _) jN
structure xK (m:D)(n o tg sh:Nat)(num hands cD aS:Fn):Prop where
 hh:∀g,hands [m] g=some (.int n,g)
 ht:∀g,num [m,.str "toggles"] g=some (.int tg,g)
 ho:∀g,cD [m,.int o] g=some (.lst (dN (er n o)),g)
 hs:∀g,aS [m,.int o] g=some (.lst (dN (aG n o sh)),g)
 on:o<n
 n5:n<=5
def mσ (m:D)(o n:Nat)(ks fs ss:List D)(q:Nat):Sg:=ng m o n q (bN ks fs ss) fs ss none none none
theorem D1 (S:xK m n o tg sh num hands cD aS)(R:cw n o sh ks fs ss){q:Nat}{L:List Nat}(v:g[q]? = some (dN L))(y:L.length<=10)(x:∀j,j∈eE n o tg sh ks fs ss ↔ j∈L\/(j∈aG n o sh/\iC n o sh ks fs ss j=true)):∃σ' g',xH aS (mσ m o n ks fs ss q) g=some (.rt (.lst (dN (eE n o tg sh ks fs ss))),σ',g'):=by
 have hlen:=(aab.mp v).1;have fin:∀(a:List Nat) (σ':Sg),σ'[6]? = some (some (.ref q))->a.length<=18->(∀j,j∈eE n o tg sh ks fs ss ↔ j∈a)->aO (xl (aa 6)) σ' (g.set q (dN a))=some (.rt (.lst (dN (eE n o tg sh ks fs ss))),σ',g.set q (dN a)):=λa σ' b s d=>by
   have e:=OR d xJ OZ;have h4:=(afc (bH (λi=>(a.map λ(j:Nat)=>(j:Int)).getD i 0) (a.map λ(j:Nat)=>(j:Int)).length)).length_eq.symm.trans (congrArg ahn e)
   replace h4:=agV h4
   replace h4:=aa0 h4 (aa0 (aa0 (agV (aaI _)) (ab0 _ _)) ((show ∀n,n<=5->∀o,o<n->(er n o).length<=4 by decide) n S.n5 o S.on))
   have k:fF (dN a)=some (a.map λ(j:Nat)=>(j:Int)):=by have:=ints_map (a.map λ(j:Nat)=>(j:Int));rw[ad0]at this;exact this
   rw[jK,Kl,lH,b];simp only[aaj,hU,aav hlen,k];have p:∀i,i<(a.map λ(j:Nat)=>(j:Int)).length->0<=(a.map λ(j:Nat)=>(j:Int)).getD i 0/\(a.map λ(j:Nat)=>(j:Int)).getD i 0<=7:=λi c=>by rw[aaI]at c;have:a[i]< n:=(iL.mp (abM.mp ((d _).mpr (abc c))).1).1;have:=S.n5;rw[aaE,aaP,aag c];exact⟨agZ _,by show(a[i]:Int)<=7;omega⟩
   rw[if_pos (decide_eq_true ⟨h4,p⟩),e];simp[dN,ad0,ado]
 unfold xH;by_cases nB:sh=1
 . obtain⟨σ',e,b⟩:=zM (m:=m) R S.on S.n5 nB (aG n o sh).length 0 L q g none none none (by omega) v (by have:=gj (n:=n) (o:=o) (sh:=sh);have:=S.n5;omega)
   rw[aeW,aeW]at e;refine⟨_,_,eC (σ1:=σ') ?_ (fin (L++(aG n o sh).filter λj=>iC n o sh ks fs ss j) σ' b ?_ λj=>?_)⟩
   . rw[gK,wt,show aq aS (af (aa 0) (af (aa 1) aj)) (mσ m o n ks fs ss q) g=_ from S.hs g]
     exact e
   . have r:=ab0 (λj=>iC n o sh ks fs ss j) (aG n o sh)
     have u:=gj (n:=n) (o:=o) (sh:=sh);have:=S.n5;rw[aai];omega
   . rw[x j,aao,abM]
 . have h:aG n o sh = []:=by unfold aG;rw[if_neg nB]
   have f:=S.hs g;rw[h]at f;refine⟨_,_,eC (σ1:=mσ m o n ks fs ss q) ?_ (fin L _ rfl (by omega) λj=>?_)⟩
   . rw[gK,wt,show aq aS (af (aa 0) (af (aa 1) aj)) (mσ m o n ks fs ss q) g=_ from f]
     obtain⟨y,l⟩:=aab.mp v;rw[<- l,abP];rfl
   rw[x j,h];simp
theorem O0 (S:xK m n o tg sh num hands cD aS)(R:cw n o sh ks fs ss):ao false 10 3 (oo num hands cD aS) [m,.int o,.tup (bN ks fs ss)] []=some (.lst (dN (eE n o tg sh ks fs ss)),[]):=by
 have l:1<=n:=by have:=S.on;omega
 have key:∃f i,oo num hands cD aS ([m,.int o,.tup (bN ks fs ss)].map some++aap (10-3) none) []=some (.rt (.lst (dN (eE n o tg sh ks fs ss))),f,i):=by
  have p:cI (-2) (n:Int)=true:=rfl;have r:=DZ (ks:=ks) (a:=-2*(n:Int)) (b:=-(n:Int)) R.fl R.sl l (by omega) rfl;have v:=Bj (ks:=ks) (b:=-(n:Int)) R.fl R.sl l rfl
  suffices h:∃f i,OW num cD aS (mσ m o n ks fs ss 0) [[]]=some (.rt (.lst (dN (eE n o tg sh ks fs ss))),f,i) by obtain⟨f,i,h⟩:=h;exact⟨f,i,cJ (S.hh []) (cJ (d:=.tup fs) (g1:=[]) (by simp[jr,p,r]) (cJ (d:=.tup ss) (g1:=[]) (by simp[jr,v]) (cJ (d:=.ref 0) (g1:=[[]]) rfl h)))⟩
  by_cases h:tg=1
  . have z:az (er n o).length=true:=aJ (by have:=jN (n:=n) (o:=o);have:=S.n5;omega)
    have c:=xI (g:=[[]]) R (er n o) (λj s=>(iL.mp s).1) none;have x:(λj=>nc tg fs ss j)=λj=>decide (cT (fs.getD j .ax)≠cT (ss.getD j .ax)):=by funext j;simp[nc,h]
    rw[<- x]at c
    suffices k:∃f i,xH aS (mσ m o n ks fs ss 1) [[],dN ((er n o).filter λj=>nc tg fs ss j)]=some (.rt (.lst (dN (eE n o tg sh ks fs ss))),f,i) by obtain⟨f,i,e⟩:=k;exact⟨f,i,eC ((lq (g1:=[[]]) (by simp[mσ,ng,S.ht,dq,h])).trans (ic (d:=.ref 1) (by simp[mσ,ng,S.ho,dy,aT,cQ,z,cf,c,jj]))) e⟩
    refine D1 S R (L:=(er n o).filter λj=>nc tg fs ss j) rfl ?_ λj=>?_
    . have y:=ab0 (λj=>nc tg fs ss j) (er n o)
      have:=jN (n:=n) (o:=o);have:=S.n5;omega
    . rw[zN,abM]
  . have u:¬((tg:Int)=1):=by omega
    suffices k:∃f i,xH aS (mσ m o n ks fs ss 0) [[]]=some (.rt (.lst (dN (eE n o tg sh ks fs ss))),f,i) by obtain⟨f,i,e⟩:=k;exact⟨f,i,eC ((ie (g1:=[[]]) (by simp[mσ,ng,S.ht,dq,u])).trans rfl) e⟩
    refine D1 S R (L:=[]) rfl (by simp) λj=>?_;rw[zN];simp[nc,h]
 obtain⟨f,i,e⟩:=key;have w:wp (ao false 10 3 (oo num hands cD aS) [m,.int o,.tup (bN ks fs ss)] []) λq=>q=(.lst (dN (eE n o tg sh ks fs ss)),[]):=by refine jL rfl ?_;rw[e];simp only[fZ];refine⟨?_,by simp,by simp,by simp⟩;simp only[bB];exact cG _ sP
 obtain⟨q,e,rfl⟩:=w;exact e
end
mutual
theorem mN:∀d:D,flat d=true->lK d=true
 |.ax,_=>rfl|.bl _,_=>rfl|.int _,_=>rfl|.str _,_=>rfl|.tup xs,h=>by simp only[lK];exact jh xs (by simpa[flat]using h)|.lst xs,h=>by simp only[lK];exact jh xs (by simpa[flat]using h)|.dn,_=>rfl|.ref _,_=>rfl|.aC _,_=>rfl|.fn _ _,h=>by simp[flat]at h
theorem jh:∀ds:List D,aQ ds=true->iG ds=true
 | [],_=>rfl|d::ds,h=>by simp only[aQ,aae]at h;simp only[iG,mN d h.1,jh ds h.2,ael]
end
theorem fq {ds:List D}(h:∀d∈ds,flat d=true):aQ ds=true:=by
 induction ds with
 |nil=>rfl|cons d ds ih=>simp only[aQ,h d (by simp),ih λx a=>h x (by simp[a]),ael]
theorem oU {ds:List D}{k:Nat}(h:∀d∈ds,dep d<=k):bp ds<=k:=by
 induction ds with
 |nil=>simp[bp]|cons d ds ih=>simp only[bp];exact agB.mpr ⟨h d (by simp),ih λx a=>h x (by simp[a])⟩
theorem SC.flat {n:Nat}{c:D}(h:SC n c):L3.flat c=true:=by
 cases h with
 |mk v bs t vw hv hb hw ha =>
  have a:aQ (bs.map D.int)=true:=fq λd hd=>by obtain⟨i,_,rfl⟩:=aaQ.mp hd;rfl
  have b:aQ vw=true:=fq λd hd=>(ha d hd).1;simp[L3.flat,aQ,hv.1,a,b]
section
variable {n o sh:Nat}{c:D}{g:G}{ks fs ss:List D}
def xM:FE:=ak av (ak av (aa 1) (fC (.int 1))) (aa 0)
theorem KA (h:SC n c)(d:o<n):fH (dD 1 1 xM) [.int o,c] g=some (.int (cB c o),g):=by
 have b:iG [.int o,c]=true:=by simp[iG,lK,mN c h.flat]
 have a:aA 0 [.int o,c]=true:=by simp[aA,bB,bX c h.flat]
 have e:dD 1 1 xM [.int o,c] []=some (.int (cB c o),[]):=by unfold dD;rw[if_pos (show [D.int o,c].length=1+1 from rfl)];exact sQ (σ:=[some (.int o),some c]) rfl rfl h d
 unfold fH gu;rw[if_pos b,if_pos a,e];rfl
def lV (R:Str->Option Fn):FS:=ay (aD (ak (bS eX (· / ·)) (aq cK (af (aa 3) aj)) (fC (.int 2))) (gN 4)) (ay (cy (aH (ak oEq (ak (bS cp (· % ·)) (aq cK (af (aa 3) aj)) (fC (.int 2))) (fC (.int 0)))) (aO (aM aI (af (fC (.str "read")) (af (ak av (aa 0) (aa 4)) aj)))) bb) (aO (aM aI (af (fC (.str "write")) (af (ak av (aa 1) (aa 4)) (af (ib R 2 (af (ak av (aa 3) (qG mj (fC (.int 1)))) aj)) aj))))))
theorem ixl {xs:List D}{j:Nat}{d:D}(h:xs[j]? = some d):cz (.lst xs) (.int j) g=some (d,g):=by simp[cz,aT,fW h]
theorem Bk {R:Str->Option Fn}{h j rd:List D}{i d:D}{p:Nat}(l:rd.length=2*p)(k:h[p]? = some d):ao false 5 4 (lV R) [.lst h,.lst j,i,.tup rd] []=some (.tup [.str "read",d],[]):=by
 have b:((rd.length:Int) / 2)=(p:Int):=by omega
 have f:((rd.length:Int) % 2)=0:=by omega
 have a:az 2=true:=rfl;have c:eX (rd.length:Int) 2=true:=rfl;have e:cp (rd.length:Int) 2=true:=rfl;refine bL (σ':=[some (.lst h),some (.lst j),some i,some (.tup rd),some (.int p)]) rfl ?_ rfl;have x:=fW k;simp[lV,c,e,b,f,x,a]
theorem D2 {R:Str->Option Fn}{fn:Fn}{nm:Str}{q:List D}{l r rd:List D}{c d b:D}{p:Nat}(hR:R nm=some fn)(u:fn (q ++ [c]) []=some (b,[]))(s:(rd ++ [c]).length=2*p+1)(v:r[p]? = some d):ao false 5 4 (lV R) [.lst l,.lst r,.fn nm q,.tup (rd ++ [c])] []=some (.tup [.str "write",d,b],[]):=by
 have j:rd.length=2*p:=by simpa using s
 have a:(((rd ++ [c]).length:Int) / 2)=(p:Int):=by rw[s];omega
 have h:¬(((rd ++ [c]).length:Int) % 2)=0:=by rw[s];omega
 have i:az 3=true:=rfl;have e:eX ((rd ++ [c]).length:Int) 2=true:=rfl;have f:cp ((rd ++ [c]).length:Int) 2=true:=rfl;have x:=fW v;have a1:bJ (rd ++ [c]) (-1)=some c:=ET rd c;generalize k:rd ++ [c]=W at *;refine bL (σ':=[some (.lst l),some (.lst r),some (.fn nm q),some (.tup W),some (.int p)]) rfl ?_ rfl;have ec:ib R 2 (af (ak av (aa 3) (qG mj (fC (.int 1)))) aj) [some (.lst l),some (.lst r),some (.fn nm q),some (.tup W),some (.int p)] []=some (b,[]):=by rw[um (y:=nm) (ds:=q) (fn:=fn) rfl hR];simp[cz,aT,a1,u]
 simp[lV,e,f,a,h,x,i,ec]
noncomputable def bA (o j:Nat):D:=.tup [.str "sign",.int o,.int j]
def stK (o:Nat)(a:Nat×D):List D:=[.tup [.str "read",own "own" a.1],.tup [.str "write",bA o a.1,.int (cB a.2 o)]]
def fS (n o sh:Nat)(ks:List D):List D:=((aG n o sh).zip ks).flatMap (stK o)++fI "own" n++fI "own" n
theorem iM {o:Nat}:∀{l:List (Nat×D)},(l.flatMap (stK o)).length=2*l.length
 | []=>rfl|x::l=>by rw[acU,aai,iM];simp[stK];omega
theorem xO {o:Nat}:∀{l:List (Nat×D)} {p:Nat} {x:Nat×D},l[p]? = some x->(l.flatMap (stK o))[2*p]? = some (.tup [.str "read",own "own" x.1])
 | [],p,x,h=>by simp at h|y::l,0,x,h=>by simp at h;subst h;rfl|y::l,p+1,x,h=>by have:=xO (o:=o) (l:=l) (p:=p) (x:=x) (by simpa using h);rw[acU,show 2*(p+1)=(stK o y).length+2*p by simp[stK];omega,aaJ (by omega)];simpa using this
theorem zO {o:Nat}:∀{l:List (Nat×D)} {p:Nat} {x:Nat×D},l[p]? = some x->(l.flatMap (stK o))[2*p+1]? = some (.tup [.str "write",bA o x.1,.int (cB x.2 o)])
 | [],p,x,h=>by simp at h|y::l,0,x,h=>by simp at h;subst h;rfl|y::l,p+1,x,h=>by have:=zO (o:=o) (l:=l) (p:=p) (x:=x) (by simpa using h);rw[acU,show 2*(p+1)+1=(stK o y).length+(2*p+1) by simp[stK];omega,aaJ (by omega)];simpa using this
theorem cw.zl (R:cw n o sh ks fs ss):((aG n o sh).zip ks).length=(aG n o sh).length:=by rw[aeM,R.kl];omega
theorem cw.wl (R:cw n o sh ks fs ss):(bN ks fs ss).length=2*(aG n o sh).length+2*n:=by simp[bN,lU,R.kl,R.fl,R.sl];omega
theorem cw.Ui (R:cw n o sh ks fs ss):(fS n o sh ks).length=2*(aG n o sh).length+2*n:=by unfold fS;rw[aai,aai,iM,R.zl,iK];omega
theorem cw.LF (R:cw n o sh ks fs ss){i:Nat}(d:1<=n)(a:2*(aG n o sh).length<=i)(b:i<2*(aG n o sh).length+2*n):(fS n o sh ks)[i]? = some (.tup [.str "read",own "own" ((i-2*(aG n o sh).length) % n)]):=by
 unfold fS;rw[aaU,aaJ (by rw[iM,R.zl];exact a),iM,R.zl];have he:i-2*(aG n o sh).length<2*n:=by omega
 generalize i-2*(aG n o sh).length=e at *;have ud:∀{e:Nat},e<n->(fI "own" n)[e]? = some (.tup [.str "read",own "own" e]):=fun {e} h=>by simp[fI,h]
 by_cases h:e<n
 . rw[aan (by rw[iK];exact h),ahJ h];exact ud h
 . rw[aaJ (by rw[iK];omega),iK,Nat.mod_eq_sub_mod (by omega),ahJ (by omega)];exact ud (by omega)
end
def Gg:FE:=cH cg (dy (aa 3)) [none,none] (gN 1) dZ (aM aI (af (fC (.str "own")) (af (aa 1) aj)))
def Gh:FE:=cH cg (dy (aa 3)) [none,none,some 1] (gN 1) dZ (aM aI (af (fC (.str "sign")) (af (aa 2) (af (aa 1) aj))))
def uu (a c b:Fn)(nm:Str):FS:=ay (aD (aq c (af (aa 0) (af (aa 1) aj))) (gN 3)) (ay (cy (aH (ak oLt (aq cK (af (aa 2) aj)) (ak dI (fC (.int 2)) (aq cK (af (aa 3) aj))))) (ay (aD Gg (gN 4)) (ay (aD Gh (gN 5)) (aO (aq (jE b) (af (aa 4) (af (aa 5) (af (sx nm [1]) (af (aa 2) aj)))))))) bb) (aO (aM aI (af (fC (.str "read")) (af (aM aI (af (fC (.str "own")) (af (ak (bS cp (· % ·)) (ak (bS eu (· - ·)) (aq cK (af (aa 2) aj)) (ak dI (fC (.int 2)) (aq cK (af (aa 3) aj)))) (aq a (af (aa 0) aj))) aj))) aj)))))
section
variable {n o tg sh:Nat}{m:D}{ks fs ss:List D}{g:G}{num hands cD aS:Fn}
theorem cw.flat (R:cw n o sh ks fs ss):∀x∈bN ks fs ss,L3.flat x=true:=λx a=>by
 unfold bN dG at a;rcases aao.mp a with a|a
 . rcases aao.mp a with a|a
   . obtain⟨c,b,a⟩:=ac9.mp a
     simp only[aah,aaw,or_false]at a;rcases a with rfl|rfl
     . exact(R.ka _ b).flat
     . rfl
   . exact(R.fa _ a).flat
 . exact(R.sa _ a).flat
theorem O1 {S:List Nat}(hz:S.length<=20){σ:Sg}(i:σ[3]? = some (some (.lst (dN S)))):Gg σ g=some (.lst (S.map λj=>own "own" j),g):=by
 have f:az S.length=true:=aJ (by omega);have b:az 2=true:=rfl;have c:=fY (t:=gN 1) (c:=dZ) (e:=aM aI (af (fC (.str "own")) (af (aa 1) aj))) (h:=λd=>D.tup [.str "own",d]) (λσ=>∃a,σ = [none,a]) (dN S) [none,none] g ⟨_,rfl⟩ (by rintro t hm σ ⟨a,rfl⟩;exact⟨[none,some t],by simp,by simp,by simp[b],_,rfl⟩)
 simp[Gg,i,dy,aT,cQ,cf,c,cg,f];simp[dN,own,ado]
theorem O2 {S:List Nat}(hz:S.length<=20){σ:Sg}(i:σ[1]? = some (some (.int o)))(k:σ[3]? = some (some (.lst (dN S)))):Gh σ g=some (.lst (S.map λj=>bA o j),g):=by
 have b:az S.length=true:=aJ (by omega);have f:az 3=true:=rfl;have c:=fY (t:=gN 1) (c:=dZ) (e:=aM aI (af (fC (.str "sign")) (af (aa 2) (af (aa 1) aj)))) (h:=λd=>D.tup [.str "sign",.int o,d]) (λσ=>∃a,σ = [none,a,some (.int o)]) (dN S) [none,none,some (.int o)] g ⟨_,rfl⟩ (by rintro t hm σ ⟨a,rfl⟩;exact⟨[none,some t,some (.int o)],by simp,by simp,by simp[f],_,rfl⟩)
 simp[Gh,i,k,dy,aT,cQ,cf,c,cg,b];simp[dN,bA,ado]
theorem qh {fn:Fn}{ds:List D}{d:D}(b:aA 0 ds=true)(c:fn ds []=some (d,[]))(a:flat d=true):jE fn ds g=some (d,g):=by unfold jE gu;rw[if_pos b,c];simp only[aaj];rw[if_pos (bX d a)];simp only[aaj];rw[if_pos (mN d a)]
theorem RX {A:Str->Option Fn}{nm:Str}(hR:A nm=some (fH (dD 1 1 xM)))(S:xK m n o tg sh num hands cD aS)(R:cw n o sh ks fs ss){i:Nat}(B:i<2*(aG n o sh).length+2*n):
   ∃x,(fS n o sh ks)[i]? = some x/\ao false 6 3 (uu hands aS (ao false 5 4 (lV A)) nm) [m,.int o,.tup ((bN ks fs ss).take i)] g=some (x,g):=by
 have u:=R.wl;have n5:=S.n5;have y:1<=n:=by have:=S.on;omega
 have sl:=gj (n:=n) (o:=o) (sh:=sh);have lt:((bN ks fs ss).take i).length=i:=by rw[aa2,u];omega
 have d:cI 2 ((aG n o sh).length:Int)=true:=rfl;by_cases h:i<2*(aG n o sh).length
 . have b:i / 2<(aG n o sh).length:=by omega
   have c:i / 2<ks.length:=by rw[R.kl];exact b
   have l:((aG n o sh).zip ks)[i / 2]? = some ((aG n o sh)[i / 2],ks[i / 2]):=by rw[acY];exact⟨aag b,aag c⟩
   have a1:aA 0 ((aG n o sh).map λj=>own "own" j)=true:=cR λx a=>by obtain⟨j,_,rfl⟩:=aaQ.mp a;rfl
   have a2:aA 0 ((aG n o sh).map λj=>bA o j)=true:=cR λx a=>by obtain⟨j,_,rfl⟩:=aaQ.mp a;rfl
   have q:aA 0 ((bN ks fs ss).take i)=true:=cR λx a=>bX x (R.flat x (abk a));obtain⟨x,r,v,a⟩:∃x,(((aG n o sh).zip ks).flatMap (stK o))[i]? = some x/\L3.flat x=true/\ao false 5 4 (lV A) [.lst ((aG n o sh).map λj=>own "own" j),.lst ((aG n o sh).map λj=>bA o j),.fn nm [.int o],.tup ((bN ks fs ss).take i)] []=some (x,[]):=by
     by_cases he:i % 2=0
     . have:=xO (o:=o) l
       rw[show 2*(i / 2)=i by omega]at this;exact⟨_,this,rfl,Bk (p:=i / 2) (by rw[lt];omega) (by rw[aaP,aag b];rfl)⟩
     . have z:(bN ks fs ss)[2*(i / 2)]? = some ks[i / 2]:=by
         unfold bN;rw[aaU,aan (by rw[lU];omega)];exact DY (aag c)
       have e:(bN ks fs ss).take i=(bN ks fs ss).take (2*(i / 2)) ++ [ks[i / 2]]:=by
         conv=>lhs;rw[show i=2*(i / 2)+1 by omega]
         rw[agp,z];rfl
       have:=zO (o:=o) l;rw[show 2*(i / 2)+1=i by omega]at this;refine⟨_,this,rfl,?_⟩;rw[e];refine D2 (p:=i / 2) hR (KA (R.ka _ (abc c)) S.on) ?_ ?_
       . rw[<- e,lt];omega
       . rw[aaP,aag b];rfl
   refine⟨x,?_,?_⟩
   . unfold fS
     rw[aaU,aan (by rw[iM,R.zl];exact h)];exact r
   generalize (bN ks fs ss).take i=W at *;refine bL rfl (cJ (S.hs g) (xp ((lq (g1:=g) ?_).trans (cJ (O1 (by omega) rfl) (cJ (O2 (o:=o) (by omega) rfl rfl) (sH (qh (by simp[aA,bB,a1,a2,q]) a v))))))) rfl;simp[cQ,d,dq,lt];omega
 . refine⟨_,R.LF y (by omega) B,?_⟩
   have s:az 2=true:=rfl;have f:cp ((i:Int)-2*((aG n o sh).length:Int)) (n:Int)=true:=fg (by omega);have em:((i:Int)-2*((aG n o sh).length:Int)) % (n:Int)=(((i-2*(aG n o sh).length) % n:Nat):Int):=by rw[show(i:Int)-2*((aG n o sh).length:Int)=((i-2*(aG n o sh).length:Nat):Int) by omega];exact(Int.natCast_emod _ _).symm
   have k:¬((i:Int)<2*((aG n o sh).length:Int)):=by omega
   generalize (bN ks fs ss).take i=W at *;refine bL rfl (cJ (S.hs g) (eC (g1:=g) ((ie (g1:=g) (by simp[cQ,d,dq,lt,k])).trans rfl) (sH ?_))) rfl;simp[cQ,d,lt,S.hh g,f,em,s,own]
end
abbrev R3:=List D×List D×List D
def bP (r:R3):List D:=bN r.1 r.2.1 r.2.2
def a_ (n o sh:Nat):Nat:=2*(aG n o sh).length+2*n
def WQ:FS:=aO (aM aI (af (aM aI (af (fC (.str "told")) (af (ak av (ak av (aa 7) (ak av (aa 5) (fC (.int 1)))) (fC (.int 3))) aj))) (af (aa 6) aj)))
def O3:FS:=ay (cy (aH (ak yT (ak av (aa 5) (fC (.int 1))) (fC .ax))) (aO (aM aI (af (aM aI (af (fC (.str "told")) (af (aq jq (af (cH cg (dy (aa 7)) [none,none] (gN 1) dZ (ak av (aa 1) (fC (.int 0)))) aj)) aj))) (af (aa 6) aj)))) bb) WQ
def WR:FS:=ay (aD (js (aa 2) (eB (ak (bS eu (· - ·)) (aa 6) (aa 3))) (eB (aa 6))) (gN 7)) O3
def WS:FS:=ay (aD (ak bI (ak av (aa 5) (fC (.int 0))) (aa 4)) (gN 6)) WR
def O4 (rstep:Fn):FS:=ay (cy (aH (ak yT (aa 5) (fC .ax))) (aO (aM aI (af (aq rstep (af (aa 0) (af (aa 1) (af (js (aa 2) (eB (ak dI (ak (bS eX (· / ·)) (aq cK (af (aa 2) aj)) (aa 4)) (aa 4))) pW) aj)))) (af (aq cK (af (aa 2) aj)) aj)))) bb) WS
def WT (num a rstep:Fn)(nm:Str):FS:=ay (aD (aq (jE a) (af (aa 4) (af (aa 4) (af (aq num (af (aa 0) (af (fC (.str "moves")) aj))) (af (aa 2) (af (sx nm [0,1]) aj)))))) (gN 5)) (O4 rstep)
def uv (num a c b rstep:Fn)(nm:Str):FS:=ay (aD (aq a (af (aa 0) aj)) (gN 3)) (ay (aD (ak bI (ak dI (fC (.int 2)) (aq cK (af (aq c (af (aa 0) (af (aa 1) aj))) aj))) (ak dI (fC (.int 2)) (aa 3))) (gN 4)) (WT num b rstep nm))
def Ie (a:Fn):FE:=aq a (af (aa 0) (af (aa 1) (af (aa 2) aj)))
section
variable {n o tg sh mo:Nat}{m:D}{g:G}{num hands cD aS:Fn}{rs:List R3}
structure pJ (n o sh:Nat)(rs:List R3):Prop where
 all:∀r∈rs,cw n o sh r.1 r.2.1 r.2.2
 fB:rs.length<=20
def dP (n o tg sh:Nat)(r:R3):List Nat:=eE n o tg sh r.1 r.2.1 r.2.2
theorem pJ.Uj (S:xK m n o tg sh num hands cD aS)(v:flat m=true)(W:pJ n o sh rs):zJ (fH (dD 2 1 (Ie (ao false 10 3 (oo num hands cD aS))))) [m,.int o] (a_ n o sh) (rs.map bP) (rs.map (dP n o tg sh)):=by
 have u:1<=n:=by have:=S.on;omega
 refine⟨λw hw=>?_,by simp,by unfold a_;omega,by simpa using W.fB,λi p=>?_⟩
 . obtain⟨r,s,rfl⟩:=aaQ.mp hw
   exact(W.all r s).wl
 . have a:i<rs.length:=by simpa using p
   have d:(rs.map bP).getD i []=bP rs[i]:=by simp[aaE,aaP,aag a]
   have f:(rs.map (dP n o tg sh)).getD i []=dP n o tg sh rs[i]:=by simp[aaE,aaP,aag a]
   have R:=W.all _ (abc a);rw[d,f];refine⟨λg=>?_,xJ,by have:=Kz (n:=n) (o:=o) (tg:=tg) (sh:=sh) (ks:=rs[i].1) (fs:=rs[i].2.1) (ss:=rs[i].2.2);have:=S.n5;show(eE _ _ _ _ _ _ _).length<=20;omega⟩;have c:aQ (bP rs[i])=true:=fq R.flat;have j:iG ([m,.int o] ++ [.tup (bP rs[i])])=true:=by simp[iG,lK,mN m v,jh _ c]
   have h:aA 0 ([m,.int o] ++ [.tup (bP rs[i])])=true:=by simp[aA,bB,bX m v,cG _ c]
   have e:dD 2 1 (Ie (ao false 10 3 (oo num hands cD aS))) ([m,.int o] ++ [.tup (bP rs[i])]) []=some (.lst (dN (dP n o tg sh rs[i])),[]):=by unfold dD;rw[if_pos (show([m,.int o] ++ [.tup (bP rs[i])]:List D).length=2+1 from rfl)];exact O0 S R
   have b:=sP (l:=dP n o tg sh rs[i]);have q:bB 0 (.lst (dN (dP n o tg sh rs[i])))=true:=by simp only[bB];exact cG _ b
   have k:lK (.lst (dN (dP n o tg sh rs[i])))=true:=by simp only[lK];exact jh _ b
   unfold fH gu;rw[if_pos j,if_pos h,e];simp only[aaj];rw[if_pos q];simp only[aaj];rw[if_pos k]
structure xP (m:D)(n o tg sh mo:Nat)(num hands cD aS:Fn)(R R':Str->Option Fn)(nm kz:Str):Prop where
 S:xK m n o tg sh num hands cD aS
 hm:∀g,num [m,.str "moves"] g=some (.int mo,g)
 fm:flat m=true
 h1:R nm=some (fH (dD 2 1 (Ie (ao false 10 3 (oo num hands cD aS)))))
 h2:R' kz=some (fH (dD 1 1 xM))
variable {R R':Str->Option Fn}{nm kz:Str}
theorem zP (F:xP m n o tg sh mo num hands cD aS R R' nm kz){c rstep:Fn}{rd:List D}{en:D}(f:jE c [.int (a_ n o sh),.int (a_ n o sh),.int mo,.tup rd,.fn nm [m,.int o]] g=some (en,g)):
   uv num hands aS c rstep nm ([m,.int o,.tup rd].map some++aap (8-3) none) g=O4 rstep [some m,some (.int o),some (.tup rd),some (.int n),some (.int (a_ n o sh)),some en,none,none] g:=by
 have e:(2*((aG n o sh).length:Int)+2*(n:Int))=((a_ n o sh:Nat):Int):=by unfold a_;omega
 refine cJ (F.S.hh g) (cJ (d:=.int (a_ n o sh)) (g1:=g) ?_ (cJ (d:=en) (g1:=g) ?_ rfl))
 . have a:cI 2 ((aG n o sh).length:Int)=true:=rfl
   have b:cI 2 (n:Int)=true:=rfl;simp[F.S.hs g,cQ,a,b,e]
 . simp[F.hm g,sx,wN,f]
theorem sR (S:xK m n o tg sh num hands cD aS):1<=a_ n o sh:=by have:=S.on;unfold a_;omega
theorem KC (W:pJ n o sh rs){rest:List D}(c:∀x∈rest,flat x=true):aQ ((rs.map bP).flatten++rest)=true:=fq λx a=>by
 rcases aao.mp a with a|a
 . obtain⟨w,hw,a⟩:=List.mem_flatten.mp a
   obtain⟨r,b,rfl⟩:=aaQ.mp hw;exact(W.all r b).flat x a
 . exact c x a
theorem D3 (W:pJ n o sh rs){rest:List D}:((rs.map bP).flatten++rest).length=rs.length*a_ n o sh+rest.length:=by rw[aai,ky (n:=a_ n o sh) (λw hw=>by obtain⟨r,a,rfl⟩:=aaQ.mp hw;exact(W.all r a).wl),aaI]
theorem uw (F:xP m n o tg sh mo num hands cD aS R R' nm kz)(W:pJ n o sh rs){rest:List D}(a:∀x∈rest,flat x=true):aA 0 [.int (a_ n o sh),.int (a_ n o sh),.int mo,.tup ((rs.map bP).flatten++rest),.fn nm [m,.int o]]=true:=by have:=cG (n:=0) _ (KC W a);simp[aA,bB,bX m F.fm];simpa using this
theorem D4 (F:xP m n o tg sh mo num hands cD aS R R' nm kz)(W:pJ n o sh rs){r:R3}(y:cw n o sh r.1 r.2.1 r.2.2){i:Nat}(v:i<a_ n o sh)(z:∀k,k<rs.length->dM (.int mo) (rs.map (dP n o tg sh)) k):
  ∃x u,(fS n o sh r.1)[i]? = some x/\ao false 8 3 (uv num hands aS (ao false 10 5 (gE R)) (ao false 6 3 (uu hands aS (ao false 5 4 (lV R')) kz)) nm) [m,.int o,.tup ((rs.map bP).flatten++(bP r).take i)] g=some (.tup [x,u],g):=by
 have sp:=sR F.S;have fr:∀x∈(bP r).take i,flat x=true:=λx c=>y.flat x (abk c);have lt:((bP r).take i).length=i:=by rw[aa2,show(bP r).length=a_ n o sh from y.wl];omega
 have l:=Bg (rest:=(bP r).take i) (mv:=.int mo) F.h1 (W.Uj F.S F.fm) rfl (by rw[lt];exact v) (λk s=>z k (by simpa using s));have h:=qh (g:=g) (uw F W fr) l rfl;obtain⟨x,c,ex⟩:=RX (g:=g) F.h2 F.S y (i:=i) v;refine⟨x,.int ((rs.length*a_ n o sh+i:Nat):Int),c,?_⟩;have len:=D3 W (rest:=(bP r).take i);rw[lt]at len;have cut:cutD ((rs.map bP).flatten++(bP r).take i) (some ((rs.length*a_ n o sh:Nat):Int)) none=(bP r).take i:=by unfold cutD;rw[HT.l8,j_ (by rw[len];omega),oj (n:=a_ n o sh) (λw hw=>by obtain⟨q,j,rfl⟩:=aaQ.mp hw;exact(W.all q j).wl) (by simp)];rw[show List.drop rs.length (rs.map bP)= [] from adF.mpr (by simp),List.flatten_nil,acq,len];exact abj (by rw[lt];omega)
 have a:((rs.length*a_ n o sh+i:Nat):Int) / (a_ n o sh:Int)*(a_ n o sh:Int)=((rs.length*a_ n o sh:Nat):Int):=by
  have:(rs.length*a_ n o sh+i) / a_ n o sh=rs.length:=by rw[adv,Nat.mul_add_div (by omega),Nat.div_eq_of_lt v];omega
  rw[<- Int.natCast_ediv,this];simp
 have e:a_ n o sh<=20:=by have:=F.S.n5;have:=gj (n:=n) (o:=o) (sh:=sh);unfold a_;omega
 generalize (rs.map bP).flatten++(bP r).take i=RD at *;change ao _ _ _ _ [m,.int o,.tup ((bP r).take i)] g=_ at ex;have st:=zP (rstep:=ao false 6 3 (uu hands aS (ao false 5 4 (lV R')) kz)) F h;generalize rs.length*a_ n o sh+i=L at *;generalize rs.length*a_ n o sh=U at *;generalize a_ n o sh=p at *;have b:eX L p=true:=mJ (by omega) (by omega);have d:cI ((L:Int) / p) p=true:=lR (by omega) (by omega);have f:az 2=true:=rfl;refine bL rfl (st.trans (oS (g1:=g) rfl ?_)) rfl;simp[len,b,d,a,jr,cut,ex,f]
theorem Gi (W:pJ n o sh rs){r:R3}(i:cw n o sh r.1 r.2.1 r.2.2){rest:List D}:cutD (((rs ++ [r]).map bP).flatten++rest) (some (((rs.length+1)*a_ n o sh-n:Nat):Int)) (some (((rs.length+1)*a_ n o sh:Nat):Int))=r.2.2:=by
 have f:((rs.map bP).flatten++bP r).length=(rs.length+1)*a_ n o sh:=by rw[D3 W,show(bP r).length=a_ n o sh from i.wl,aca];omega
 have e:((rs ++ [r]).map bP).flatten++rest=((rs.map bP).flatten++(dG r.1++r.2.1))++(r.2.2++rest):=by simp[bP,bN]
 have d:n<=a_ n o sh:=by unfold a_;omega
 have c:n<=(rs.length+1)*a_ n o sh:=by rw[aca];omega
 have a:((rs.map bP).flatten++(dG r.1++r.2.1)).length=(rs.length+1)*a_ n o sh-n:=by
  have h:((rs.map bP).flatten++bP r).length=((rs.map bP).flatten++(dG r.1++r.2.1)).length+n:=by simp only[bP,bN,aai,i.sl];omega
  omega
 have b:(((rs ++ [r]).map bP).flatten++rest).length>=(rs.length+1)*a_ n o sh:=by rw[e,aai,a,aai,i.sl];omega
 unfold cutD;rw[j_ (by omega),CB (by omega),e,<- a,ad7,show(rs.length+1)*a_ n o sh-((rs.map bP).flatten++(dG r.1++r.2.1)).length=r.2.2.length by rw[a,i.sl];omega,aij]
def eQ (ss:List D):Option Nat->D
 |none=>.tup (ss.map cV)|some j=>cW (ss.getD j .ax)
theorem D5 (F:xP m n o tg sh mo num hands cD aS R R' nm kz)(W:pJ n o sh rs){r:R3}(A:cw n o sh r.1 r.2.1 r.2.2)(fB:rs.length<20){rest:List D}(B:∀x∈rest,flat x=true){en:Option Nat}(E:∀k,k<rs.length->dM (.int mo) ((rs ++ [r]).map (dP n o tg sh)) k)(C:oT (.int mo) ((rs ++ [r]).map (dP n o tg sh)) rs.length en)(H:∀j,en=some j->j<n){rstep:Fn}:
  ao false 8 3 (uv num hands aS (ao false 10 5 (gE R)) rstep nm) [m,.int o,.tup (((rs ++ [r]).map bP).flatten++rest)] g=some (.tup [.tup [.str "told",eQ r.2.2 en],.int (((rs.length+1)*a_ n o sh:Nat):Int)],g):=by
 have sp:=sR F.S;have s:pJ n o sh (rs ++ [r]):=⟨λq f=>by
  rcases aao.mp f with f|f
  . exact W.all q f
  . simp at f;subst f;exact A,by simp;omega⟩
 have lw:((rs ++ [r]).map bP).length=rs.length+1:=by simp
 have v:=Bh (rest:=rest) (mv:=.int mo) (en:=en) F.h1 (s.Uj F.S F.fm) rfl (by omega) (λk hk=>E k (by rw[lw]at hk;omega)) (by rw[lw,ag5];exact C);rw[lw,ag5]at v;have hl:=qh (g:=g) (uw F s B) v (by cases en<;>rfl);have hn:n<=a_ n o sh:=by unfold a_;omega
 have cut:=Gi W A (rest:=rest);have l:az 2=true:=rfl;have e6:((rs.length*a_ n o sh:Nat):Int)+(a_ n o sh:Int)=(((rs.length+1)*a_ n o sh:Nat):Int):=by rw[aca];omega
 have e7:(((rs.length+1)*a_ n o sh:Nat):Int)-(n:Int)=(((rs.length+1)*a_ n o sh-n:Nat):Int):=by
  have:n<=(rs.length+1)*a_ n o sh:=by rw[aca];omega
  omega
 generalize ((rs ++ [r]).map bP).flatten++rest=RD at *;generalize (rs.length+1)*a_ n o sh=U at *;generalize rs.length*a_ n o sh=S at *;rw[<- e7]at cut;have z:∀a b:D,bJ [a,b] 0=some a:=λ_ _=>rfl;have a1:∀a b:D,bJ [a,b] 1=some b:=λ_ _=>rfl;obtain⟨σ,st,i,v6,u⟩:∃σ:Sg,uv num hands aS (ao false 10 5 (gE R)) rstep nm ([m,.int o,.tup RD].map some++aap (8-3) none) g=O3 σ g/\σ[5]? = some (some (.tup [.int S,eD en]))/\σ[6]? = some (some (.int U))/\σ[7]? = some (some (.tup r.2.2)):=
  ⟨_,(zP F hl).trans (eC rfl (cJ (d:=.int U) (g1:=g) (by simp[cz,aT,z,e6]) (cJ (d:=.tup r.2.2) (g1:=g) (by simp[jr,cut]) rfl))),rfl,rfl,rfl⟩
 cases en with
 |none =>
  refine bL rfl (st.trans (oS (g1:=g) (by simp[i,cz,aT,a1,eD,jC]) ?_)) rfl;have zs:az r.2.2.length=true:=aJ (by rw[A.sl];have:=F.S.n5;omega);have c:=fY (t:=gN 1) (c:=dZ) (e:=ak av (aa 1) (fC (.int 0))) (h:=cV) (λσ=>∃a,σ = [none,a]) r.2.2 [none,none] g ⟨_,rfl⟩ (by rintro t hm σ ⟨a,rfl⟩;exact⟨[none,some t],by simp,by simp,(A.sa t hm).val,⟨_,rfl⟩⟩)
  simp[v6,u,dy,aT,cf,zs,c,cg,l,eQ]
 |some j =>
  have p:j<r.2.2.length:=by rw[A.sl];exact H j rfl
  have x:=D0 p;have sc:=(A.sa _ (mem_getD p)).view (g:=g);refine bL rfl (st.trans (eC (σ1:=σ) (g1:=g) (by simp[i,cz,aT,a1,eD,jC]) (sH ?_))) rfl;show _=some (D.tup [.tup [.str "told",cW (r.2.2.getD j .ax)],.int U],g);generalize r.2.2.getD j .ax=y at *;simp[i,v6,u,cz,aT,a1,eD,x,sc,l]
end
end Wg
namespace Wm
open L3 L2 RI
open Pd Wd
def Bl (g:G)(a:Nat):Prop:=∃mv,g[a]? = some mv/\aQ mv=true/\bp mv<=50/\aA 0 mv=true
theorem Bl.of {g g':G}{kq:Nat}(e:g'[kq]? = g[kq]?)(h:Bl g kq):Bl g' kq:=by obtain⟨a,c,b⟩:=h;exact⟨a,by rw[e];exact c,b⟩
structure Wl (g:G)(w h b s r kq:Nat)(l:Int)(ex bx st rd:List D):Prop where
 hw:g[w]? = some (W0 h b l s r++ex)
 hb:g[b]? = some bx
 hs:g[s]? = some st
 hr:g[r]? = some rd
 nd:[w,h,b,s,r].Nodup
 hm:aK ex (.str "moving")=some (.ref kq)
 hk:Bl g kq
 nk:kq ∉ [w,h,b,s,r]
structure Ws (ex bx st rd:List D)(mv:List D):Prop where
 ka:c9 bx=true
 bz:bx.length<=500
 ez:ex.length<=100
 sz:st.length<=900
 rz:rd.length<=900
section
variable {g g':G}{w h b s r kq:Nat}{l:Int}{ex bx st rd mv:List D}
theorem Wl.fr (W:Wl g w h b s r kq l ex bx st rd)(f:Fr h g g'):Wl g' w h b s r kq l ex bx st rd:=by have nd:=W.nd;simp only[aaS,aah,aaw,or_false,not_or]at nd;exact⟨by rw[f.2 w nd.1.1];exact W.hw,by rw[f.2 b (aaN nd.2.1.1)];exact W.hb,by rw[f.2 s (aaN nd.2.1.2.1)];exact W.hs,by rw[f.2 r (aaN nd.2.1.2.2)];exact W.hr,W.nd,W.hm,W.hk.of (by rw[f.2 kq λz=>W.nk (by simp[z])]),W.nk⟩
theorem Wl.KD (W:Wl g w h b s r kq l ex bx st rd)(v:Int):Wl (g.set w (W0 h b v s r++ex)) w h b s r kq v ex bx st rd:=by have nd:=W.nd;simp only[aaS,aah,aaw,or_false,not_or]at nd;have a:=(aab.mp W.hw).1;exact⟨aav a,by rw[aam nd.1.2.1];exact W.hb,by rw[aam nd.1.2.2.1];exact W.hs,by rw[aam nd.1.2.2.2];exact W.hr,W.nd,W.hm,W.hk.of (by rw[aam λz=>W.nk (by simp[<- z])]),W.nk⟩
theorem Wl.D6 (W:Wl g w h b s r kq l ex bx st rd)(c:List D):Wl (g.set b c) w h b s r kq l ex c st rd:=by have nd:=W.nd;simp only[aaS,aah,aaw,or_false,not_or]at nd;have a:=(aab.mp W.hb).1;exact⟨by rw[aam (aaN nd.1.2.1)];exact W.hw,aav a,by rw[aam nd.2.2.1.1];exact W.hs,by rw[aam nd.2.2.1.2];exact W.hr,W.nd,W.hm,W.hk.of (by rw[aam λz=>W.nk (by simp[<- z])]),W.nk⟩
theorem Wl.qi (W:Wl g w h b s r kq l ex bx st rd)(c:List D):Wl (g.set s c) w h b s r kq l ex bx c rd:=by have nd:=W.nd;simp only[aaS,aah,aaw,or_false,not_or]at nd;have a:=(aab.mp W.hs).1;exact⟨by rw[aam (aaN nd.1.2.2.1)];exact W.hw,by rw[aam (aaN nd.2.2.1.1)];exact W.hb,aav a,by rw[aam nd.2.2.2.1];exact W.hr,W.nd,W.hm,W.hk.of (by rw[aam λz=>W.nk (by simp[<- z])]),W.nk⟩
theorem Wl.qj (W:Wl g w h b s r kq l ex bx st rd)(D7:List D):Wl (g.set r D7) w h b s r kq l ex bx st D7:=by have nd:=W.nd;simp only[aaS,aah,aaw,or_false,not_or]at nd;have a:=(aab.mp W.hr).1;exact⟨by rw[aam (aaN nd.1.2.2.2)];exact W.hw,by rw[aam (aaN nd.2.2.1.2)];exact W.hb,by rw[aam (aaN nd.2.2.2.1)];exact W.hs,aav a,W.nd,W.hm,W.hk.of (by rw[aam λz=>W.nk (by simp[<- z])]),W.nk⟩
end
section
variable {g:G}{w h b s r kq:Nat}{l:Int}{ex bx st rd mv:List D}{key c:D}
theorem KG (W:Wl g w h b s r kq l ex bx st rd)(S:Ws ex bx st rd mv)(f:aW 6 key=true)(i:aK bx key=some c):
  F8 [some (.aC w),some key] g=some (.rt c,[some (.aC w),some key],(g.set s (st ++ [.tup [.str "read",key]])).set r (rd ++ [c])):=by
 have W1:=W.qi (st ++ [.tup [.str "read",key]]);have a:=W1.qj (rd ++ [c]);have e:az (st.length+1)=true:=aJ (by have:=S.sz;omega);have d:az (rd.length+1)=true:=aJ (by have:=S.rz;omega);unfold F8;simp[W.hw,gm,sI,oP,sJ,W.hs,e,W1.hw,W1.hb,W1.hr,f,i,d,a.hw,a.hb]
theorem KH {take other:Fn}{P:D->Prop}{K B:Int}(J:dY take)(W:Wl g w h b s r kq l ex bx st rd)(S:Ws ex bx st rd mv)(E:Hd g h B)(L:0<=K)(M:B+K+1<2 ^ 40)(C:aW 6 key=true)(A:aK bx key=some c)(H:P c)
   (I:∀g l B,Wl g w h b s r kq l ex bx st rd->Hd g h B->B+K<2 ^ 40->∃c' g',other [.aC w,key] g=some (c',g')/\P c'/\Hd g' h (B+K)/\Fr h g g'):
   ∃g1 l1 lW c1,qg take other [some (.aC w),some key] g=some (.nx,[some (.aC w),some key],g1)/\Wl g1 w h b s r kq l1 ex lW st rd/\Ws ex lW st rd mv/\Hd g1 h (B+K+1)/\aK lW key=some c1/\P c1/\cv [w,h,b,s,r] g g1/\(lW=bx\/lW=aP bx key c1):=by
 have z:=(DK.gG key C).1;have nd:=W.nd;simp only[aaS,aah,aaw,or_false,not_or]at nd;obtain⟨p,Cu,y9,i,_⟩:=W.hk;have a:nM key (.ref kq) g=some (p.any λy=>aF y key):=by unfold nM;simp only[aT,Cu,aaj,Hy,z,y9,i,decide_true,ael,if_true]
 by_cases h0:0<l
 . by_cases h1:(p.any λy=>aF y key)=true
   . obtain⟨d,g1,j,d0,d1,k,f1⟩:=J h 3 g B (by omega) (by decide) (by decide) E
     have W1:=W.fr f1;by_cases h2:d=0
     . subst h2
       have o:=W1.KD (l-1);have x:iz (W0 h b l s r++ex)=true:=by unfold iz;exact aJ (by have:=S.ez;simp[W0];omega)
       obtain⟨c',g3,v,q,u,n⟩:=I _ _ _ o (Hd.ne k (aaN (by exact λe=>nd.1.1 e.symm))) (by omega);have f:=o.fr n;have W4:=f.D6 (aP bx key c');have Oj:iz bx=true:=by unfold iz;exact aJ (by have:=S.bz;omega)
       refine⟨g3.set b (aP bx key c'),l-1,aP bx key c',c',?_,W4,⟨iJ C S.ka,by rw[oQ A];exact S.bz,S.ez,S.sz,S.rz⟩,(Hd.ne u (aaN nd.2.1.1)).mono (by omega),gO C S.ka,q,?_,.inr rfl⟩
       . unfold qg
         simp[W.hw,gm,rE,h0,qf,W.hm,a,h1,rD,j,W1.hw,x,OI,v,f.hw,oP,f.hb,C,Oj]
       . exact((cv.of f1 (by simp)).trans (cv.set (by simp))).trans ((cv.of n (by simp)).trans (cv.set (by simp)))
     . refine⟨g1,l,bx,c,?_,W1,S,k.mono (by omega),A,H,.of f1 (by simp),.inl rfl⟩
       unfold qg;simp[W.hw,gm,rE,h0,qf,W.hm,a,h1,rD,j,h2]
   . refine⟨g,l,bx,c,?_,W,S,E.mono (by omega),A,H,.refl,.inl rfl⟩
     unfold qg;simp[W.hw,gm,rE,h0,qf,W.hm,a,h1]
 . refine⟨g,l,bx,c,?_,W,S,E.mono (by omega),A,H,.refl,.inl rfl⟩
   unfold qg;simp[W.hw,gm,rE,h0]
end
def sT (key:D):Prop:=∃j:Nat,key=own "own" j
def lS (other:Fn)(a P:D->Prop)(K:Int)(w h b s r d:Nat)(e:List D):Prop:=∀g l bx st rd B key c,Wl g w h b s r d l e bx st rd->aW 6 key=true->a key->aK bx key=some c->P c->Hd g h B->B+K<2 ^ 40 ->
 ∃c' g',other [.aC w,key] g=some (c',g')/\P c'/\Hd g' h (B+K)/\Fr h g g'
structure Seen (g g':G)(w h b s r kq:Nat)(ex mv bx eO st rd:List D)(key c':D)(P:D->Prop)(B:Int):Prop where
 W:∃l',Wl g' w h b s r kq l' ex eO (st ++ [.tup [.str "read",key]]) (rd ++ [c'])
 ka:c9 eO=true
 bl:eO.length=bx.length
 hd:Hd g' h B
 pc:P c'
 at_:aK eO key=some c'
 ot:∀k,aW 6 k=true->k≠key->aK eO k=aK bx k
 nr:∀n,bB n c'=true->aA n bx=true->aA n eO=true
 fr:cv [w,h,b,s,r] g g'
def jH (see:Fn)(e P:D->Prop)(K:Int)(w h b s r d:Nat)(a mv:List D):Prop:=∀g l bx st rd B key c,Wl g w h b s r d l a bx st rd->Ws a bx st rd mv->Hd g h B->B+K<2 ^ 40->aW 6 key=true->e key->aK bx key=some c->P c ->
 ∃c' g' eO,see [.aC w,key] g=some (c',g')/\Seen g g' w h b s r d a mv bx eO st rd key c' P (B+K)
theorem D9 {take other:Fn}{A P:D->Prop}{K:Int}{w h b s r C:Nat}{E mv:List D}(J:dY take)(H:0<=K)(I:lS other A P K w h b s r C E):jH (ao false 2 2 (F6 take other)) A P (K+1) w h b s r C E mv:=λg l bx st p B key c W S hd hB a ok d pc=>by
 obtain⟨g1,l1,lW,j,q,W1,f,y,i,p1,f1,e⟩:=KH (P:=P) J W S hd H (by omega) a d pc (λg l B W' eG x=>I g l bx st p B key c W' a ok d pc eG x);have nd:=W.nd;simp only[aaS,aah,aaw,or_false,not_or]at nd;have v:=KG W1 f a i;have W2:=(W1.qi (st ++ [.tup [.str "read",key]])).qj (p ++ [j]);refine⟨j,_,lW,bL (σ':=[some (.aC w),some key]) rfl ?_ (by simp[f1.1]),⟨l1,W2⟩,f.ka,?_,?_,p1,i,?_,?_,?_⟩
 . rw[OJ,oF]
   show(qg take other [some (.aC w),some key] g).bind _=_;rw[q];exact v
 . rcases e with rfl|rfl
   . rfl
   . exact oQ d
 . exact(Hd.ne (Hd.ne y (aaN nd.2.1.2.1)) (aaN nd.2.1.2.2)).mono (by omega)
 . intro k hk z
   rcases e with rfl|rfl
   . rfl
   . exact gP a hk (aaN z) S.ka
 . intro n u o
   rcases e with rfl|rfl
   . exact o
   . exact fR (bX _ (DK.gG key a).1) u o
 . exact(f1.trans (cv.set (by simp))).trans (cv.set (by simp))
def Uk (nm:Str)(a b:List D):Prop:=∀k,aW 6 k=true->(∀i,k≠own nm i)->aK b k=aK a k
structure Ci (P:D->Prop)(nm:Str)(n w h b s r kq f:Nat)(ex mv ig st rd:List D)(B K:Int)(g0:G)(j:Nat)(g:G):Prop where
 ex_:∃cs l bx,cs.length=j/\(∀c∈cs,P c)/\g[f]? = some cs/\Wl g w h b s r kq l ex bx (st++fI nm j) (rd++cs)/\c9 bx=true/\bx.length=ig.length/\oa P nm n bx/\aA 0 bx=true/\Uk nm ig bx
 hd:Hd g h (B+j*K)
 len:g.length=f+1
 fr:∀i,i ∉ [w,h,b,s,r,f]->g[i]? = g0[i]?
theorem Wl.take {g:G}{w h b s r a l e d c rd f}(W:Wl g w h b s r a l e d c rd)(hw:w<f)(j:b<f)(n:s<f)(i:r<f)(k:a<f):Wl (g.take f) w h b s r a l e d c rd :=
 ⟨by rw[aaK hw];exact W.hw,by rw[aaK j];exact W.hb,by rw[aaK n];exact W.hs,by rw[aaK i];exact W.hr,W.nd,W.hm,W.hk.of (aaK k),W.nk⟩
structure Ba (P:D->Prop)(nm:Str)(n w h b s r kq:Nat)(ex ig st rd:List D)(B:Int)(g:G)(cs:List D)(g':G):Prop where
 len:cs.length=n
 all:∀c∈cs,P c
 W:∃l bx,Wl g' w h b s r kq l ex bx (st++fI nm n) (rd++cs)/\c9 bx=true/\bx.length=ig.length/\oa P nm n bx/\aA 0 bx=true/\Uk nm ig bx
 hd:Hd g' h B
 fr:cv [w,h,b,s,r] g g'
 bd:Bd g'
def kX (ac2:Fn)(P:D->Prop)(K:Int)(w h b s r c:Nat)(a mv:List D):Prop:=∀g l bx st rd B nm (n:Nat),nm=aaD "own"->Wl g w h b s r c l a bx st rd->Ws a bx st rd mv->Hd g h B->B+n*K<2 ^ 40->n<=20->st.length<=800->rd.length<=800->oa P nm n bx->Bd g->aA g.length a=true->aA 0 bx=true->aA 0 st=true->aA 0 rd=true ->
 ∃cs g',ac2 [.aC w,.str nm,.int n] g=some (.lst cs,g')/\Ba P nm n w h b s r c a bx st rd (B+n*K) g cs g'
theorem gH {w h b s r y:Nat}{q:List D}{g:G}{l:Int}{p o rd:List D}{B:Int}(W:Wl g w h b s r y l q p o rd)(u:Hd g h B)(z:aA g.length q=true)(x:aA 0 p=true)(A:aA 0 o=true)(C:aA 0 rd=true)(v:∀i xs,i ∉ [w,h,b,s,r]->g[i]? = some xs->aA g.length xs=true):Bd g:=λi xs c=>by
 have j:b<g.length:=(aab.mp W.hb).1;have ls:s<g.length:=(aab.mp W.hs).1;have e:r<g.length:=(aab.mp W.hr).1;have f:h<g.length:=u.lt;by_cases c1:i=w
 . subst c1;rw[W.hw]at c;cases c
   refine cP ?_ z;simp[W0,aA,bB,f,j,ls,e]
 by_cases c2:i=h
 . subst c2
   obtain⟨a,n,d,k,_⟩:=u;rw[k]at c;cases c;simp[aA,bB]
 by_cases d:i=b
 . subst d;rw[W.hb]at c;cases c;exact cj (aaR _) x
 by_cases c4:i=s
 . subst c4;rw[W.hs]at c;cases c;exact cj (aaR _) A
 by_cases c5:i=r
 . subst c5;rw[W.hr]at c;cases c;exact cj (aaR _) C
 . exact v i xs (by simp[c1,c2,d,c4,c5]) c
theorem Bm {see:Fn}{P:D->Prop}{K:Int}{w h b s r A:Nat}{C mv:List D}(E:∀c,P c->flat c=true)(H:0<=K)(I:jH see sT P K w h b s r A C mv):kX (ao false 5 3 (mK see)) P K w h b s r A C mv:=λg l bx st rd B nm n Dk W S hd hB hn da YE ab bd ij O7 kA kB=>by
 have lw:w<g.length:=(aab.mp W.hw).1;have lb:b<g.length:=(aab.mp W.hb).1;have ls:s<g.length:=(aab.mp W.hs).1;have lr:r<g.length:=(aab.mp W.hr).1;have lh:h<g.length:=hd.lt;have lk:A<g.length:=by obtain⟨D8,y,_⟩:=W.hk;exact(aab.mp y).1
 have key:wp (ao false 5 3 (mK see) [.aC w,.str nm,.int n] g) λq=>∃cs,q.1 = .lst cs/\Ba P nm n w h b s r A C bx st rd (B+n*K) g cs q.2:=by
  refine Kt rfl ?_;simp[mK];refine iV ?_;simp;refine⟨by omega,f6 (λj σ u=>(∃o,σ = [some (.aC w),some (.str nm),some (.int n),some (.ref g.length),o])/\Ci P nm n w h b s r A g.length C mv bx st rd B K (g ++ [[]]) j u) _ 0 _ _ ⟨⟨_,rfl⟩,?_⟩ ?_ ?_⟩
  . have up:∀{i:Nat},i<g.length->(g ++ [[]])[i]? = g[i]?:=λf=>aan f
    refine⟨⟨[],l,bx,rfl,by simp,by simp,⟨by rw[up lw];exact W.hw,by rw[up lb];exact W.hb,by rw[up ls];simpa[fI]using W.hs,by rw[up lr];simpa using W.hr,W.nd,W.hm,W.hk.of (up lk),W.nk⟩,S.ka,rfl,ab,O7,λ_ _ _=>rfl⟩,?_,by simp,λ_ _=>rfl⟩;obtain⟨a,b',c,y,h2⟩:=hd;exact⟨a,b',c,by rw[up lh];exact y,by simpa using h2⟩
  . rintro j d σ u hj ⟨⟨o,rfl⟩,⟨⟨cs,l',eO,hl,hp,hf,W',O8,Ig,xQ,Ih,O9⟩,eG,Gj,Co⟩⟩
    obtain⟨gQ,rfl⟩:=cZ hj;simp only[aaY]at *;obtain⟨c,hc,pc⟩:=xQ j gQ;have O6:B + ↑j*K+K<2 ^ 40:=by have:((j:Int)+1)*K<=(n:Int)*K:=Int.mul_le_mul_of_nonneg_right (by omega) H;rw[Int.add_mul,Int.one_mul]at this;omega
    have S':Ws C eO (st++fI nm j) (rd++cs) mv:=⟨O8,by rw[Ig];exact S.bz,S.ez,by simp[iK];omega,by simp[hl];omega⟩
    obtain⟨c',g2,Ii,e,Z⟩:=I u l' eO (st++fI nm j) (rd++cs) _ (own nm j) c W' S' eG O6 gC ⟨j,by rw[Dk]⟩ hc pc;have pb:g.length ∉ [w,h,b,s,r]:=by simp only[aah,aaw,or_false,not_or];exact⟨by omega,by omega,by omega,by omega,by omega⟩
    have ae:g2[g.length]? = some cs:=by rw[Z.fr.2 _ pb];exact hf
    have hz:az (cs.length+1)=true:=aJ (by omega);have e':see [.aC w,.tup [.str nm,.int j]] u=some (c',g2):=e;simp[e',ae,hz];refine⟨⟨cs ++ [c'],?_⟩,?_,by simp[Z.fr.1,Gj],?_⟩
    . obtain⟨l2,v⟩:=Z.W
      have ne:∀{i:Nat},i<g.length->(g2.set g.length (cs ++ [c']))[i]? = g2[i]?:=λf=>aam (by omega);refine⟨l2,Ii,by simp[hl],?_,?_,⟨by rw[ne lw];exact v.hw,by rw[ne lb];exact v.hb,by rw[ne ls,F9];simpa using v.hs,by rw[ne lr];simpa using v.hr,v.nd,v.hm,v.hk.of (ne lk),v.nk⟩,Z.ka,Z.bl.trans Ig,?_,Z.nr 0 (bX _ (E _ Z.pc)) Ih,λk hk hn=>(Z.ot k hk (hn j)).trans (O9 k hk hn)⟩
      . intro x p
        rcases aao.mp p with p|p
        . exact hp x p
        . simp at p;subst p;exact Z.pc
      . rw[aav (by rw[Z.fr.1,Gj];omega)]
      . intro i f
        by_cases e:i=j
        . subst e;exact⟨c',Z.at_,Z.pc⟩
        . rw[Z.ot _ gC (xu e)];exact xQ i f
    . obtain⟨a,b',c2,y,h2⟩:=Z.hd
      refine⟨a,b',c2,by rw[aam (by omega)];exact y,?_⟩;have e2:B + ↑(j+1)*K=B + ↑j*K+K:=by rw[ahV,Int.add_mul];simp;omega
      rw[e2];exact h2
    . intro i f
      simp only[aah,aaw,or_false,not_or]at f;rw[aam (aaN f.2.2.2.2.2),Z.fr.2 i (by simp[f])];exact Co i (by simp[f])
  . rintro σ u ⟨⟨o,rfl⟩,⟨⟨cs,l',eO,hl,hp,hf,W',O8,Ig,xQ,Ih,O9⟩,eG,Gj,Co⟩⟩
    simp only[bZ,aaY]at *;simp[hf];have O_:(List.take g.length u).length=g.length:=by simp;omega
    have Bt:Bd (u.take g.length):=gH (W'.take lw lb ls lr lk) (Hd.take eG lh) (by rw[O_];exact ij) Ih (cP kA oR) (cP kB (cR λx p=>bX x (E x (hp x p)))) λi xs f p=>by
      have z:i<g.length:=by have:=(aab.mp p).1;omega
      rw[aaK z,Co i (by simp only[aah,aaw,or_false,not_or]at f ⊢;omega),aan z]at p;rw[O_];exact bd i _ p
    have nb:∀x,x∈u.take g.length->aA g.length x=true:=λx p=>by obtain⟨i,f⟩:=acA.mp p;have:=Bt i x f;rwa[O_]at this
    refine⟨cR λx p=>bX x (E x (hp x p)),nb,⟨hl,hp,⟨l',eO,W'.take lw lb ls lr lk,O8,Ig,xQ,Ih,O9⟩,Hd.take eG lh,⟨by simp;omega,λi f=>?_⟩,?_⟩⟩
    . by_cases z:i<g.length
      . rw[aaK z,Co i (by simp only[aah,aaw,or_false,not_or]at f ⊢;exact⟨f.1,f.2.1,f.2.2.1,f.2.2.2.1,f.2.2.2.2,by omega⟩),aan z]
      . rw[aa8 (by simp;omega),aa8 (by omega)]
    . exact Bt
 obtain⟨⟨q1,q2⟩,e,cs,rfl,c⟩:=key;exact⟨cs,q2,e,c⟩
theorem Bn {A:Fn}{g:G}{w h b s r O:Nat}{l:Int}{N L I rd:List D}{m C E H B:D}(W:Wl g w h b s r O l N L I rd)(M:I.length=rd.length)(hz:rd.length<=900)(fs:∀x∈I,flat x=true/\dep x<=60)(P:flat B=true)(J:dep B<=50)(K:DN A m C E H I rd B g):
  ao false 10 6 (qd A) [m,C,E,H,.aC w,B] g=some (.bl true,g):=by
 have key:wp (ao false 10 6 (qd A) [m,C,E,H,.aC w,B] g) λq=>q=(.bl true,g):=by
  have o:(kf I rd).length=rd.length:=by simp[kf,M]
  have e0:kQ (ak av (aa 4) (fC (.str "steps"))) (ak av (aa 4) (fC (.str "reads"))) [some m,some C,some E,some H,some (.aC w),some B,some (.tup []),none,none,none] g=some (jt (λg=>g[s]?) (λg=>g[r]?),rd.length,g):=by
    have z:jt (λg=>g[s]?) (λg=>g[r]?) g=some (kf I rd):=by simp[jt,W.hs,W.hr]
    rw[wJ,show ak av (aa 4) (fC (.str "steps")) [some m,some C,some E,some H,some (.aC w),some B,some (.tup []),none,none,none] g=some (.ref s,g) by simp[W.hw,gm,sI]];simp only[aaj,mB];rw[show ak av (aa 4) (fC (.str "reads")) [some m,some C,some E,some H,some (.aC w),some B,some (.tup []),none,none,none] g=some (.ref r,g) by simp[W.hw,gm,sJ]];simp only[aaj,z,abn,o]
  refine wp_run rfl (Wg.fj (d:=.tup []) (g1:=g) rfl (Wd.wp_seq ?_));show wp (oM _ _ _ [some m,some C,some E,some H,some (.aC w),some B,some (.tup []),none,none,none] g) _;rw[wI,e0];simp only[aaj];refine mz (λj σ a=>a=g /\ ∃f i,σ = [some m,some C,some E,some H,some (.aC w),some B,some (.tup (rd.take j)),f,i,none]) _ 0 _ _ (by simp) ⟨rfl,none,none,by simp⟩ ?_ ?_
  . rintro j σ a hj ⟨rfl,f,i,rfl⟩
    refine⟨kf I rd,by simp[jt,W.hs,W.hr],o,λd J=>?_⟩;unfold kf at J;rw[aaP]at J;cases hx:(I.zip rd)[j]? with
    |none=>rw[hx]at J;cases J
    |some pr =>
     obtain⟨x,c⟩:=pr;rw[hx]at J;simp only[abn,acT]at J;subst J;rw[acY]at hx;have y:j<rd.length:=(aab.mp hx.2).1;obtain⟨x',k,e⟩:=K.at_ j y;rw[hx.1]at k;cases k;obtain⟨f1,f2⟩:=fs x (aaO hx.1);have u:az ((rd.take j).length+1)=true:=aJ (by simp;omega);have v:rd.take j ++ [c]=rd.take (j+1):=by rw[agp,hx.2];rfl
     have t:∀σ:Sg,aq A (af (aa 0) (af (aa 1) (af (aa 2) (af (aa 3) (af (aa 6) aj))))) σ a=some (x,a)->σ[7]? = some (some x)->aH (ak bw (aq A (af (aa 0) (af (aa 1) (af (aa 2) (af (aa 3) (af (aa 6) aj)))))) (aa 7)) σ a=some (false,a):=λσ p h2=>by rw[cY,Wg.sO (d':=x) (g2:=a) p (by simp[h2])];simp[dq,f1,f2,j5 x f1]
     refine⟨_,H4,?_⟩;generalize hR:rd.take j=R at *;refine Wg.di (σ1:=[some m,some C,some E,some H,some (.aC w),some B,some (.tup R),some x,some c,none]) (g1:=a) ((ie (g1:=a) (t _ (by rw[<- hR]at e ⊢;exact e) rfl)).trans rfl) ?_;refine⟨_,ic (d:=.tup (rd.take (j+1))) (g1:=a) (by simp[u,v]),⟨rfl,_,_,rfl⟩⟩
  . rintro σ a ⟨rfl,f,i,rfl⟩
    have n:flat (.tup [.str "told",B])=true:=by simp[flat,aQ,P]
    have dt:dep (.tup [.str "told",B])<=60:=by simp[dep,bp];omega
    have e:=K.fin;have q:∀g,oEq (.tup [.str "told",B]) (.tup [.str "told",B]) g=some (.bl true,g):=λg=>by simp[oEq,n,dt,j5 _ n]
    simp[e,q,show kO .tuple (.tup [.str "told",B])=true from rfl]
 obtain⟨q,e,rfl⟩:=key;exact e
theorem D_ {g:G}{w h b s r p:Nat}{l:Int}{o n k rd:List D}{key v:D}(W:Wl g w h b s r p l o n k rd)(u:aW 6 key=true)(y:n.length<=500)(sz:k.length<=900)(x:rd.length<=900):
  ∃g',ao false 3 3 setB [.aC w,key,v] g=some (.ax,g')/\Wl g' w h b s r p l o (aP n key v) (k ++ [.tup [.str "write",key,v]]) (rd ++ [.ax])/\cv [b,s,r] g g':=by
 have W1:=W.qi (k ++ [.tup [.str "write",key,v]]);have a:=W1.qj (rd ++ [.ax]);have d:=a.D6 (aP n key v);have f:az (k.length+1)=true:=aJ (by omega);have c:az (rd.length+1)=true:=aJ (by omega);have j:az 3=true:=rfl;have i:iz n=true:=by unfold iz;exact aJ (by omega)
 have key:wp (ao false 3 3 setB [.aC w,key,v] g) λq=>q=(.ax,((g.set s (k ++ [.tup [.str "write",key,v]])).set r (rd ++ [.ax])).set b (aP n key v)):=by refine wp_run rfl ?_;simp[setB,W.hw,gm,sI,oP,sJ,W.hs,f,W1.hw,W1.hr,u,c,j,a.hw,a.hb,i]
 obtain⟨q,e,rfl⟩:=key;exact⟨_,e,d,((cv.set (by simp)).trans (cv.set (by simp))).trans (cv.set (by simp))⟩
end Wm
namespace Wd
open L3 L2 RI Pd
def rJ (a:Fn):FS:=aO (aq jq (af (cH cg (eH (af (aa 1) aj)) [none,none,some 0] (gN 1) dZ (aq a (af (aa 2) aj))) aj))
def oV (f:Fn):Prop:=∀n (k:Nat) g (B:Int),k<=20->B+3*k<2 ^ 40->Hd g n B->∃(ws:List D) (g':G),f [.ref n,.int k] g=some (.tup ws,g')/\ws.length=k/\(∀w∈ws,vG w)/\Hd g' n (B+3*k)/\Fr n g g'
theorem Ea {A:Fn}(C:og A):oV (ao false 2 2 (rJ A)):=λn k g B hk hB hd=>by
 have key:wp (ao false 2 2 (rJ A) [.ref n,.int k] g) λq=>∃ws:List D,q.1 = .tup ws/\ws.length=k/\(∀w∈ws,vG w)/\Hd q.2 n (B+3*k)/\Fr n g q.2:=by
  refine wp_run rfl ?_;simp[rJ];refine iV ?_;have l:az k=true:=aJ (by omega);simp[bZ,l];refine⟨by omega,?_⟩;refine iF (λj acc σ a=>(∃i,σ = [none,i,some (.ref n)])/\(acc.length=j /\ ∀w∈acc,vG w)/\Hd a n (B+3*j)/\Fr n g a) _ 0 _ _ [] ⟨⟨none,rfl⟩,⟨rfl,by simp⟩,by simpa using hd,.refl⟩ ?_ ?_
  . rintro j d acc σ a u ⟨⟨i,rfl⟩,⟨f,c⟩,h,b⟩
    obtain⟨z,rfl⟩:=cZ u;simp only[aaY]at *;obtain⟨v,g2,r,o,hd2,f2⟩:=C n a _ (by omega) h;simp[r,f];refine⟨λw hw=>?_,hd2.mono (by omega),b.trans f2⟩;rcases hw with hw|rfl
    . exact c w hw
    . exact o
  . rintro xs σ a ⟨_,⟨f,c⟩,h,b⟩
    simp only[acq,bZ,aaY]at *;simp[f,l];exact⟨b.1,c,h,b⟩
 obtain⟨⟨d,a⟩,e,ws,rfl,p,y,s,x⟩:=key;exact⟨ws,a,e,p,y,s,x⟩
end Wd
namespace Wg
open L3 L2 RI Pd Wd SJ
def va (take:Fn):FS:=aO (aq jq (af (cH cg (eH (af (aa 1) aj)) [none,none,some 0] (gN 1) dZ (aq take (af (aa 2) (af (fC (.int 2)) aj)))) aj))
def rK (f:Fn):Prop:=∀n (k:Nat) g (B:Int),k<=20->B+k<2 ^ 40->Hd g n B->∃(bs:List Int) (g':G),f [.ref n,.int k] g=some (.tup (bs.map .int),g')/\bs.length=k/\Hd g' n (B+k)/\Fr n g g'
theorem KI {take:Fn}(z:dY take):rK (ao false 2 2 (va take)):=λn k g B u v hd=>by
 have key:wp (ao false 2 2 (va take) [.ref n,.int k] g) λq=>∃bs:List Int,q.1 = .tup (bs.map .int)/\bs.length=k/\Hd q.2 n (B+k)/\Fr n g q.2:=by
  refine wp_run rfl ?_;simp[va];refine iV ?_;have i:az k=true:=aJ (by omega);simp[bZ,i];refine⟨by omega,?_⟩;refine iF (λj acc σ a=>(∃h,σ = [none,h,some (.ref n)])/\(∃bs:List Int,acc=bs.map D.int/\bs.length=j)/\Hd a n (B+j)/\Fr n g a) _ 0 _ _ [] ⟨⟨none,rfl⟩,⟨[],rfl,rfl⟩,by simpa using hd,.refl⟩ ?_ ?_
  . rintro j d acc σ a p ⟨⟨h,rfl⟩,⟨bs,rfl,c⟩,f,b⟩
    obtain⟨s,rfl⟩:=cZ p;simp only[aaY]at *;simp;refine z.w (by omega) (by decide) (by decide) f λx g2 x0 y hd2 f2=>?_;exact⟨⟨bs ++ [x],by simp,by simp[c]⟩,hd2.mono (by omega),b.trans f2⟩
  . rintro xs σ a ⟨_,⟨bs,e,c⟩,f,b⟩
    simp only[acq,bZ,aaY]at *;subst e;simp[c,i];exact⟨b.1,bs,rfl,c,f,b⟩
 obtain⟨⟨d,a⟩,e,bs,rfl,l,r,o⟩:=key;exact⟨bs,a,e,l,r,o⟩
def vb (take b c a:Fn):FS:=aO (aM aI (af (aq b (af (aa 0) aj)) (af (aq c (af (aa 0) (af (aa 1) aj))) (af (aq take (af (aa 0) (af (fC (.int 2)) aj))) (af (aq a (af (aa 0) (af (aa 1) aj))) aj)))))
def rL (f:Fn):Prop:=∀n (k:Nat) g (B:Int),k<=5->B+30<2 ^ 40->Hd g n B->∃(c:D) (g':G),f [.ref n,.int k] g=some (c,g')/\SC k c/\Hd g' n (B+30)/\Fr n g g'
theorem KJ {take A E C:Fn}(H:dY take)(J:og A)(K:rK E)(I:oV C):rL (ao false 2 2 (vb take A E C)):=λn k g B hk hB hd=>by
 have key:wp (ao false 2 2 (vb take A E C) [.ref n,.int k] g) λq=>SC k q.1/\Hd q.2 n (B+30)/\Fr n g q.2:=by refine wp_run rfl ?_;obtain⟨v,g1,a,p1,o,f1⟩:=J n g B (by omega) hd;obtain⟨bs,g2,f,h,hd2,f2⟩:=K n k g1 _ (by omega) (by omega) o;obtain⟨x,g3,u,x0,x1,b,r⟩:=H n 2 g2 _ (by omega) (by decide) (by decide) hd2;obtain⟨ws,g4,y,z,i,l,f4⟩:=I n k g3 _ (by omega) (by omega) b;have s:az 4=true:=rfl;have F:=(f1.trans f2).trans (r.trans f4);simp[vb,a,f,u,y,s];exact⟨F.1,⟨v,bs,x,ws,p1,h,z,i⟩,l.mono (by omega),F⟩
 obtain⟨⟨d,j⟩,e,c,h2,p⟩:=key;exact⟨d,j,e,c,h2,p⟩
def Pa (c b a:Fn):FS:=aO (aM aI (af (aq b (af (aa 2) aj)) (af (aa 5) (af (aq c (af (aa 2) (af (aM bQ (af (aa 6) (af (ak (bS eu (· - ·)) (fC (.int 1)) (aa 6)) (af (ak (bS eu (· - ·)) (fC (.int 1)) (aa 6)) aj)))) aj))) (af (aq a (af (aa 2) (af (aa 3) aj))) aj)))))
def WU (a c d b:Fn):FS:=ay (aD (aq a (af (aa 2) (af (aM bQ (af (aa 5) (af (aa 5) (af (aq jq (af (cH cg (dy (aa 5)) [none,none] (gN 1) dZ (ak (bS eu (· - ·)) (fC (.int 1)) (aa 1))) aj)) (af (aq d (af (aa 2) (af (aa 3) aj))) aj))))) aj))) (gN 5)) (Pa a c b)
def Ed (take c a d b:Fn):FS:=ay (pY 2 3 (af (ak av (aa 0) (fC (.str "hand"))) (af (ak av (aa 0) (fC (.str "hands"))) aj))) (ay (cy (aH (ak oEq (ak av (aa 1) (fC (.int 0))) (fC (.str "sign")))) (aO (aq take (af (aa 2) (af (fC (.int 2)) aj)))) bb) (ay (aD (ak av (ak av (aa 0) (fC (.str "boxes"))) (aa 1)) (gT 4 (bR (gN 4) (bR (gN 5) (bR (gN 6) (bR (gN 7) g_)))))) (WU c a d b)))
theorem KL {nm:Str}{j:Nat}:bJ [D.str nm,.int j] 0=some (.str nm):=rfl
theorem RY:¬(aaD "own" = aaD "sign"):=by decide
theorem Ee {take H A E C:Fn}(I:jf H)(J:og A)(K:rK E)(N:oV C){w h b s r L n:Nat}{ex:List D}(M:aK ex (.str "hands")=some (.int n))(O:n<=5):Wm.lS (ao false 8 2 (Ed take H A E C)) Wm.sT (SC n) 30 w h b s r L ex:=λg l bx st rd B key c W kk ok hc pc hd hB=>by
 obtain⟨j,rfl⟩:=ok;cases pc with
 |mk v bs t vw hv0 Pb hw0 ha0 =>
  have z0:az bs.length=true:=aJ (by omega);have main:wp (ao false 8 2 (Ed take H A E C) [.aC w,own "own" j] g) λq=>SC n q.1/\Hd q.2 h (B+30)/\Fr h g q.2:=by
   refine wp_run rfl ?_
   obtain⟨cs,lc,z⟩:∃cs:List Int,cs.length=n/\cN (gN 1) dZ (ak (bS eu (· - ·)) (fC (.int 1)) (aa 1)) (bs.map D.int) [none,none] g=some (cs.map D.int,g):=⟨bs.map (1 - ·),by simp[Pb],by
    rw[fY (h:=λd=>match d with|.int i=>D.int (1-i)|d=>d) (λσ=>∃a,σ = [none,a]) (bs.map D.int) [none,none] g ⟨_,rfl⟩ (by rintro d hm σ ⟨a,rfl⟩;obtain⟨i,_,rfl⟩:=aaQ.mp hm;exact⟨[none,some (.int i)],by simp,by simp,by simp,_,rfl⟩)]
    simp[ado]⟩
   have z1:az cs.length=true:=aJ (by omega);obtain⟨x,g1,eb,lb,dE,f1⟩:=K h n g B (by omega) (by omega) hd;have W1:=W.fr f1;have u:az 4=true:=rfl;have z3:az 3=true:=rfl;obtain⟨d,g2,e2,hm,hd2,f2⟩:=I h [.tup (bs.map .int),.tup (bs.map .int),.tup (cs.map .int),.tup (x.map .int)] g1 _ (by omega) (by simp) (by simp) dE;refine di (Bf (d:=.ref h) (d':=.int n) (g1:=g) (g2:=g) (by simp[W.hw,gm,rD]) (by simp[W.hw,gm,zE,M])) (di (g1:=g) ((ie (g1:=g) (by simp[own,cz,aT,KL,RY,dq])).trans rfl) (di (σ1:=[some (.aC w),some (own "own" j),some (.ref h),some (.int n),some v,some (.tup (bs.map .int)),some (.int t),some (.tup vw)]) (g1:=g) (by simp[W.hw,gm,oP,W.hb,kk,hc]) (fj (d:=d) (g1:=g2) (by simp[dy,aT,z0,cf,z,cg,z1,eb,u,e2]) ?_)));have:∃cs:List Int,d = .tup (cs.map .int)/\cs.length=n:=by
    simp only[aah,aaw,or_false]at hm;rcases hm with rfl|rfl|rfl|rfl
    . exact⟨bs,rfl,Pb⟩
    . exact⟨bs,rfl,Pb⟩
    . exact⟨cs,rfl,lc⟩
    . exact⟨x,rfl,lb⟩
   obtain⟨cs,rfl,lc⟩:=this;obtain⟨v',g3,f,y,kr,f3⟩:=J h g2 _ (by omega) hd2;simp[Pa,f,z3];refine I.w (by omega) (by simp) (by simp) kr λd g4 hm nh f4=>?_;have:∃i:Int,d = .int i:=by simp only[aah,aaw,or_false]at hm;rcases hm with rfl|rfl|rfl<;>exact⟨_,rfl⟩
   obtain⟨i,rfl⟩:=this;obtain⟨o,g5,k,l5,p5,p,f5⟩:=N h n g4 _ (by omega) (by omega) nh;simp[k,u];have F:=(f1.trans f2).trans ((f3.trans f4).trans f5);exact⟨F.1,⟨v',cs,i,o,y,lc,l5,p5⟩,p.mono (by omega),F⟩
  obtain⟨⟨d,g'⟩,e,h1,h2,h3⟩:=main;exact⟨d,g',e,h1,h2,h3⟩
def Pc:FE:=jz (ak oEq (aa 5) (fC (.int 1))) (ak bw (ak av (ak av (aa 10) (aa 9)) (fC (.int 2))) (ak av (ak av (aa 11) (aa 9)) (fC (.int 2))))
def Pe:FE:=aM bQ (af (ak av (ak av (ak av (aa 10) (aa 9)) (fC (.int 1))) (aa 1)) (af (ak av (ak av (ak av (aa 11) (aa 9)) (fC (.int 1))) (aa 1)) aj))
def Pf:FE:=wk (aa 13) (ak bw (aa 14) (ak gB (aM bQ (af (ak av (aa 8) (aa 9)) aj)) (fC (.int 2))))
def Ij:FE:=ak bI (aa 12) (ak gB (aM bQ (af (aa 9) aj)) (aq jk (af (aa 13) aj)))
def Pg:FS:=cy (aH (ak bw (aa 9) (aa 1))) (ay (aD Pc (gN 13)) (ay (cy (aH (ak oEq (aa 6) (fC (.int 1)))) (ay (aD Pe (gN 14)) (aD Pf (gN 13))) bb) (aD Ij (gN 12)))) bb
section
variable {n o tg sh mo q:Nat}{w m wd:D}{ks fs ss:List D}{g:G}{o13 o14:Option D}
def eR (w:D)(o:Nat)(m wd:D)(n tg sh mo q:Nat)(o9:Option D)(fs ss:List D)(M:List Nat)(o13 o14:Option D):Sg:=[some w,some (.int o),some m,some wd,some (.int n),some (.int tg),some (.int sh),some (.int mo),some (.aC q),o9,some (.lst fs),some (.lst ss),some (.lst (dN M)),o13,o14]
theorem eq_int {i j:Int}:oEq (.int i) (.int j) g=some (.bl (decide (i=j)),g):=by
 by_cases e:i=j
 . subst e;simp[oEq,flat,dep,aF]
 . simp[oEq,flat,dep,aF,e]
theorem Ef {xs:List D}{j:Nat}(h:j<xs.length):av (.lst xs) (.int j) g=some (xs.getD j .ax,g):=by
 have:xs[j]? = some (xs.getD j .ax):=by rw[aaE,aag h];rfl
 rw[Ko];exact ixl this
theorem Eg (R:cw n o sh ks fs ss){j:Nat}(i:j<n){M:List Nat}:Pc (eR w o m wd n tg sh mo q (some (.int j)) fs ss M o13 o14) g=some (.bl (nc tg fs ss j),g):=by
 have c:=(R.fa _ (mem_getD (xs:=fs) (j:=j) (by rw[R.fl];exact i))).dF (g:=g);have e:=(R.sa _ (mem_getD (xs:=ss) (j:=j) (by rw[R.sl];exact i))).dF (g:=g);have b:=Ef (g:=g) (xs:=fs) (j:=j) (by rw[R.fl];exact i);have f:=Ef (g:=g) (xs:=ss) (j:=j) (by rw[R.sl];exact i);have t0:ak oEq (aa 5) (fC (.int 1)) (eR w o m wd n tg sh mo q (some (.int j)) fs ss M o13 o14) g=some (.bl (decide ((tg:Int)=1)),g):=eq_int;have f1:ak av (ak av (aa 10) (aa 9)) (fC (.int 2)) (eR w o m wd n tg sh mo q (some (.int j)) fs ss M o13 o14) g=some (.int (cT (fs.getD j .ax)),g):=by show((av (.lst fs) (.int j) g).bind λr=>av r.1 (.int 2) r.2)=_;rw[b];exact c
 have f2:ak av (ak av (aa 11) (aa 9)) (fC (.int 2)) (eR w o m wd n tg sh mo q (some (.int j)) fs ss M o13 o14) g=some (.int (cT (ss.getD j .ax)),g):=by show((av (.lst ss) (.int j) g).bind λr=>av r.1 (.int 2) r.2)=_;rw[f];exact e
 have d:ak bw (ak av (ak av (aa 10) (aa 9)) (fC (.int 2))) (ak av (ak av (aa 11) (aa 9)) (fC (.int 2))) (eR w o m wd n tg sh mo q (some (.int j)) fs ss M o13 o14) g=some (.bl (decide (cT (fs.getD j .ax)≠cT (ss.getD j .ax))),g):=by rw[hZ,f1,aaj,f2];exact ne_int
 unfold Pc jz;rw[t0];simp only[dq,aaj];unfold nc;by_cases h:tg=1
 . have a:(tg:Int)=1:=by omega
   rw[decide_eq_true a,if_pos rfl,d,decide_eq_true h,afg]
 . have a:¬(tg:Int)=1:=by omega
   rw[decide_eq_false a,if_neg (by simp),decide_eq_false h,aeQ]
theorem Ph (R:cw n o sh ks fs ss)(d:o<n){j:Nat}(c:j<n){M:List Nat}:Pe (eR w o m wd n tg sh mo q (some (.int j)) fs ss M o13 o14) g=some (.lst [.int (cB (fs.getD j .ax) o),.int (cB (ss.getD j .ax) o)],g):=by have a:ak av (ak av (ak av (aa 10) (aa 9)) (fC (.int 1))) (aa 1) (eR w o m wd n tg sh mo q (some (.int j)) fs ss M o13 o14) g=some (.int (cB (fs.getD j .ax) o),g):=sQ (Ef (by rw[R.fl];exact c)) rfl (R.fa _ (mem_getD (by rw[R.fl];exact c))) d;have b:ak av (ak av (ak av (aa 11) (aa 9)) (fC (.int 1))) (aa 1) (eR w o m wd n tg sh mo q (some (.int j)) fs ss M o13 o14) g=some (.int (cB (ss.getD j .ax) o),g):=sQ (Ef (by rw[R.sl];exact c)) rfl (R.sa _ (mem_getD (by rw[R.sl];exact c))) d;unfold Pe;rw[Cz,j9,a,aaj,j9,b];rfl
theorem Pj {x y z:Int}:bw (.lst [.int x,.int y]) (.lst [.int z,.int z]) g=some (.bl (decide (x≠z)||decide (y≠z)),g):=by by_cases h1:x=z<;>by_cases h2:y=z<;>simp[bw,flat,aQ,dep,bp,aF,fO,h1,h2]
theorem Pl {c:List D}(d:g[q]? = some c){j:Nat}{z x y:Int}(hz:aK c (.int j)=some (.int z)){b:Bool}{M:List Nat}:Pf (eR w o m wd n tg sh mo q (some (.int j)) fs ss M (some (.bl b)) (some (.lst [.int x,.int y]))) g=some (.bl (b||(decide (x≠z)||decide (y≠z))),g):=by
 have s1:ak av (aa 8) (aa 9) (eR w o m wd n tg sh mo q (some (.int j)) fs ss M (some (.bl b)) (some (.lst [.int x,.int y]))) g=some (.int z,g):=by simp[eR,d,hz]
 have s2:ak gB (aM bQ (af (ak av (aa 8) (aa 9)) aj)) (fC (.int 2)) (eR w o m wd n tg sh mo q (some (.int j)) fs ss M (some (.bl b)) (some (.lst [.int x,.int y]))) g=some (.lst [.int z,.int z],g):=by have a:az 1=true:=rfl;rw[hZ,Cz,j9,s1];rfl
 have s3:ak bw (aa 14) (ak gB (aM bQ (af (ak av (aa 8) (aa 9)) aj)) (fC (.int 2))) (eR w o m wd n tg sh mo q (some (.int j)) fs ss M (some (.bl b)) (some (.lst [.int x,.int y]))) g=some (.bl (decide (x≠z)||decide (y≠z)),g):=by rw[hZ,show aa 14 (eR w o m wd n tg sh mo q (some (.int j)) fs ss M (some (.bl b)) (some (.lst [.int x,.int y]))) g=some (.lst [.int x,.int y],g) from rfl,aaj,s2];exact Pj
 unfold Pf wk;rw[show aa 13 (eR w o m wd n tg sh mo q (some (.int j)) fs ss M (some (.bl b)) (some (.lst [.int x,.int y]))) g=some (.bl b,g) from rfl];cases b with
 |true=>rfl|false=>simpa[iE]using s3
theorem Eh {j:Nat}{b:Bool}{M:List Nat}(c:M.length<=100):Ij (eR w o m wd n tg sh mo q (some (.int j)) fs ss M (some (.bl b)) o14) g=some (.lst (dN (M++if b then [j]else [])),g):=by
 have z:az (M.length+1)=true:=aJ (by omega);have a:az M.length=true:=aJ (by omega);cases b with
 |true =>
  have s2:ak gB (aM bQ (af (aa 9) aj)) (aq jk (af (aa 13) aj)) (eR w o m wd n tg sh mo q (some (.int j)) fs ss M (some (.bl true)) o14) g=some (.lst [.int j],g):=rfl;unfold Ij;rw[hZ,show aa 12 (eR w o m wd n tg sh mo q (some (.int j)) fs ss M (some (.bl true)) o14) g=some (.lst (dN M),g) from rfl,aaj,s2];simp[dN,z]
 |false =>
  have s2:ak gB (aM bQ (af (aa 9) aj)) (aq jk (af (aa 13) aj)) (eR w o m wd n tg sh mo q (some (.int j)) fs ss M (some (.bl false)) o14) g=some (.lst [],g):=rfl;unfold Ij;rw[hZ,show aa 12 (eR w o m wd n tg sh mo q (some (.int j)) fs ss M (some (.bl false)) o14) g=some (.lst (dN M),g) from rfl,aaj,s2];simp[dN,a]
end
section
variable {n o tg sh mo q:Nat}{w m wd:D}{ks fs ss:List D}{g:G}{o9 o13 o14:Option D}
def xR (o tg:Nat)(n sh:Nat)(ks fs ss:List D)(j:Nat):List Nat:=(er j o).filter λi=>nc tg fs ss i||iC n o sh ks fs ss i
theorem xS {j:Nat}:er (j+1) o=er j o++if j=o then []else [j]:=by
 unfold er;rw[aeL,adj];by_cases h:j=o
 . rw[if_pos h];simp[h]
 . rw[if_neg h];simp[h]
theorem ql {j:Nat}:xR o tg n sh ks fs ss (j+1)=xR o tg n sh ks fs ss j++if j=o then []else if(nc tg fs ss j||iC n o sh ks fs ss j)=true then [j]else []:=by
 unfold xR;rw[xS,adj];by_cases h:j=o
 . rw[if_pos h,if_pos h];rfl
 . rw[if_neg h,if_neg h,aeq,af5]
theorem KN {j:Nat}:(xR o tg n sh ks fs ss j).length<=j:=aa0 (ab0 _ _) jN
theorem Pm (R:cw n o sh ks fs ss)(f:o<n){b:List D}(c:g[q]? = some b)(i:∀j,j∈aG n o sh->aK b (.int j)=some (.int (sgn n o sh ks j))){j:Nat}(a:j<n)(k:n<=5):
   ∃pK pL,Pg (eR w o m wd n tg sh mo q (some (.int j)) fs ss (xR o tg n sh ks fs ss j) o13 o14) g=some (.nx,eR w o m wd n tg sh mo q (some (.int j)) fs ss (xR o tg n sh ks fs ss (j+1)) pK pL,g):=by
 have ml:=KN (o:=o) (tg:=tg) (n:=n) (sh:=sh) (ks:=ks) (fs:=fs) (ss:=ss) (j:=j);by_cases h:j=o
 . refine⟨o13,o14,?_⟩
   rw[ql,if_pos h,abb];exact(ie (g1:=g) (by rw[cY,sO (d:=.int j) (d':=.int o) (g1:=g) (g2:=g) rfl rfl,ne_int,decide_eq_false (by simp[h])];rfl)).trans rfl
 . have t1:∀y,aH (ak bw (aa 9) (aa 1)) (eR w o m wd n tg sh mo q (some (.int j)) fs ss y o13 o14) g=some (true,g):=λy=>by rw[cY,sO (d:=.int j) (d':=.int o) (g1:=g) (g2:=g) rfl rfl,ne_int,decide_eq_true (by omega)];rfl
   by_cases nB:sh=1
   . have z:=i j (jO.mpr ⟨nB,a,h⟩)
     have e:iC n o sh ks fs ss j=(decide (cB (fs.getD j .ax) o≠sgn n o sh ks j)||decide (cB (ss.getD j .ax) o≠sgn n o sh ks j)):=by unfold iC;rw[decide_eq_true nB,afg]
     rw[ql,if_neg h,e];exact⟨_,_,(lq (t1 _)).trans (cJ (Eg R a) (eC ((lq (g1:=g) (by rw[cY,sO (d:=.int sh) (d':=.int 1) (g1:=g) (g2:=g) rfl rfl,eq_int,decide_eq_true (by omega)];rfl)).trans (cJ (Ph R f a) (ic (Pl c z)))) (ic (Eh (by omega)))))⟩
   . have e:iC n o sh ks fs ss j=false:=by unfold iC;rw[decide_eq_false nB,aeQ]
     rw[ql,if_neg h,e,adJ];exact⟨_,_,(lq (t1 _)).trans (cJ (Eg R a) (eC ((ie (g1:=g) (by rw[cY,sO (d:=.int sh) (d':=.int 1) (g1:=g) (g2:=g) rfl rfl,eq_int,decide_eq_false (by omega)];rfl)).trans rfl) (ic (Eh (by omega)))))⟩
theorem WV (R:cw n o sh ks fs ss)(l:o<n)(s:n<=5){i:List D}(k:g[q]? = some i)(p:∀j,j∈aG n o sh->aK i (.int j)=some (.int (sgn n o sh ks j))):
   wp (dw (eH (af (aa 4) aj)) (gN 9) Pg (eR w o m wd n tg sh mo q o9 fs ss [] o13 o14) g) λr=>r.1 = .nx/\r.2.2=g /\ ∃p9 pK pL,r.2.1=eR w o m wd n tg sh mo q p9 fs ss (eE n o tg sh ks fs ss) pK pL:=by
 rw[gK,rH (n:=n) (g1:=g) rfl (by omega),aaj];refine f6 (λj σ b=>b=g /\ ∃p9 pK pL,σ=eR w o m wd n tg sh mo q p9 fs ss (xR o tg n sh ks fs ss j) pK pL) _ 0 _ _ ⟨rfl,o9,o13,o14,rfl⟩ ?_ ?_
 . rintro j d σ b f ⟨rfl,p9,pK,pL,rfl⟩
   obtain⟨h,rfl⟩:=cZ f;simp only[aaY]at *;obtain⟨a,c,e⟩:=Pm (w:=w) (m:=m) (wd:=wd) (tg:=tg) (mo:=mo) (o13:=pK) (o14:=pL) R l k p h s;exact⟨_,rfl,_,e,rfl,_,a,c,rfl⟩
 . rintro σ b ⟨rfl,p9,pK,pL,rfl⟩
   refine⟨rfl,rfl,p9,pK,pL,?_⟩;rw[bZ,aaY];rfl
end
def Ei (see set:Fn):FS:=cy (jZ (aH (ak oEq (aa 6) (fC (.int 1)))) (aH (ak bw (aa 9) (aa 1)))) (ay (aD (ak av (ak av (aq see (af (aa 0) (af (aM aI (af (fC (.str "own")) (af (aa 9) aj))) aj))) (fC (.int 1))) (aa 1)) (el (aa 8) (aa 9))) (eI (aq set (af (aa 0) (af (aM aI (af (fC (.str "sign")) (af (aa 1) (af (aa 9) aj)))) (af (ak av (aa 8) (aa 9)) aj)))))) bb
noncomputable def ji (w:Nat)(o:Nat)(m wd:D)(n tg sh mo q:Nat)(o9:Option D):Sg:=[some (.aC w),some (.int o),some m,some wd,some (.int n),some (.int tg),some (.int sh),some (.int mo),some (.aC q),o9,none,none,none,none,none]
def Pn (n:Nat)(a:List D):Prop:=∀i j,i<n->j<n->∃c:Int,aK a (bA i j)=some (.int c)
theorem eF {i j:Nat}:aW 6 (bA i j)=true:=rfl
theorem iO {i j k:Nat}:bA i j≠own "own" k:=λe=>by
 unfold bA own at e;injection e with e
 injection e with _ e
 injection e with _ e
 cases e
theorem xU {i j a j':Nat}(h:¬(i=a/\j=j')):bA i j≠bA a j':=λe=>by
 unfold bA at e;injection e with e
 injection e with _ e
 injection e with e1 e
 injection e with e2 _
 injection e1 with e1
 injection e2 with e2
 exact h ⟨by omega,by omega⟩
theorem mO {j o sh:Nat}:aG (j+1) o sh=aG j o sh++if sh=1/\j≠o then [j]else []:=by
 unfold aG;by_cases h:sh=1
 . rw[if_pos h,if_pos h,xS]
   by_cases h2:j=o
   . rw[if_pos h2,if_neg (by simp[h2])]
   . rw[if_neg h2,if_pos ⟨h,h2⟩]
 . rw[if_neg h,if_neg h,if_neg (by simp[h])];rfl
theorem Gk {ks:List D}{c:D}:dG (ks ++ [c])=dG ks ++ [c,.ax]:=by simp[dG]
section
variable {n o tg sh mo:Nat}{m wd:D}{w h b s r kq q:Nat}{ex ig st rd mv:List D}{B:Int}{g0:G}
structure L1 (n o sh:Nat)(w h b s r kq q:Nat)(ex ig st rd:List D)(B:Int)(g0:G)(j:Nat)(g:G)(ks:List D):Prop where
 kl:ks.length=(aG j o sh).length
 ka:∀c∈ks,SC n c
 sd:∃sd,g[q]? = some sd/\c9 sd=true/\sd.length<=2*j/\aA 0 sd=true /\ ∀i,i∈aG j o sh->aK sd (.int i)=some (.int (sgn j o sh ks i))
 W:∃l bx,Wm.Wl g w h b s r kq l ex bx (st++((aG j o sh).zip ks).flatMap (stK o)) (rd++dG ks)/\c9 bx=true/\bx.length=ig.length/\oa (SC n) "own" n bx/\Pn n bx/\aA 0 bx=true
 hd:Hd g h (B+j*31)
 len:g.length=q+1
 fr:∀i,i ∉ [w,h,b,s,r,q]->g[i]? = g0[i]?
theorem Po {g:G}{j:Nat}:jZ (aH (ak oEq (aa 6) (fC (.int 1)))) (aH (ak bw (aa 9) (aa 1))) (ji w o m wd n tg sh mo q (some (.int j))) g=some (decide (sh=1/\j≠o),g):=by
 have a:((sh:Int)=1)=(sh=1):=propext (by omega);have b:((j:Int)≠(o:Int))=(j≠o):=propext (by omega);have c:aH (ak bw (aa 9) (aa 1)) (ji w o m wd n tg sh mo q (some (.int j))) g=some (decide ((j:Int)≠(o:Int)),g):=by rw[cY,show ak bw (aa 9) (aa 1) (ji w o m wd n tg sh mo q (some (.int j))) g=bw (.int j) (.int o) g from rfl,ne_int];rfl
 have t1:aH (ak oEq (aa 6) (fC (.int 1))) (ji w o m wd n tg sh mo q (some (.int j))) g=some (decide ((sh:Int)=1),g):=by simp[ji,dq];rfl
 rw[yQ,t1];simp only[aaj,c,a,b];by_cases h:sh=1<;>simp[h]
theorem KO {see set:Fn}{g:G}{ks:List D}{j:Nat}{o9:Option D}(I:L1 n o sh w h b s r kq q ex ig st rd B g0 j g ks)(p:¬(sh=1/\j≠o)):
   Ei see set (ji w o m wd n tg sh mo q (some (.int j))) g=some (.nx,ji w o m wd n tg sh mo q (some (.int j)),g)/\L1 n o sh w h b s r kq q ex ig st rd B g0 (j+1) g ks:=by
 have a:aG (j+1) o sh=aG j o sh:=by rw[mO,if_neg p,abb]
 have d:∀i,sgn (j+1) o sh ks i=sgn j o sh ks i:=λi=>by unfold sgn;rw[a]
 refine⟨?_,by rw[a];exact I.kl,I.ka,?_,by rw[a];exact I.W,I.hd.mono (by omega),I.len,I.fr⟩
 . unfold Ei
   rw[ie (g1:=g) (by rw[Po,decide_eq_false p])];rfl
 . obtain⟨k,a1,a2,l,e,f⟩:=I.sd
   exact⟨k,a1,a2,by omega,e,λi c=>by rw[a]at c;rw[d];exact f i c⟩
theorem xV {g:G}{l:Int}{c st rd xs:List D}(W:Wm.Wl g w h b s r kq l ex c st rd)(a:q≠w/\q≠h/\q≠b/\q≠s/\q≠r)(d:q≠kq):Wm.Wl (g.set q xs) w h b s r kq l ex c st rd :=
 ⟨by rw[aam a.1];exact W.hw,by rw[aam a.2.2.1];exact W.hb,by rw[aam a.2.2.2.1];exact W.hs,by rw[aam a.2.2.2.2];exact W.hr,W.nd,W.hm,W.hk.of (aam d),W.nk⟩
theorem qm {k v:D}:∀{xs:List D},(aP xs k v).length<=xs.length+2
 | []=>by simp[aP]| [_]=>by simp[aP]
 |a::b::r=>by
  simp only[aP];split
  . simp
  . have:=qm (k:=k) (v:=v) (xs:=r)
    simp;omega
theorem KQ {see set:Fn}{g:G}{ks:List D}{j:Nat}(N:Wm.jH see Wm.sT (SC n) 31 w h b s r kq ex mv)(L:set=ao false 3 3 setB)(I:L1 n o sh w h b s r kq q ex ig st rd B g0 j g ks)(H:j<n)(J:o<n)(P:n<=5)(Q:B+200<2 ^ 40)(C:q ∉ [w,h,b,s,r])(A:q≠kq)(sz:st.length<=700)(O:rd.length<=700)(M:ex.length<=100)(K:ig.length<=500)(E:sh=1/\j≠o):
   ∃g' Pq,Ei see set (ji w o m wd n tg sh mo q (some (.int j))) g=some (.nx,ji w o m wd n tg sh mo q (some (.int j)),g')/\L1 n o sh w h b s r kq q ex ig st rd B g0 (j+1) g' Pq:=by
 obtain⟨sd,a1,a2,a3,a4,a5⟩:=I.sd;obtain⟨l,bx,W,ka,bl,zQ,xW,nb⟩:=I.W;obtain⟨c,ai,pc⟩:=zQ j H;have u:aG (j+1) o sh=aG j o sh ++ [j]:=by rw[mO,if_pos E]
 have kl:=I.kl;have sl:=gj (n:=j) (o:=o) (sh:=sh);have zl:((aG j o sh).zip ks).length=(aG j o sh).length:=by rw[aeM,kl];omega
 have l1:(st++((aG j o sh).zip ks).flatMap (stK o)).length<=800:=by rw[aai,iM,zl];omega
 have l2:(rd++dG ks).length<=800:=by rw[aai,lU,kl];omega
 have S:Wm.Ws ex bx (st++((aG j o sh).zip ks).flatMap (stK o)) (rd++dG ks) mv:=⟨ka,by rw[bl];exact K,M,by omega,by omega⟩
 obtain⟨f,g1,lW,e1,Z⟩:=N g l bx _ _ _ (own "own" j) c W S I.hd (by omega) gC ⟨j,rfl⟩ ai pc;obtain⟨ae,W1⟩:=Z.W;have gL:g1[q]? = some sd:=by rw[Z.fr.2 q C];exact a1
 have Hr:q<g1.length:=(aab.mp gL).1;have ux:q≠w/\q≠h/\q≠b/\q≠s/\q≠r:=by simpa[not_or]using C
 have Bo:aK (aP sd (.int j) (.int (cB f o))) (.int j)=some (.int (cB f o)):=gO rfl a2;generalize hD:aP sd (.int j) (.int (cB f o))=cb at Bo;have W2:=xV (xs:=cb) W1 ux A;have eA:=aav (a:=cb) Hr;obtain⟨g3,e3,W3,f3⟩:=Wm.D_ (key:=bA o j) (v:=.int (cB f o)) W2 eF (by rw[Z.bl,bl];exact K) (by simp at l1 ⊢;omega) (by simp at l2 ⊢;omega);have scc:=Z.pc;have z2:az 2=true:=rfl;have z3:az 3=true:=rfl;have ah:iz sd=true:=by unfold iz;exact aJ (by omega)
 have step:Ei see set (ji w o m wd n tg sh mo q (some (.int j))) g=some (.nx,ji w o m wd n tg sh mo q (some (.int j)),g3):=by
   have u2:(av f (.int 1) g1).bind (λr=>av r.1 (.int o) r.2)=some (.int (cB f o),g1):=scc.bit J;refine(lq (g1:=g) (by rw[Po,decide_eq_true E])).trans (eC (σ1:=ji w o m wd n tg sh mo q (some (.int j))) (g1:=g1.set q cb) ?_ ?_)
   . obtain⟨⟨y,g'⟩,y1,y2⟩:=afV.mp u2
     rw[show own "own" j = .tup [.str "own",.int j] from rfl]at e1;simp[ji,e1,y1,y2,gL,ah,hD,z2]
   . rw[show bA o j = .tup [.str "sign",.int o,.int j] from rfl,<- L]at e3
     simp[ji,eA,Bo,Hr,e3,z3]
 refine⟨g3,ks ++ [f],step,?_⟩;have ab:g3[q]? = some cb:=by rw[f3.2 q (by simp[ux.2.2.1,ux.2.2.2.1,ux.2.2.2.2])];exact eA
 have gl:g3.length=q+1:=by rw[f3.1,acB,Z.fr.1];exact I.len
 have nd:=W.nd;simp only[aaS,aah,aaw,or_false,not_or]at nd;refine⟨by rw[u];simp[kl],λx p=>?_,⟨_,ab,hD ▸ iJ rfl a2,by have:=qm (k:=D.int j) (v:=.int (cB f o)) (xs:=sd);rw[hD]at this;omega,hD ▸ fR rfl rfl a4,λi d=>?_⟩,⟨ae,aP lW (bA o j) (.int (cB f o)),?_,iJ eF Z.ka,?_,?_,?_,fR rfl rfl (Z.nr 0 (bX _ scc.flat) nb)⟩,?_,gl,?_⟩
 . rcases aao.mp p with p|p
   . exact I.ka x p
   . simp at p;subst p;exact scc
 . have Pp:sgn (j+1) o sh (ks ++ [f]) i=if i=j then cB f o else sgn j o sh ks i:=by
     unfold sgn;rw[u];by_cases e:i=j
     . subst e
       have hn:i ∉ aG i o sh:=λz=>by have:=(jO.mp z).2.1;omega
       rw[if_pos rfl,ahm,if_neg hn];simp[<- kl]
     . rw[u]at d
       have hm:i∈aG j o sh:=by
         rcases aao.mp d with d|d
         . exact d
         . simp at d;exact absurd d e
       rw[if_neg e,ahm,if_pos hm];have hl:=List.idxOf_lt_length_of_mem hm;rw[aaE,aan (by omega),<- aaE]
   rw[Pp];by_cases e:i=j
   . subst e;rw[if_pos rfl];exact Bo
   . rw[if_neg e]
     have hm:i∈aG j o sh:=by
       rw[u]at d;rcases aao.mp d with d|d
       . exact d
       . simp at d;exact absurd d e
     rw[<- hD,gP rfl rfl (λz=>e (by injection z with z;omega)) a2];exact a5 i hm
 . have z1:st++((aG (j+1) o sh).zip (ks ++ [f])).flatMap (stK o)=st++((aG j o sh).zip ks).flatMap (stK o) ++ [.tup [.str "read",own "own" j]] ++ [.tup [.str "write",bA o j,.int (cB f o)]]:=by
     rw[u,ahW (by rw[kl]),agN];simp[stK]
   have z2:rd++dG (ks ++ [f])=rd++dG ks ++ [f] ++ [.ax]:=by rw[Gk];simp
   rw[z1,z2];exact W3
 . obtain⟨cc,yr⟩:=xW o j J H
   have:aK lW (bA o j)=some (.int cc):=by rw[Z.ot _ eF iO];exact yr
   rw[oQ this,Z.bl,bl]
 . intro i d
   rw[gP eF gC iO Z.ka];by_cases e:i=j
   . subst e;exact⟨f,Z.at_,scc⟩
   . rw[Z.ot _ gC (xu e)];exact zQ i d
 . intro i k d hk
   by_cases e:o=i/\j=k
   . obtain⟨rfl,rfl⟩:=e
     exact⟨_,gO eF Z.ka⟩
   . rw[gP eF eF (xU e) Z.ka,Z.ot _ eF iO];exact xW i k d hk
 . have h1:=Z.hd
   obtain⟨x1,x2,x3,y1,y2⟩:=h1;have hh:g3[h]? = g1[h]?:=by rw[f3.2 h (by simp[nd.2.1.1,nd.2.1.2.1,nd.2.1.2.2]),aam ux.2.1]
   have:B+((j+1:Nat):Int)*31=B+(j:Int)*31+31:=by omega
   rw[this];exact⟨x1,x2,x3,by rw[hh];exact y1,y2⟩
 . intro i d
   simp only[aah,aaw,or_false,not_or]at d;rw[f3.2 i (by simp[d.2.2.1,d.2.2.2.1,d.2.2.2.2.1]),aam (aaN d.2.2.2.2.2),Z.fr.2 i (by simp[d])];exact I.fr i (by simp[d])
end
noncomputable abbrev aV (n tg sh mo:Nat):D:=.tup [.str "signs",.int n,.int tg,.int sh,.int mo]
def Pr (see set ac2:Fn):FS:=ay (aD (aa 2) (gT 5 (bR (gN 3) (bR (gN 4) (bR (gN 5) (bR (gN 6) (bR (gN 7) g_))))))) (ay (aD oJ (gN 8)) (ay (dw (eH (af (aa 4) aj)) (gN 9) (Ei see set)) (ay (pY 10 11 (af (aq ac2 (af (aa 0) (af (fC (.str "own")) (af (aa 4) aj)))) (af (aq ac2 (af (aa 0) (af (fC (.str "own")) (af (aa 4) aj)))) aj))) (ay (aD (aM bQ aj) (gN 12)) (ay (dw (eH (af (aa 4) aj)) (gN 9) Pg) (aO (aM aI (af (aa 11) (af (aa 12) aj)))))))))
section
variable {n o tg sh mo:Nat}{w h b s r kq:Nat}{ex st rd mv:List D}{B:Int}{g:G}
structure cE (n o:Nat)(w h b s r kq:Nat)(ex st rd:List D)(B:Int)(g:G):Prop where
 W:∃l bx,Wm.Wl g w h b s r kq l ex bx st rd/\c9 bx=true/\bx.length<=500/\oa (SC n) "own" n bx/\Pn n bx/\aA 0 bx=true
 hd:Hd g h B
 ij:aA g.length ex=true
 ez:ex.length<=100
 kA:aA 0 st=true
 kB:aA 0 rd=true
 bd:Bd g
theorem KR {ks:List D}:aA 0 (fS n o sh ks)=true:=cR λx a=>by
 unfold fS at a;rcases aao.mp a with a|a
 . rcases aao.mp a with a|a
   . obtain⟨y,_,a⟩:=ac9.mp a
     simp only[stK,aah,aaw,or_false]at a;rcases a with rfl|rfl<;>rfl
   . exact iI oR x a
 . exact iI oR x a
theorem KS {ks:List D}(h:∀c∈ks,SC n c):aA 0 (dG ks)=true:=cR λx a=>by
 unfold dG at a;obtain⟨c,b,a⟩:=ac9.mp a;simp only[aah,aaw,or_false]at a;rcases a with rfl|rfl
 . exact bX _ (h _ b).flat
 . rfl
theorem KU {cs:List D}(h:∀c∈cs,SC n c):aA 0 cs=true:=cR λx a=>bX x (h x a).flat
theorem KY {l:List (Nat×D)}:aA 0 (l.flatMap (stK o))=true:=cR λx a=>by obtain⟨y,_,a⟩:=ac9.mp a;simp only[stK,aah,aaw,or_false]at a;rcases a with rfl|rfl<;>rfl
theorem Gp {see set ac2:Fn}(J:Wm.jH see Wm.sT (SC n) 31 w h b s r kq ex mv)(H:set=ao false 3 3 setB)(C:Wm.kX ac2 (SC n) 31 w h b s r kq ex mv)(V:cE n o w h b s r kq ex st rd B g)(A:o<n)(E:n<=5)(L:B+600<2 ^ 40)(sz:st.length<=600)(K:rd.length<=600):
  ∃ks fs ss g',ao false 15 3 (Pr see set ac2) [.aC w,.int o,aV n tg sh mo] g=some (.tup [.lst ss,.lst (dN (eE n o tg sh ks fs ss))],g')/\cw n o sh ks fs ss/\cE n o w h b s r kq ex (st++fS n o sh ks) (rd++bN ks fs ss) (B+500) g'/\cv [w,h,b,s,r] g g':=by
 obtain⟨l,bx,W,ka,bz,zQ,xW,nb⟩:=V.W;have lw:w<g.length:=(aab.mp W.hw).1;have lb:b<g.length:=(aab.mp W.hb).1;have ls:s<g.length:=(aab.mp W.hs).1;have lr:r<g.length:=(aab.mp W.hr).1;have lh:h<g.length:=V.hd.lt;have lk:kq<g.length:=by obtain⟨D8,y,_⟩:=W.hk;exact(aab.mp y).1
 have up:∀{i:Nat},i<g.length->(g ++ [[]])[i]? = g[i]?:=λf=>aan f;have hq:g.length ∉ [w,h,b,s,r]:=by simp only[aah,aaw,or_false,not_or];omega
 have main:wp (ao false 15 3 (Pr see set ac2) [.aC w,.int o,aV n tg sh mo] g) λq=>∃ks fs ss,q.1 = .tup [.lst ss,.lst (dN (eE n o tg sh ks fs ss))]/\cw n o sh ks fs ss/\cE n o w h b s r kq ex (st++fS n o sh ks) (rd++bN ks fs ss) (B+500) q.2/\cv [w,h,b,s,r] g q.2:=by
  refine jL rfl ?_;refine di (g1:=g) rfl (di (σ1:=ji w o (aV n tg sh mo) (.str "signs") n tg sh mo g.length none) (g1:=g ++ [[]]) rfl (wp_seq ?_));rw[gK,rH (n:=n) (g1:=g ++ [[]]) rfl (by omega),aaj];have e0:aG 0 o sh = []:=by unfold aG er;split<;>rfl
  refine f6 (λj σ g'=>∃o9 ks,σ=ji w o (aV n tg sh mo) (.str "signs") n tg sh mo g.length o9/\L1 n o sh w h b s r kq g.length ex bx st rd B (g ++ [[]]) j g' ks) _ 0 _ _ ⟨none,[],rfl,?_⟩ ?_ ?_
  . refine⟨by rw[e0];rfl,by simp,⟨[],by simp,rfl,by simp,rfl,λi f=>by rw[e0]at f;cases f⟩,⟨l,bx,?_,ka,rfl,zQ,xW,nb⟩,?_,by simp,λ_ _=>rfl⟩
    . rw[e0]
      simp only[List.zip_nil_left,List.flatMap_nil,abb,dG];exact⟨by rw[up lw];exact W.hw,by rw[up lb];exact W.hb,by rw[up ls];exact W.hs,by rw[up lr];exact W.hr,W.nd,W.hm,W.hk.of (up lk),W.nk⟩
    . obtain⟨a,b',c,y,z⟩:=V.hd
      exact⟨a,b',c,by rw[up lh];exact y,by simpa using z⟩
  . rintro j d σ g' hj ⟨o9,ks,rfl,I⟩
    obtain⟨gQ,rfl⟩:=cZ hj;simp only[aaY]at *;have gQ:j<n:=by simpa using gQ
    refine⟨(ji w o (aV n tg sh mo) (.str "signs") n tg sh mo g.length (some (.int j)),g'),rfl,?_⟩;by_cases hc:sh=1/\j≠o
    . obtain⟨g2,Pq,e,I'⟩:=KQ (m:=aV n tg sh mo) (wd:=.str "signs") (tg:=tg) (mo:=mo) J H I gQ A E (by omega) hq (by omega) (by omega) (by omega) V.ez bz hc
      exact⟨_,e,some (.int j),Pq,rfl,I'⟩
    . obtain⟨e,I'⟩:=KO (see:=see) (set:=set) (m:=aV n tg sh mo) (wd:=.str "signs") (tg:=tg) (mo:=mo) (o9:=none) I hc
      exact⟨_,e,some (.int j),ks,rfl,I'⟩
  . rintro σ g1 ⟨o9,ks,rfl,I⟩
    refine⟨rfl,?_⟩;rw[bZ,aaY]at I;dsimp only;obtain⟨sd,a1,a2,a3,a4,a5⟩:=I.sd;obtain⟨l1,lW,W1,ai,Pu,WW,WX,Up⟩:=I.W;have kl:=I.kl;have sl:=gj (n:=n) (o:=o) (sh:=sh);have zl:((aG n o sh).zip ks).length=(aG n o sh).length:=by rw[aeM,kl];omega
    have a9:(st++((aG n o sh).zip ks).flatMap (stK o)).length<=700:=by rw[aai,iM,zl];omega
    have a8:(rd++dG ks).length<=700:=by rw[aai,lU,kl];omega
    have Gq:aA 0 (st++((aG n o sh).zip ks).flatMap (stK o))=true:=cP V.kA KY;have Gr:aA 0 (rd++dG ks)=true:=cP V.kB (KS I.ka);have Gs:aA g1.length ex=true:=cj (by rw[I.len];omega) V.ij;have dE:Hd g1 h (B+155):=I.hd.mono (by omega);have Uq:∀i,i ∉ [w,h,b,s,r]->i<g.length->g1[i]? = g[i]?:=λi f hl=>by rw[I.fr i (by simp only[aah,aaw,or_false,not_or]at f ⊢;omega),up hl]
    have a6:Bd g1:=Wm.gH W1 dE Gs Up Gq Gr λi xs f p=>by
      by_cases e:i=g.length
      . subst e;rw[a1]at p;cases p;exact cj (aaR _) a4
      . have eU:i<g.length:=by have:=(aab.mp p).1;rw[I.len]at this;omega
        rw[Uq i f eU]at p;exact cj (by rw[I.len];omega) (V.bd i xs p)
    have S1:Wm.Ws ex lW (st++((aG n o sh).zip ks).flatMap (stK o)) (rd++dG ks) mv:=⟨ai,by rw[Pu];exact bz,V.ez,by omega,by omega⟩
    obtain⟨fs,g2,e2,u⟩:=C g1 l1 lW _ _ _ (aaD "own") n rfl W1 S1 dE (by omega) (by omega) (by omega) (by omega) WW a6 Gs Up Gq Gr;obtain⟨l2,xQ,W2,a0,Ur,WY,Mm,a7⟩:=u.W;have fl:=u.len;have S2:Wm.Ws ex xQ (st++((aG n o sh).zip ks).flatMap (stK o)++fI "own" n) (rd++dG ks++fs) mv:=⟨a0,by rw[Ur,Pu];exact bz,V.ez,by rw[aai,iK];omega,by rw[aai,fl];omega⟩
    have Us:g2.length=g1.length:=u.fr.1;obtain⟨ss,g3,e3,v⟩:=C g2 l2 xQ _ _ _ (aaD "own") n rfl W2 S2 u.hd (by omega) (by omega) (by rw[aai,iK];omega) (by rw[aai,fl];omega) WY u.bd (by rw[Us];exact Gs) Mm (cP Gq oR) (cP Gr (KU u.all));obtain⟨l3,Ii,W3,ae,aU,WZ,Ut,aS⟩:=v.W;have au:=v.len;have R:cw n o sh ks fs ss:=⟨kl,fl,au,I.ka,u.all,v.all⟩
    have ar:g3[g.length]? = some sd:=by rw[v.fr.2 _ hq,u.fr.2 _ hq];exact a1
    refine di (Bf e2 e3) (di (σ1:=eR (.aC w) o (aV n tg sh mo) (.str "signs") n tg sh mo g.length o9 fs ss [] none none) (g1:=g3) rfl (wp_seq ?_));refine wp_mono (WV (w:=.aC w) (m:=aV n tg sh mo) (wd:=.str "signs") (tg:=tg) (mo:=mo) (o9:=o9) (o13:=none) (o14:=none) R A E ar a5) λrr hr=>?_;obtain⟨y,z,p9,pK,pL,h3⟩:=hr;refine⟨y,?_⟩;rw[z,h3];refine⟨_,rfl,?_⟩;have ax:aQ ss=true:=fq λx p=>(v.all x p).flat;have ah:g3.length=g.length+1:=by rw[v.fr.1,Us,I.len]
    have tl:(g3.take g.length).length=g.length:=by rw[aa2,ah];omega
    have W4:=W3.take lw lb ls lr lk;have nh:Hd (g3.take g.length) h (B+500):=(Hd.take v.hd lh).mono (by omega);have Pw:st++((aG n o sh).zip ks).flatMap (stK o)++fI "own" n++fI "own" n=st++fS n o sh ks:=by simp[fS]
    have Px:rd++dG ks++fs++ss=rd++bN ks fs ss:=by simp[bN]
    rw[show aaD "own" = ("own":Str) from rfl]at W4;rw[Pw,Px]at W4;have Py:aA 0 (st++fS n o sh ks)=true:=cP V.kA KR;have Pz:aA 0 (rd++bN ks fs ss)=true:=cP V.kB (cR λx p=>bX x (R.flat x p));have uy:cv [w,h,b,s,r] g (g3.take g.length):=⟨tl,λi f=>by
      by_cases eU:i<g.length
      . rw[aaK eU,v.fr.2 i f,u.fr.2 i f,Uq i f eU]
      . rw[aa8 (by omega),aa8 (by omega)]⟩
    have Uu:Bd (g3.take g.length):=Wm.gH W4 nh (by rw[tl];exact V.ij) Ut Py Pz λi xs f p=>by rw[uy.2 i f]at p;rw[tl];exact V.bd i xs p
    have ab:Pn n Ii:=λi j f hj=>by obtain⟨c,hc⟩:=WX i j f hj;exact⟨c,by rw[aS _ eF λk=>iO,a7 _ eF λk=>iO];exact hc⟩
    refine⟨?_,?_,(show g.length<=g3.length by omega),ks,fs,ss,rfl,R,⟨⟨l3,Ii,W4,ae,by rw[aU,Ur,Pu];exact bz,WZ,ab,Ut⟩,nh,by rw[tl];exact V.ij,V.ez,Py,Pz,Uu⟩,uy⟩
    . simp[bB,aA,cG _ ax,cG _ (sP (l:=eE n o tg sh ks fs ss))]
    . rw[abS]
      intro x p;obtain⟨i,f⟩:=acA.mp p;have:=Uu i x f;rw[tl]at this;exact this
 obtain⟨⟨d,g'⟩,e,ks,fs,ss,rfl,y,z,h3⟩:=main;exact⟨ks,fs,ss,g',e,y,z,h3⟩
end
noncomputable def oq (f:Nat->Nat):Nat->Nat
 | 0=>0|n+1=>oq f n+f n
theorem xX {f f':Nat->Nat}(h:∀i,f i<=f' i):∀n,oq f n<=oq f' n
 | 0=>aal _|n+1=>by have:=xX h n;have:=h n;simp only[oq];omega
theorem zR {f f':Nat->Nat}(h:∀i,f i<=f' i){j:Nat}(a:f j+1<=f' j):∀n,j<n->oq f n+1<=oq f' n
 | 0,h0=>by omega
 |n+1,h0=>by
  simp only[oq];by_cases e:j=n
  . subst e;have:=xX h j;omega
  . have:=zR h a n (by omega);have:=h n;omega
theorem Ej {f:Nat->Nat}{m:Nat}:∀n,(∀j,j<n->f j<=m)->oq f n<=n*m
 | 0,_=>by simp[oq]|n+1,h=>by have:=Ej n λj a=>h j (by omega);have:=h n (by omega);simp only[oq];rw[aca];omega
theorem xY {ps:List (List Nat)}{x:List Nat}{k:Nat}(h:k<ps.length):(ps ++ [x]).getD k []=ps.getD k []:=by rw[aaE,aan h,<- aaE]
theorem getD_last {ps:List (List Nat)}{x:List Nat}:(ps ++ [x]).getD ps.length []=x:=by simp[aaE]
theorem qo {ps:List (List Nat)}{x:List Nat}:∀{k:Nat},k<=ps.length->cC (ps ++ [x]) k=cC ps k
 | 0,_=>rfl|k+1,h=>by funext j;simp only[cC];rw[qo (by omega),xY (by omega)]
theorem Gu {mv:D}{ps:List (List Nat)}{x:List Nat}{k:Nat}(h:k<ps.length)(g:dM mv ps k):dM mv (ps ++ [x]) k:=by unfold dM;rw[xY h,qo (by omega)];exact g
theorem zS {mv:D}{ps:List (List Nat)}{n:Nat}(d:∀p∈ps,∀j∈p,j<n):∀{k:Nat},k<=ps.length->(∀i,i<k->dM mv ps i)->k<=oq (cC ps k) n
 | 0,_,_=>aaR _
 |k+1,h,hg=>by
  have ih:=zS d (k:=k) (by omega) λi c=>hg i (by omega);obtain⟨h0,_⟩:=hg k (by omega);obtain⟨j,r,e⟩:=afj h0;have a:j∈ps.getD k []:=by rw[e];simp
  have b:ps.getD k []∈ps:=by rw[aaE,aag (by omega)];exact abc _
  have:=zR (f:=cC ps k) (f':=cC ps (k+1)) (λi=>by simp only[cC];omega) (j:=j) (by simp only[cC];rw[if_pos a];omega) n (d _ b j a);omega
noncomputable def bW (f:Nat->Nat)(n:Nat):List D:=(aba n).map λj=>.int (f j:Nat)
theorem gR {f:Nat->Nat}{n j:Nat}(h:j<n):(bW f n)[j]? = some (.int (f j:Nat)):=by simp[bW,h]
theorem Ek {f:Nat->Nat}{n j:Nat}(h:j<n):(bW f n).set j (.int ((f j+1:Nat):Int))=bW (λi=>f i+if i=j then 1 else 0) n:=by
 apply afm;intro i;by_cases hi:i<n
 . by_cases e:j=i
   . subst e
     rw[aav (by simp[bW];exact h),gR h];simp
   . rw[aam e,gR hi,gR hi]
     simp[aaN e]
 . rw[aa8 (by simp[bW];omega),aa8 (by simp[bW];omega)]
def xZ:FS:=aD (ak bI (ak av (aa 3) (aa 6)) (fC (.int 1))) (el (aa 3) (aa 6))
theorem x4 {n c:Nat}{a0 a1 a2 a4 a5:D}:∀(ms:List Nat) (f:Nat->Nat) (g:G) (o6:Option D),(∀j∈ms,j<n)->ms.Nodup->g[c]? = some (bW f n) ->
  ∃p6,forL (gN 6) xZ (dN ms) [some a0,some a1,some a2,some (.ref c),some a4,some a5,o6] g=some (.nx,[some a0,some a1,some a2,some (.ref c),some a4,some a5,p6],g.set c (bW (cA f ms) n))
 | [],f,g,o6,_,_,hc=>by
  refine⟨o6,?_⟩;have e:cA f []=f:=by funext i;simp[cA]
  rw[e];obtain⟨h,l⟩:=aab.mp hc;rw[<- l,abP];rfl
 |j::ms,f,g,o6,hm,nd,hc=>by
  rw[aaS]at nd;have b:=hm j (by simp);have h:=(aab.mp hc).1;have a:=fW (gR (f:=f) b);have ln:(bW f n).length=n:=by simp[bW]
  have p:xZ [some a0,some a1,some a2,some (.ref c),some a4,some a5,some (.int j)] g=some (.nx,[some a0,some a1,some a2,some (.ref c),some a4,some a5,some (.int j)],g.set c (bW (λi=>f i+if i=j then 1 else 0) n)):=by
   rw[<- Ek b];unfold xZ;have v:ak bI (ak av (aa 3) (aa 6)) (fC (.int 1)) [some a0,some a1,some a2,some (.ref c),some a4,some a5,some (.int j)] g=some (.int ((f j+1:Nat):Int),g):=by simp[cz,aT,hc,a]
   rw[yR,v];simp[hc,putD,iu,ln,b]
  obtain⟨p6,d⟩:=x4 ms (λi=>f i+if i=j then 1 else 0) (g.set c (bW (λi=>f i+if i=j then 1 else 0) n)) (some (.int j)) (λi k=>hm i (by simp[k])) nd.2 (aav h);refine⟨p6,?_⟩;have o:cA (λi=>f i+if i=j then 1 else 0) ms=cA f (j::ms):=by
   funext i;simp only[cA,aah];by_cases h1:i=j
   . subst h1;simp[nd.1]
   . simp[h1]
  simp only[dN,aa5,forL]at d ⊢;rw[show gN 6 (D.int j) [some a0,some a1,some a2,some (.ref c),some a4,some a5,o6] g=some ([some a0,some a1,some a2,some (.ref c),some a4,some a5,some (.int j)],g) from rfl];simp only[aaj,p];rw[d,adw,o]
def Uv:FS:=cy (aH (ak Cw (ak av (aa 3) (aa 6)) (ak av (aa 2) (fC (.int 4))))) (aO (ak av (ak av (aa 4) (aa 6)) (fC (.int 3)))) bb
def PB:FS:=dw (eH (af (ak av (aa 2) (fC (.int 1))) aj)) (gN 6) Uv
def lkD:FS:=ay (dw (dy (aa 5)) (gN 6) xZ) PB
def lkC:FS:=ay (cy (aH (ak oEq (aa 5) (aM bQ aj))) (aO (aq jq (af (cH cg (dy (aa 4)) [none,none] (gN 1) dZ (ak av (aa 1) (fC (.int 0)))) aj))) bb) lkD
def PC (round:Fn):FS:=ay (aD (aq round (af (aa 0) (af (aa 1) (af (aa 2) aj)))) (gT 2 (bR (gN 4) (bR (gN 5) g_)))) lkC
def Ik (round:Fn):FS:=ay (aD (ak gh (aM bQ (af (fC (.int 0)) aj)) (ak av (aa 2) (fC (.int 1)))) (gN 3)) (yJ 1000000 (nE (fC (.bl true))) (PC round))
section
variable {n o tg sh mo:Nat}{w h b s r kq c:Nat}{ex st rd mv:List D}{B:Int}{g:G}
theorem Gv {a b c d e:D}:bJ [a,b,c,d,e] 1=some b:=rfl
theorem PD {a b c d e:D}:bJ [a,b,c,d,e] 4=some e:=rfl
noncomputable def pM (a0 a1 m:D)(c:Nat)(ss:List D)(a5:D)(x:Option D):Sg:=[some a0,some a1,some m,some (.ref c),some (.lst ss),some a5,x]
theorem PF {f:Nat->Nat}{ss:List D}{a0 a1 a5:D}{j:Nat}(e:g[c]? = some (bW f n))(d:j<n)(i:ss.length=n)(k:∀x∈ss,SC n x):Uv (pM a0 a1 (aV n tg sh mo) c ss a5 (some (.int j))) g=if mo<=f j then some (.rt (cW (ss.getD j .ax)),(pM a0 a1 (aV n tg sh mo) c ss a5 (some (.int j))),g)else some (.nx,(pM a0 a1 (aV n tg sh mo) c ss a5 (some (.int j))),g):=by
 have a:=fW (gR (f:=f) d);have x:=(k _ (mem_getD (j:=j) (by rw[i];exact d))).view (g:=g);by_cases hm:mo<=f j
 . rw[if_pos hm]
   refine(lq (g1:=g) (by simp[pM,cz,aT,e,a,PD,dq,hm])).trans (sH ?_);show((av (.lst ss) (.int j) g).bind λr=>av r.1 (.int 3) r.2)=_;rw[Ef (by rw[i];exact d)];exact x
 . rw[if_neg hm]
   exact(ie (g1:=g) (by simp[pM,cz,aT,e,a,PD,dq,hm])).trans rfl
theorem RZ {f:Nat->Nat}{ss:List D}{a0 a1 a5:D}{o6:Option D}(p:g[c]? = some (bW f n))(v:n<=5)(q:ss.length=n)(u:∀x∈ss,SC n x):wp (PB (pM a0 a1 (aV n tg sh mo) c ss a5 o6) g) λr=>r.2.2=g/\((∃j,j<n/\mo<=f j/\(∀i,i<j->f i<mo)/\r.1 = .rt (cW (ss.getD j .ax)))\/(r.1 = .nx/\(∀i,i<n->f i<mo) /\ ∃p6,r.2.1=pM a0 a1 (aV n tg sh mo) c ss a5 p6)):=by
 unfold PB;rw[gK,rH (n:=n) (g1:=g) (by simp[pM,cz,aT,Gv]) (by omega),aaj];refine f6 (λj σ b=>b=g/\(∀i,i<j->f i<mo) /\ ∃p6,σ=pM a0 a1 (aV n tg sh mo) c ss a5 p6) _ 0 _ _ ⟨rfl,λi k=>by omega,o6,rfl⟩ ?_ ?_
 . rintro j d σ b l ⟨rfl,a,p6,rfl⟩
   obtain⟨h,rfl⟩:=cZ l;simp only[aaY]at *;refine⟨(pM a0 a1 (aV n tg sh mo) c ss a5 (some (.int j)),b),rfl,?_⟩;dsimp only;rw[PF (f:=f) p h q u];by_cases hm:mo<=f j
   . rw[if_pos hm]
     exact⟨_,rfl,rfl,.inl ⟨j,h,hm,a,rfl⟩⟩
   . rw[if_neg hm]
     refine⟨_,rfl,rfl,λi k=>?_,_,rfl⟩;by_cases e:i=j
     . subst e;omega
     . exact a i (by omega)
 . rintro σ b ⟨rfl,a,p6,rfl⟩
   rw[bZ,aaY]at a;exact⟨rfl,.inr ⟨rfl,a,p6,rfl⟩⟩
def gk (n o sh:Nat)(rs:List R3):List D:=rs.flatMap λq=>fS n o sh q.1
def fT (rs:List R3):List D:=(rs.map bP).flatten
theorem cE.other {xs:List D}(V:cE n o w h b s r kq ex st rd B g)(v:c ∉ [w,h,b,s,r])(x:c≠kq)(nx:aA 0 xs=true):cE n o w h b s r kq ex st rd B (g.set c xs):=by
 have d:c≠w/\c≠h/\c≠b/\c≠s/\c≠r:=by simpa[not_or]using v
 obtain⟨l,p,W,a1,a2,f,j,q⟩:=V.W;refine⟨⟨l,p,xV W d x,a1,a2,f,j,q⟩,Hd.ne V.hd d.2.1,by rw[acB];exact V.ij,V.ez,V.kA,V.kB,λi k a=>?_⟩;rw[acB];by_cases e:c=i
 . subst e
   have u:c<g.length:=by have:=(aab.mp a).1;rwa[acB]at this
   rw[aav u]at a;cases a;exact cj (aaR _) nx
 . rw[aam e]at a
   exact V.bd i k a
theorem uz {f:Nat->Nat}:aA 0 (bW f n)=true:=cR λx a=>by simp only[bW,aaQ]at a;obtain⟨j,_,rfl⟩:=a;rfl
structure Lk (n o tg sh mo:Nat)(w h b s r kq c:Nat)(ex st rd:List D)(B:Int)(g0:G)(rs:List R3)(g:G):Prop where
 V:cE n o w h b s r kq ex (st++gk n o sh rs) (rd++fT rs) (B+500*rs.length) g
 hc:g[c]? = some (bW (cC (rs.map (dP n o tg sh)) rs.length) n)
 all:∀q∈rs,cw n o sh q.1 q.2.1 q.2.2
 go:∀k,k<rs.length->dM (.int mo) (rs.map (dP n o tg sh)) k
 lt:∀j,j<n->cC (rs.map (dP n o tg sh)) rs.length j<mo
 fr:cv [w,h,b,s,r,c] g0 g
theorem PH {q:R3}{j:Nat}(h:j∈dP n o tg sh q):j<n:=(iL.mp (abM.mp h).1).1
theorem Lk.fB {rs:List R3}(L:Lk n o tg sh mo w h b s r kq c ex st rd B g0 rs g)(l:n<=5)(u:mo<=4):rs.length<=15:=by
 have e:=zS (mv:=.int mo) (ps:=rs.map (dP n o tg sh)) (n:=n) (λp d j a=>by obtain⟨q,_,rfl⟩:=aaQ.mp d;exact PH a) (k:=rs.length) (by simp) L.go;have i:=Ej (f:=cC (rs.map (dP n o tg sh)) rs.length) (m:=3) n λj a=>by have:=L.lt j a;omega
 omega
theorem oW {rs:List R3}(h:∀q∈rs,cw n o sh q.1 q.2.1 q.2.2):(gk n o sh rs).length=rs.length*a_ n o sh:=by
 induction rs with
 |nil=>simp[gk]
 |cons q rs ih =>
  have:=ih λx a=>h x (by simp[a]);have b:=(h q (by simp)).Ui;unfold gk at this ⊢;rw[acU,aai,this,abT,aca,b];unfold a_;omega
theorem iP {rs:List R3}(h:∀q∈rs,cw n o sh q.1 q.2.1 q.2.2):(fT rs).length=rs.length*a_ n o sh:=by unfold fT;rw[ky (n:=a_ n o sh) (λw hw=>by obtain⟨q,a,rfl⟩:=aaQ.mp hw;exact(h q a).wl),aaI]
theorem El (a:n<=5):a_ n o sh<=20:=by have:=gj (n:=n) (o:=o) (sh:=sh);unfold a_;omega
end
section
variable {n o tg sh mo:Nat}{w h b s r kq c:Nat}{ex st rd mv:List D}{B:Int}{g g0:G}
structure Uw (n o tg sh mo:Nat)(w h b s r kq c:Nat)(ex st rd:List D)(B:Int)(g0:G)(rs:List R3)(q:R3)(en:Option Nat)(g:G):Prop where
 V:cE n o w h b s r kq ex (st++gk n o sh (rs ++ [q])) (rd++fT (rs ++ [q])) (B+500*(rs.length+1)) g
 all:∀q∈rs,cw n o sh q.1 q.2.1 q.2.2
 last:cw n o sh q.1 q.2.1 q.2.2
 fB:rs.length<=15
 go:∀k,k<rs.length->dM (.int mo) ((rs ++ [q]).map (dP n o tg sh)) k
 ends:oT (.int mo) ((rs ++ [q]).map (dP n o tg sh)) rs.length en
 en:∀j,en=some j->j<n
 fr:cv [w,h,b,s,r,c] g0 g
theorem sU {f:Nat->Nat}{l:List Nat}{j:Nat}:j∈iB f (.int mo) l ↔ j∈l/\f j=mo:=by
 unfold iB;rw[abM];have:aF (.int (f j:Nat)) (.int mo)=decide (f j=mo):=by
  by_cases e:f j=mo
  . simp[aF,e]
  . have:¬((f j:Int)=(mo:Int)):=by omega
    simp[aF,e,this]
 rw[this];simp
noncomputable def x5 (w o c:Nat)(m:D)(x y z:Option D):Sg:=[some (.aC w),some (.int o),some m,some (.ref c),x,y,z]
theorem uA {round:Fn}(K:∀{st rd:List D} {B:Int} {g:G},cE n o w h b s r kq ex st rd B g->B+600<2 ^ 40->st.length<=600->rd.length<=600->∃ks fs ss g',round [.aC w,.int o,aV n tg sh mo] g=some (.tup [.lst ss,.lst (dN (eE n o tg sh ks fs ss))],g')/\cw n o sh ks fs ss/\cE n o w h b s r kq ex (st++fS n o sh ks) (rd++bN ks fs ss) (B+500) g'/\cv [w,h,b,s,r] g g')
  (H:n<=5) (N:1<=mo) (J:mo<=4) (I:c ∉ [w,h,b,s,r]) (A:c≠kq) (O:B+20000<2 ^ 40) (sz:st.length<=200) (P:rd.length<=200):∀(rem fuel:Nat) (rs:List R3) (g:G) (o4 o5 o6:Option D),rem<fuel->16<=rs.length+rem->Lk n o tg sh mo w h b s r kq c ex st rd B g0 rs g ->
  ∃rN q en σ' g',kJ (nE (fC (.bl true))) (PC round) fuel (x5 w o c (aV n tg sh mo) o4 o5 o6) g=some (.rt (eQ q.2.2 en),σ',g')/\Uw n o tg sh mo w h b s r kq c ex st rd B g0 rN q en g'
 | 0,fuel+1,rs,g,o4,o5,o6,hf,hr,L=>by have:=L.fB H J;omega
 |rem+1,fuel+1,rs,g,o4,o5,o6,hf,hr,L=>by
  have fB:=L.fB H J;have ai:=El (o:=o) (sh:=sh) H;have hmul:rs.length*a_ n o sh<=15*20:=aeX fB ai;obtain⟨ks,fs,ss,g1,e1,R,V1,f1⟩:=K L.V (by omega) (by rw[aai,oW L.all];omega) (by rw[aai,iP L.all];omega);have Pw:st++gk n o sh rs++fS n o sh ks=st++gk n o sh (rs ++ [(ks,fs,ss)]):=by simp[gk]
  have Px:rd++fT rs++bN ks fs ss=rd++fT (rs ++ [(ks,fs,ss)]):=by simp[fT,bP]
  rw[Pw,Px,show B+500*(rs.length:Int)+500=B+500*((rs.length:Int)+1) by omega]at V1;have pD:=(f1.2 c I).trans L.hc;have fE:c<g1.length:=(aab.mp pD).1;have u:∀j∈eE n o tg sh ks fs ss,j<n:=λj f=>(iL.mp (abM.mp f).1).1;have ab:=xJ (n:=n) (o:=o) (tg:=tg) (sh:=sh) (ks:=ks) (fs:=fs) (ss:=ss);have ae:=L.lt;have ep:(rs ++ [(ks,fs,ss)]).map (dP n o tg sh)=rs.map (dP n o tg sh) ++ [eE n o tg sh ks fs ss]:=by simp[dP]
  have lp:(rs.map (dP n o tg sh)).length=rs.length:=by simp
  have go':∀k,k<rs.length->dM (.int mo) ((rs ++ [(ks,fs,ss)]).map (dP n o tg sh)) k:=λk A=>by rw[ep];exact Gu (by rw[lp];exact A) (L.go k A)
  have Ux:cv [w,h,b,s,r,c] g0 g1:=L.fr.trans ⟨f1.1,λj f=>f1.2 j λz=>f (by simp only[aah,aaw,or_false]at z ⊢;rcases z with z|z|z|z|z<;>simp[z])⟩;have l:((rs ++ [(ks,fs,ss)]).map (dP n o tg sh)).getD rs.length []=eE n o tg sh ks fs ss:=by rw[ep,<- lp];exact getD_last
  have v:cC ((rs ++ [(ks,fs,ss)]).map (dP n o tg sh)) (rs.length+1)=cA (cC (rs.map (dP n o tg sh)) rs.length) (eE n o tg sh ks fs ss):=by funext i;simp only[cC,cA];rw[l,ep,qo (by rw[lp];exact aal _)]
  generalize eE n o tg sh ks fs ss=M at *;generalize cC (rs.map (dP n o tg sh)) rs.length=C at *;have body:wp (PC round (x5 w o c (aV n tg sh mo) o4 o5 o6) g) λx=>(∃en,x.1 = .rt (eQ ss en)/\Uw n o tg sh mo w h b s r kq c ex st rd B g0 rs (ks,fs,ss) en x.2.2)\/(x.1 = .nx/\Lk n o tg sh mo w h b s r kq c ex st rd B g0 (rs ++ [(ks,fs,ss)]) x.2.2 /\ ∃p4 p5 p,x.2.1=x5 w o c (aV n tg sh mo) p4 p5 p):=by
    refine di (σ1:=x5 w o c (aV n tg sh mo) (some (.lst ss)) (some (.lst (dN M))) o6) (g1:=g1) (by simp[x5,e1,H4]) ?_;by_cases h0:M = []
    . subst h0
      have zs:az ss.length=true:=aJ (by rw[R.sl];omega);have cm:=fY (t:=gN 1) (c:=dZ) (e:=ak av (aa 1) (fC (.int 0))) (h:=cV) (λσ=>∃a,σ = [none,a]) ss [none,none] g1 ⟨_,rfl⟩ (by rintro t hm σ ⟨a,rfl⟩;exact⟨[none,some t],by simp,by simp,(R.sa t hm).val,⟨_,rfl⟩⟩)
      exact⟨_,oS (g1:=g1) (d:=.tup (ss.map cV)) (g2:=g1) rfl (by simp[x5,dy,aT,cf,zs,cm,cg]),.inl ⟨none,rfl,V1,L.all,R,fB,go',l,(λj z=>by cases z),Ux⟩⟩
    . have q:oEq (.lst (dN M)) (.lst []) g1=some (.bl false,g1):=by
        have fl:aQ (dN M)=true:=fq λd hd=>by simp only[dN,aaQ]at hd;obtain⟨j,_,rfl⟩:=hd;rfl
        have dl:bp (dN M)<=5:=oU λd hd=>by simp only[dN,aaQ]at hd;obtain⟨j,_,rfl⟩:=hd;simp[dep]
        obtain⟨x,xs,ex⟩:=afj (λz=>h0 (List.map_eq_nil_iff.mp z):dN M ≠ []);rw[ex]at fl dl ⊢;have d2:dep (.lst (x::xs))<=60:=by simp only[dep];omega
        have f3:flat x=true/\aQ xs=true:=by simpa[aQ]using fl
        simp[oEq,d2,flat,aQ,aF,fO,f3]
      obtain⟨p,i1⟩:=x4 (n:=n) (c:=c) (a0:=.aC w) (a1:=.int o) (a2:=aV n tg sh mo) (a4:=.lst ss) (a5:=.lst (dN M)) M C g1 o6 u ab pD;refine di (σ1:=x5 w o c (aV n tg sh mo) (some (.lst ss)) (some (.lst (dN M))) o6) (g1:=g1) ?_ (di (f1:=dw (dy (aa 5)) (gN 6) xZ) i1 ?_)
      . rw[ie (g1:=g1)];· rfl
        rw[cY];exact congrArg dq q
      have V2:=V1.other I A (xs:=bW (cA C M) n) uz;have kF:=aav (a:=bW (cA C M) n) fE;have Uy:cv [w,h,b,s,r,c] g0 (g1.set c (bW (cA C M) n)):=Ux.trans (cv.set (by simp));refine wp_mono (RZ (tg:=tg) (sh:=sh) (mo:=mo) (a0:=.aC w) (a1:=.int o) (a5:=.lst (dN M)) (o6:=p) kF H R.sl R.sa) λx hx=>?_;obtain⟨hg,⟨j,f,hm,y,PJ⟩|⟨lD,y,ah,hσ⟩⟩:=hx
      . refine .inl ⟨some j,PJ,?_⟩
        rw[hg];have lt:=ae j f;have jm:j∈M/\cA C M j=mo:=by
          unfold cA at hm ⊢;by_cases z:j∈M
          . rw[if_pos z]at hm ⊢;exact⟨z,by omega⟩
          . rw[if_neg z]at hm;omega
        refine⟨V2,L.all,R,fB,go',⟨by rw[l];exact h0,?_,λk Il=>?_⟩,(λi z=>by cases z;exact f),Uy⟩
        . rw[l,v];exact sU.mpr jm
        . rw[l,v]at Il
          obtain⟨_,k2⟩:=sU.mp Il;by_cases z:j<=k
          . exact z
          . have:=y k (by omega);omega
      . refine .inr ⟨lD,?_,_,_,ah,hσ⟩
        rw[hg];have ll:(rs ++ [(ks,fs,ss)]).length=rs.length+1:=by simp
        refine⟨by rw[ll,ahV];exact V2,by rw[ll,v];exact kF,λq bD=>?_,λk Il=>?_,by rw[ll,v];exact y,Uy⟩
        . rcases aao.mp bD with z|z
          . exact L.all q z
          . simp at z;subst z;exact R
        . rw[ll]at Il
          by_cases z:k<rs.length
          . exact go' k z
          . obtain rfl:k=rs.length:=by omega
            refine⟨by rw[l];exact h0,?_⟩;rw[l,v];refine List.filter_eq_nil_iff.mpr λj f ar=>?_;have au:=sU.mp (abM.mpr ⟨f,ar⟩);have:=y j (u j f);omega
  obtain⟨⟨x1,x2,x3⟩,ex,hx⟩:=body;rcases hx with⟨en,PJ,E⟩|⟨lD,L',p4,p5,p,hσ⟩
  . cases PJ
    exact⟨rs,(ks,fs,ss),en,x2,x3,Be rfl ex,E⟩
  . cases lD
    cases hσ;obtain⟨rN,q,en,σ',g',e,E⟩:=uA K H N J I A O sz P rem fuel (rs ++ [(ks,fs,ss)]) x3 p4 p5 p (by omega) (by simp;omega) L';exact⟨rN,q,en,σ',g',(Bc rfl ex).trans e,E⟩
end
section
variable {n o tg sh mo:Nat}{w h b s r kq c:Nat}{ex st rd mv:List D}{B:Int}{g g0:G}
theorem cE.PK (V:cE n o w h b s r kq ex st rd B g):w<g.length/\h<g.length/\b<g.length/\s<g.length/\r<g.length/\kq<g.length:=by obtain⟨l,c,W,_⟩:=V.W;obtain⟨d,a,_⟩:=W.hk;exact⟨(aab.mp W.hw).1,V.hd.lt,(aab.mp W.hb).1,(aab.mp W.hs).1,(aab.mp W.hr).1,(aab.mp a).1⟩
theorem cE.push {x:List D}(V:cE n o w h b s r kq ex st rd B g)(nx:aA 0 x=true):cE n o w h b s r kq ex st rd B (g ++ [x]):=by
 obtain⟨lw,f,u,ls,j,q⟩:=V.PK;have up:∀{i:Nat},i<g.length->(g ++ [x])[i]? = g[i]?:=λc=>aan c;obtain⟨l,v,W,a⟩:=V.W;refine⟨⟨l,v,⟨by rw[up lw];exact W.hw,by rw[up u];exact W.hb,by rw[up ls];exact W.hs,by rw[up j];exact W.hr,W.nd,W.hm,W.hk.of (up q),W.nk⟩,a⟩,?_,cj (by simp) V.ij,V.ez,V.kA,V.kB,λi xs c=>?_⟩
 . obtain⟨p,e,k,d,y⟩:=V.hd
   exact⟨p,e,k,by rw[up f];exact d,y⟩
 . by_cases hl:i<g.length
   . rw[up hl]at c;exact cj (by simp) (V.bd i xs c)
   . have:i=g.length:=by have:=(aab.mp c).1;simp at this;omega
     subst this;rw[aaJ (aal _)]at c;simp at c;subst c;exact cj (aaR _) nx
theorem cE.pop {x:List D}{g':G}{H E:List D}{C:Int}(A:cE n o w h b s r kq ex st rd B g)(V:cE n o w h b s r kq ex H E C g')(fr:cv [w,h,b,s,r,g.length] (g ++ [x]) g'):cE n o w h b s r kq ex H E C (g'.take g.length)/\cv [w,h,b,s,r] g (g'.take g.length):=by
 obtain⟨lw,q,z,ls,u,y⟩:=A.PK;have gl:g'.length=g.length+1:=by rw[fr.1];simp
 have a:(g'.take g.length).length=g.length:=by rw[aa2,gl];omega
 obtain⟨l,bx,W,a1,a2,p,v,d⟩:=V.W;have j:=W.take lw z ls u y;have e:=Hd.take V.hd q;have f:cv [w,h,b,s,r] g (g'.take g.length):=⟨a,λi c=>by
  by_cases eU:i<g.length
  . rw[aaK eU,fr.2 i (by simp only[aah,aaw,or_false,not_or]at c ⊢;omega),aan eU]
  . rw[aa8 (by omega),aa8 (by omega)]⟩
 refine⟨⟨⟨l,bx,j,a1,a2,p,v,d⟩,e,by rw[a];exact A.ij,V.ez,V.kA,V.kB,?_⟩,f⟩;exact Wm.gH j e (by rw[a];exact A.ij) d V.kA V.kB λi xs c k=>by rw[f.2 i c]at k;rw[a];exact A.bd i xs k
theorem x6 {ss:List D}{en:Option Nat}(i:ss.length=n)(e:∀x∈ss,SC n x)(f:∀j,en=some j->j<n):flat (eQ ss en)=true/\dep (eQ ss en)<=50:=by
 cases en with
 |none =>
  have a:∀d∈ss.map cV,vG d:=λd hd=>by
   obtain⟨x,c,rfl⟩:=aaQ.mp hd;cases e x c with
   |mk v bs t vw a hb hw ha=>exact a
  refine⟨by simp only[eQ,flat];exact fq λd hd=>(a d hd).1,?_⟩;have:=oU (k:=10) λd hd=>aa0 (a d hd).2 (by decide);simp only[eQ,dep];omega
 |some j =>
  have b:=f j rfl;have sc:=e _ (mem_getD (xs:=ss) (j:=j) (by rw[i];exact b));show flat (cW (ss.getD j .ax))=true/\dep (cW (ss.getD j .ax))<=50;generalize ss.getD j .ax=x at sc ⊢;cases sc with
  |mk v bs t vw a hb hw ha =>
   refine⟨by show flat (.tup vw)=true;simp only[flat];exact fq λd hd=>(ha d hd).1,?_⟩;have:=oU (k:=10) λd hd=>aa0 (ha d hd).2 (by decide);show dep (.tup vw)<=50;simp only[dep];omega
structure Um (n o tg sh mo:Nat)(w h b s r kq:Nat)(ex st rd:List D)(B:Int)(g:G)(rs:List R3)(q:R3)(en:Option Nat)(g':G):Prop where
 V:cE n o w h b s r kq ex (st++gk n o sh (rs ++ [q])) (rd++fT (rs ++ [q])) (B+8500) g'
 all:∀q∈rs,cw n o sh q.1 q.2.1 q.2.2
 last:cw n o sh q.1 q.2.1 q.2.2
 fB:rs.length<=15
 go:∀k,k<rs.length->dM (.int mo) ((rs ++ [q]).map (dP n o tg sh)) k
 ends:oT (.int mo) ((rs ++ [q]).map (dP n o tg sh)) rs.length en
 en:∀j,en=some j->j<n
 fr:cv [w,h,b,s,r] g g'
theorem rep0 {n:Nat}:(aap n [D.int 0]).flatten=bW (λ_=>0) n:=by
 apply afm;intro i;by_cases hi:i<n
 . rw[gR hi]
   have:(aap n [D.int 0]).flatten=aap n (.int 0):=by induction n with|zero=>rfl|succ n ih=>simp[abU]
   rw[this];simp[hi]
 . rw[aa8 (by simp;omega),aa8 (by simp[bW];omega)]
theorem Gw {round:Fn}(I:∀{st rd:List D} {B:Int} {g:G},cE n o w h b s r kq ex st rd B g->B+600<2 ^ 40->st.length<=600->rd.length<=600->∃ks fs ss g',round [.aC w,.int o,aV n tg sh mo] g=some (.tup [.lst ss,.lst (dN (eE n o tg sh ks fs ss))],g')/\cw n o sh ks fs ss/\cE n o w h b s r kq ex (st++fS n o sh ks) (rd++bN ks fs ss) (B+500) g'/\cv [w,h,b,s,r] g g')
  (K:n<=5) (A:1<=mo) (H:mo<=4) (C:B+20000<2 ^ 40) (V:cE n o w h b s r kq ex st rd B g) (sz:st.length<=200) (J:rd.length<=200):
  ∃rs q en g',ao false 7 3 (Ik round) [.aC w,.int o,aV n tg sh mo] g=some (eQ q.2.2 en,g')/\Um n o tg sh mo w h b s r kq ex st rd B g rs q en g':=by
 obtain⟨lw,lh,lb,ls,lr,lk⟩:=V.PK;have y:g.length ∉ [w,h,b,s,r]:=by simp only[aah,aaw,or_false,not_or];omega
 have p:d9 (n:Int)=true:=d9.of (by omega) (by omega);have zn:az n=true:=aJ (by omega);have k:=V.push (x:=bW (λ_=>0) n) uz;have z:Lk n o tg sh mo w h b s r kq g.length ex st rd B (g ++ [bW (λ_=>0) n]) [] (g ++ [bW (λ_=>0) n]):=⟨by simpa[gk,fT]using k,by simp;rfl,by simp,by simp,λj _=>by show 0<mo;omega,.refl⟩
 obtain⟨rs,q,en,σ',g1,e,E⟩:=uA (c:=g.length) I K A H y (by omega) C sz J 16 1000000 [] (g ++ [bW (λ_=>0) n]) none none none (by omega) (by simp) z;obtain⟨ff,dd⟩:=x6 E.last.sl E.last.sa E.en;obtain⟨a,f⟩:=V.pop E.V E.fr;have u:g1.length=g.length+1:=by rw[E.fr.1];simp
 have fB:=E.fB;have main:wp (ao false 7 3 (Ik round) [.aC w,.int o,aV n tg sh mo] g) λx=>x=(eQ q.2.2 en,g1.take g.length):=by
  refine jL rfl ?_;have s1:aD (ak gh (aM bQ (af (fC (.int 0)) aj)) (ak av (aa 2) (fC (.int 1)))) (gN 3) ([D.aC w,.int o,aV n tg sh mo].map some++aap (7-3) none) g=some (.nx,[some (.aC w),some (.int o),some (aV n tg sh mo),some (.ref g.length),none,none,none],g ++ [bW (λ_=>0) n]):=by rw[<- rep0];have l:az 1=true:=rfl;simp[cz,aT,Gv,l,gh,p,zn]
  unfold Ik;rw[jg s1];refine⟨_,e,?_⟩;dsimp only;refine⟨bX _ ff,?_,by omega,rfl⟩;rw[abS];intro x hx;obtain⟨i,v⟩:=acA.mp hx;have:=a.bd i x v;rw[f.1]at this;exact this
 obtain⟨x,d,rfl⟩:=main;refine⟨rs,q,en,_,d,?_,E.all,E.last,fB,E.go,E.ends,E.en,f⟩;exact⟨a.W,a.hd.mono (by omega),a.ij,a.ez,a.kA,a.kB,a.bd⟩
end
section
variable {n o tg sh mo:Nat}{m:D}{g:G}{num hands cD aS:Fn}{rs:List R3}{R R':Str->Option Fn}{nm kz:Str}
theorem Eo {mv:D}{ps:List (List Nat)}{k i:Nat}(b:i<k)(h:dM mv ps i):dM mv (ps.take k) i:=by
 have e:∀j,j<k->(ps.take k).getD j []=ps.getD j []:=λj a=>by simp[aaE,aaK a]
 have c:∀m,m<=k->cC (ps.take k) m=cC ps m:=by
  intro m;induction m with
  |zero=>intro _;rfl
  |succ m ih =>
   intro hm;funext j;show cC (ps.take k) m j+(if j∈(ps.take k).getD m []then 1 else 0)=cC ps m j+(if j∈ps.getD m []then 1 else 0);rw[ih (by omega),e m (by omega)]
 unfold dM at h ⊢;rw[e i b,c (i+1) (by omega)];exact h
theorem x8 {xs:List R3}{k:Nat}(a:k<xs.length):xs=xs.take k++xs[k]::xs.drop (k+1):=by rw[<- acd a,agj]
theorem R0 {xs:List R3}(h:∀q∈xs,cw n o sh q.1 q.2.1 q.2.2){k j:Nat}(d:k<xs.length)(f:j<a_ n o sh):(gk n o sh xs)[k*a_ n o sh+j]? = (fS n o sh xs[k].1)[j]?:=by
 have a:(gk n o sh (xs.take k)).length=k*a_ n o sh:=by rw[oW λq b=>h q (abk b),aa2];congr 1;omega
 have c:(fS n o sh xs[k].1).length=a_ n o sh:=(h _ (abc d)).Ui;have e:gk n o sh xs=gk n o sh (xs.take k)++(fS n o sh xs[k].1++gk n o sh (xs.drop (k+1))):=by refine(congrArg (gk n o sh) (x8 d)).trans ?_;unfold gk;rw[agN,acU]
 rw[e,aaJ (by omega),a,ade,aan (by omega)]
theorem KZ {xs:List R3}(h:∀q∈xs,cw n o sh q.1 q.2.1 q.2.2){k j:Nat}(d:k<xs.length)(f:j<a_ n o sh):(fT xs).take (k*a_ n o sh+j)=((xs.take k).map bP).flatten++(bP xs[k]).take j:=by
 have a:(((xs.take k).map bP).flatten).length=k*a_ n o sh:=by have:=iP (n:=n) (o:=o) (sh:=sh) (rs:=xs.take k) λq c=>h q (abk c);rw[aa2,Nat.min_eq_left (by omega)]at this;exact this
 have b:(bP xs[k]).length=a_ n o sh:=(h _ (abc d)).wl;have e:fT xs=((xs.take k).map bP).flatten++(bP xs[k]++fT (xs.drop (k+1))):=by refine(congrArg fT (x8 d)).trans ?_;unfold fT;rw[af2,aa5,List.flatten_append,abW]
 rw[e,afQ,a,ade,abj (by omega),afQ,b,Nat.sub_eq_zero_of_le (by omega),List.take_zero,abb]
theorem Gx {q:R3}(F:xP m n o tg sh mo num hands cD aS R R' nm kz)
  (all:∀p∈rs ++ [q],cw n o sh p.1 p.2.1 p.2.2) (fB:rs.length<=15) (s:∀k,k<rs.length->dM (.int mo) ((rs ++ [q]).map (dP n o tg sh)) k) (i:Nat) (l:i<(fT (rs ++ [q])).length):
  ∃x u,(gk n o sh (rs ++ [q]))[i]? = some x/\ao false 8 3 (uv num hands aS (ao false 10 5 (gE R)) (ao false 6 3 (uu hands aS (ao false 5 4 (lV R')) kz)) nm) [m,.int o,.tup ((fT (rs ++ [q])).take i)] g=some (.tup [x,u],g):=by
 have sp:=sR F.S;rw[iP all,aai,ace]at l;have d:i / a_ n o sh<rs.length+1:=Nat.div_lt_of_lt_mul (by rw[adv];exact l);have hm:i % a_ n o sh<a_ n o sh:=Nat.mod_lt _ (by omega);have a:i=i / a_ n o sh*a_ n o sh+i % a_ n o sh:=by rw[adv];exact(Nat.div_add_mod i _).symm
 generalize i / a_ n o sh=k at d a;generalize i % a_ n o sh=j at hm a;subst a;have b:k<(rs ++ [q]).length:=by simpa using d
 have W:pJ n o sh ((rs ++ [q]).take k):=⟨λp f=>all p (abk f),by rw[aa2];omega⟩
 obtain⟨x,u,h,ex⟩:=D4 (g:=g) F W (r:=(rs ++ [q])[k]) (all _ (abc b)) hm (λc e=>by rw[aa2]at e;rw[List.map_take];exact Eo (by omega) (s c (by omega)))
 refine⟨x,u,by rw[R0 all b hm];exact h,?_⟩;rw[KZ all b hm];exact ex
end
def PL:FS:=aO (aa 7)
def W5:FS:=ay (aD (aa 3) (el (aa 7) (fC (.str "hands")))) PL
def W6:FS:=ay (eI (eZ isRef lP (ak av (aa 7) (fC (.str "moving"))) (af (cH cg (eH (af (aa 3) aj)) [none,none,some 2] (gN 1) (aH (ak bw (aa 1) (aa 2))) (aM aI (af (fC (.str "sign")) (af (aa 1) (af (aa 2) aj))))) aj))) W5
def W7:FS:=ay (aD (cH jj (eH (af (aa 3) aj)) [none,none,some 2] (gN 1) (aH (ak bw (aa 1) (aa 2))) (aM aI (af (fC (.str "own")) (af (aa 1) aj)))) (el (aa 7) (fC (.str "moving")))) W6
def W8 (take gi:Fn):FS:=ay (aD (aq gi (af (aa 0) (af (aa 4) (af (aq take (af (aa 0) (af (fC (.int 16)) aj))) aj)))) (gN 7)) W7
def Im (take:Fn):FS:=aD (aq take (af (aa 0) (af (fC (.int 2)) aj))) (el (aa 4) (aM aI (af (fC (.str "sign")) (af (aa 5) (af (aa 6) aj)))))
def W_ (take gi:Fn):FS:=ay (dw (eH (af (aa 3) aj)) (gN 5) (dw (eH (af (aa 3) aj)) (gN 6) (Im take))) (W8 take gi)
def Xa (take gi a:Fn):FS:=ay (aD (aq mH (af (cH cg (eH (af (aa 3) aj)) [none,none,some 0,some 3] (gN 1) dZ (aM aI (af (aM aI (af (fC (.str "own")) (af (aa 1) aj))) (af (aq a (af (aa 2) (af (aa 3) aj))) aj)))) aj)) (gN 4)) (W_ take gi)
def PM (take gi a:Fn):FS:=ay (aD (ak av (aa 1) (fC (.int 1))) (gN 3)) (Xa take gi a)
def x9 (o n:Nat):List D:=((aba n).filter λj=>!(j == o)).map λj=>bA j o
theorem x_ {o n:Nat}:aQ (x9 o n)=true/\bp (x9 o n)<=50:=by
 have:∀l:List Nat,aQ (l.map λj=>bA j o)=true/\bp (l.map λj=>bA j o)<=50:=λl=>by
  induction l with
  |nil=>exact⟨rfl,by simp[bp]⟩
  |cons a l ih =>
   simp only[aa5,aQ,bp];exact⟨by rw[ih.1];rfl,agB.mpr ⟨by simp[bA,dep,bp],ih.2⟩⟩
 exact this _
theorem Ep {xs ys:List D}(a:aQ xs=true)(b:aQ ys=true):aQ (xs++ys)=true:=by
 induction xs with
 |nil=>exact b|cons x xs ih=>simp only[aQ,ac6,aae]at a ⊢;exact⟨a.1,ih a.2⟩
theorem Gy {xs ys:List D}{k:Nat}(a:bp xs<=k)(b:bp ys<=k):bp (xs++ys)<=k:=by
 induction xs with
 |nil=>exact b|cons x xs ih=>simp only[bp,ac6]at a ⊢;exact agB.mpr ⟨by omega,ih (by omega)⟩
structure Bi (n h b:Nat)(B:Int)(P:Nat->Nat->Prop)(k:Nat)(g:G):Prop where
 bx:∃bx,g[b]? = some bx/\c9 bx=true/\bx.length<=10+2*k/\oa (SC n) "own" n bx/\aA 0 bx=true /\ ∀i j,P i j->∃c:Int,aK bx (bA i j)=some (.int c)
 hd:Hd g h (B+k)
 bd:Bd g
 len:g.length=b+1
section
variable {n h b o:Nat}{m:D}{B:Int}{g:G}{take gi cont:Fn}
theorem Bi.step (A:dY take){P:Nat->Nat->Prop}{i j k:Nat}(I:Bi n h b B P k g)(H:h<b)(C:B+100<2 ^ 40)(E:k<=50){o7:Option D}:
   ∃g',Im take [some (.ref h),some m,some (.int o),some (.int n),some (.aC b),some (.int i),some (.int j),o7] g=some (.nx,[some (.ref h),some m,some (.int o),some (.int n),some (.aC b),some (.int i),some (.int j),o7],g')/\Bi n h b B (λi' j'=>P i' j'\/(i'=i/\j'=j)) (k+1) g':=by
 obtain⟨bx,hx,a,bl,bs,nb,p⟩:=I.bx;obtain⟨x,g1,l,x0,x1,d,f1⟩:=A h 2 g _ (by omega) (by decide) (by decide) I.hd;have f:b≠h:=by omega
 have Uc:g1[b]? = some bx:=by rw[f1.2 _ f];exact hx
 have y:iz bx=true:=by unfold iz;exact aJ (by omega)
 have z:az 3=true:=rfl;have s:aW 6 (.tup [.str "sign",.int (i:Int),.int (j:Int)])=true:=rfl;have lt:b<g1.length:=by rw[f1.1,I.len];omega
 refine⟨g1.set b (aP bx (bA i j) (.int x)),?_,⟨_,aav lt,iJ eF a,?_,?_,fR rfl rfl nb,?_⟩,?_,?_,?_⟩
 . unfold Im
   simp[l,Uc,s,y,z];rfl
 . have:=qm (k:=bA i j) (v:=.int x) (xs:=bx);omega
 . intro q u
   obtain⟨c,r,pc⟩:=bs q u;exact⟨c,by rw[gP eF gC iO a];exact r,pc⟩
 . intro i' j' hp
   by_cases e:i'=i/\j'=j
   . obtain⟨rfl,rfl⟩:=e
     exact⟨_,gO eF a⟩
   . rw[gP eF eF (xU λq=>e ⟨q.1.symm,q.2.symm⟩) a]
     exact p i' j' (hp.resolve_right e)
 . refine(Hd.ne d f).mono ?_
   omega
 . exact(I.bd.fr f1 d).set (cj (aaR _) (fR rfl rfl nb))
 . rw[acB,f1.1,I.len]
theorem Bp (A:dY take)(H:n<=5)(E:h<b)(C:B+100<2 ^ 40)(I:Bi n h b B (λ_ _=>False) 0 g):
   wp (dw (eH (af (aa 3) aj)) (gN 5) (dw (eH (af (aa 3) aj)) (gN 6) (Im take)) [some (.ref h),some m,some (.int o),some (.int n),some (.aC b),none,none,none] g) λr=>r.1 = .nx/\(∃o5 o6,r.2.1 = [some (.ref h),some m,some (.int o),some (.int n),some (.aC b),o5,o6,none])/\Bi n h b B (λi j=>i<n/\j<n) (n*n) r.2.2:=by
 rw[gK,wp_bind];refine iV ⟨([.int n],g),rfl,n,rfl,by omega,by omega,?_⟩;refine(f6 (λi σ k=>(∃o5 o6,σ = [some (.ref h),some m,some (.int o),some (.int n),some (.aC b),o5,o6,none])/\Bi n h b B (λf e=>f < i/\e < n) (i*n) k) _ 0 _ _ ⟨⟨none,none,rfl⟩,by simpa using I⟩ ?_ ?_)
 . rintro i d σ k hi ⟨⟨o5,o6,rfl⟩,p⟩
   obtain⟨cF,rfl⟩:=cZ hi;have ab:i*n<=4*5:=aeX (by omega) H;refine⟨_,rfl,?_⟩;dsimp only;rw[gK,wp_bind];refine iV ⟨([.int n],k),rfl,n,rfl,by omega,by omega,?_⟩;refine(f6 (λj σ k=>(∃o6,σ = [some (.ref h),some m,some (.int o),some (.int n),some (.aC b),some (.int i),o6,none])/\Bi n h b B (λf e=>(f < i/\e < n)\/(f=i/\e < j)) (i*n+j) k) _ 0 _ _ ⟨⟨_,rfl⟩,by simpa using p⟩ ?_ ?_)
   . rintro j d σ g2 hj ⟨⟨o6,rfl⟩,l⟩
     obtain⟨gQ,rfl⟩:=cZ hj;simp only[aaY]at l ⊢;obtain⟨g3,e3,I3⟩:=l.step (m:=m) (o:=o) (i:=i) (j:=j) (o7:=none) A E C (by omega);refine⟨_,rfl,_,e3,⟨_,rfl⟩,?_⟩;obtain⟨⟨y,q,z,u,v,h5,s⟩,a,x,c⟩:=I3;exact⟨⟨y,q,z,u,v,h5,λf e hp=>s f e (by omega)⟩,a,x,c⟩
   . rintro σ g2 ⟨⟨o6,rfl⟩,l⟩
     simp only[aaY,bZ,abi]at l ⊢;refine⟨⟨_,_,rfl⟩,?_⟩;obtain⟨⟨y,q,z,u,v,h5,s⟩,a,x,c⟩:=l;rw[aca,Nat.one_mul];exact⟨⟨y,q,z,u,v,h5,λf e hp=>s f e (by omega)⟩,a,x,c⟩
 . rintro σ k ⟨⟨o5,o6,rfl⟩,p⟩
   simp only[aaY,bZ,abi]at p;exact⟨rfl,⟨_,_,rfl⟩,p⟩
end
noncomputable def pN (n a:Nat):List D:=[.str "moving",.ref a,.str "hands",.int n]
section
variable {n h b o tg sh mo:Nat}{m:D}{B:Int}{g:G}{take gi cont:Fn}
theorem sW {g:G}{f:Nat->D}{e:FE}(l:∀(j:Nat) (g:G),e [none,some (.int j),some (.int o)] g=some (f j,g)):
   wp (cN (gN 1) (aH (ak bw (aa 1) (aa 2))) e (gp 0 n) [none,none,some (.int o)] g) λq=>q=(((aba n).filter λj=>!(j == o)).map f,g):=by
 refine iF (λi acc σ a=>(∃o1,σ = [none,o1,some (.int o)])/\acc=((aba i).filter λj=>!(j == o)).map f/\a=g) _ 0 _ _ [] ⟨⟨none,rfl⟩,rfl,rfl⟩ ?_ ?_
 . rintro i d acc σ a b ⟨⟨k,rfl⟩,rfl,rfl⟩
   obtain⟨h,rfl⟩:=cZ b;simp only[aaY];have t:aH (ak bw (aa 1) (aa 2)) [none,some (.int i),some (.int o)] a=some (decide ((i:Int)≠(o:Int)),a):=by rw[cY,show ak bw (aa 1) (aa 2) [none,some (.int i),some (.int o)] a=bw (.int i) (.int o) a from rfl,ne_int];rfl
   refine⟨_,rfl,_,t,?_⟩;by_cases hc:i=o
   . subst hc;simp[aeL,adj]
   . have c:¬((i:Int)=(o:Int)):=by omega
     simp only[ne_eq,c,not_false_eq_true,decide_true,if_true];refine⟨_,l i a,⟨_,rfl⟩,?_,rfl⟩;simp[aeL,adj,hc]
 . rintro xs σ a ⟨_,e,rfl⟩
   simp only[acq,bZ,aaY]at e;rw[e]
theorem R1 (s:rL cont)(u:n<=5)(y:B+200<2 ^ 40)(v:Hd g h B):
   wp (cN (gN 1) dZ (aM aI (af (aM aI (af (fC (.str "own")) (af (aa 1) aj))) (af (aq cont (af (aa 2) (af (aa 3) aj))) aj))) (gp 0 n) [none,none,some (.ref h),some (.int n)] g) λq=>∃cs:List D,q.1=m_ "own" 0 cs/\cs.length=n/\(∀c∈cs,SC n c)/\Hd q.2 h (B+n*30)/\Fr h g q.2:=by
 refine iF (λi acc σ a=>(∃o1,σ = [none,o1,some (.ref h),some (.int n)]) /\ ∃cs:List D,acc=m_ "own" 0 cs/\cs.length=i/\(∀c∈cs,SC n c)/\Hd a h (B+i*30)/\Fr h g a) _ 0 _ _ [] ⟨⟨none,rfl⟩,[],rfl,rfl,by simp,by simpa using v,Fr.refl⟩ ?_ ?_
 . rintro i d acc σ a o ⟨⟨p,rfl⟩,cs,rfl,cl,ca,f,fr⟩
   obtain⟨r,rfl⟩:=cZ o;simp only[aaY]at *;obtain⟨c,g1,j,sc,l,f1⟩:=s h n a _ u (by omega) f;have e:aM aI (af (aM aI (af (fC (.str "own")) (af (aa 1) aj))) (af (aq cont (af (aa 2) (af (aa 3) aj))) aj)) [none,some (.int i),some (.ref h),some (.int n)] a=some (.tup [own "own" i,c],g1):=by have k:az 2=true:=rfl;simp[j,k,own]
   refine⟨_,rfl,_,rfl,?_⟩;simp only[if_true];refine⟨_,e,⟨_,rfl⟩,cs ++ [c],?_,by simp[cl],λx b=>?_,l.mono (by omega),fr.trans f1⟩
   . rw[xw,aaY,cl]
   . rcases aao.mp b with b|b
     . exact ca x b
     . simp at b;subst b;exact sc
 . rintro xs σ a ⟨_,cs,e,cl,ca,f,fr⟩
   simp only[acq,bZ,aaY,abi]at *;exact⟨cs,e,cl,ca,f,fr⟩
theorem K0 (C:dY take)(hw:sL gi)(H:rL cont)(K:1<=n)(A:n<=5)(E:Hd g h B)(J:B+1000<2 ^ 40)(I:Bd g):
   ∃g',ao true 8 3 (PM take gi cont) [.ref h,aV n tg sh mo,.int o] g=some (.aC (g.length+1),g')/\cE n o (g.length+1) h g.length (g.length+2) (g.length+3) (g.length+4) (pN n (g.length+4)) [] [] (B+400) g'/\g'.length=g.length+5:=by
 have bM:=E.lt;have zn:az n=true:=aJ (by omega);have z2:az 2=true:=rfl;have z3:az 3=true:=rfl;obtain⟨⟨ps,g1⟩,ec,cs,rfl,cl,ca,u,f1⟩:=R1 (B:=B) H A (by omega) E;dsimp only at ec u f1;have l1:=f1.1;have b1:=I.fr f1 u;have eb:mH [.lst (m_ "own" 0 cs)] g1=some (.aC g.length,g1 ++ [cx "own" 0 cs]):=by have:=Gb (nm:="own") (vs:=cs) (g:=g1) (by omega);rw[l1]at this;exact this
 have ae:(m_ "own" 0 cs).length=n:=by unfold m_;rw[aaI,sM,cl]
 have Uz:aA 0 (cx "own" 0 cs)=true:=ui (cR λc a=>bX c (ca c a).flat);have I0:Bi n h g.length (B+n*30) (λ_ _=>False) 0 (g1 ++ [cx "own" 0 cs]):=by refine⟨⟨cx "own" 0 cs,by rw[<- l1];simp,rG,by rw[uh];omega,by rw[<- cl]at ca ⊢;exact DP ca,Uz,by simp⟩,by simpa using Hd.app u,b1.app (by simp;exact cj (aaR _) Uz),by simp[l1]⟩
 obtain⟨⟨f,σ2,g2⟩,e2,rfl,⟨o5,o6,rfl⟩,I2⟩:=Bp (m:=aV n tg sh mo) (o:=o) C A (by omega) (by omega) I0;dsimp only at e2 I2;obtain⟨⟨bx,a,ka,bl,bs,nb,sg⟩,hd2,ax,l2⟩:=I2;have nn:n*n<=25:=aeX A A;obtain⟨x,g3,e3,x0,x1,kr,v⟩:=C h 16 g2 _ (by omega) (by decide) (by decide) hd2;have eL:g.length≠h:=by omega
 have ah:g3[g.length]? = some bx:=by rw[v.2 _ eL];exact a
 have r:g3.length=g.length+1:=by rw[v.1,l2]
 have b3:=ax.fr v kr;have e4:=hw h g.length x g3;rw[r]at e4;have hP:∀W,W=W0 h g.length x (g.length+1+1) (g.length+1+2)->aP W (.str "moving") (.ref (g.length+4))=W ++ [.str "moving",.ref (g.length+4)]/\(∀X,aK (W++(.str "moving" :: .ref (g.length+4)::X)) (.str "moving")=some (.ref (g.length+4)))/\aP (W ++ [.str "moving",.ref (g.length+4)]) (.str "hands") (.int n)=W++pN n (g.length+4)/\W.length=10:=λW p=>by subst p;exact⟨rfl,λ_=>rfl,rfl,rfl⟩
 generalize p:W0 h g.length x (g.length+1+1) (g.length+1+2)=W at e4;obtain⟨p1,p2,p3,wl⟩:=hP W p.symm;obtain⟨_,e5,rfl⟩:=sW (n:=n) (o:=o) (g:=g3 ++ [W,[],[]]) (f:=λj=>own "own" j) (e:=aM aI (af (fC (.str "own")) (af (aa 1) aj))) (λj g=>by simp[z2,own]);obtain⟨_,e6,rfl⟩:=sW (n:=n) (o:=o) (g:=g3 ++ [W ++ [.str "moving",.ref (g.length+4)],[],[],uj "own" o n]) (f:=λj=>bA j o) (e:=aM aI (af (fC (.str "sign")) (af (aa 1) (af (aa 2) aj)))) (λj g=>by simp[z3,bA]);have fl:∀f:Nat->D,(((aba n).filter λj=>!(j == o)).map f).length<=n:=λf=>by rw[aaI];exact aa0 (ab0 _ _) (by simp)
 have ar:=fl (own "own")
 have ab:=fl (bA · o)
 change cN _ _ _ _ _ _=some (uj "own" o n,_)at e5;change cN _ _ _ _ _ _=some (x9 o n,_)at e6;change (uj "own" o n).length<=n at ar;change (x9 o n).length<=n at ab;have UA:aQ (uj "own" o n++x9 o n)=true:=Ep zH.1 x_.1;have ai:bp (uj "own" o n++x9 o n)<=50:=Gy zH.2 x_.2;generalize uj "own" o n=k at *;generalize x9 o n=b at *;have UB:aA 0 (k++b)=true:=cG _ UA;have m7:∀(W:List D) (X:G),(g3++(W::X))[g.length+1]? = some W:=λW X=>by rw[<- r];simp
 have UC:∀(W Y:List D),(g3 ++ [W,[],[],Y])[g.length+4]? = some Y:=λW Y=>by rw[show g.length+4=g3.length+3 by omega];simp
 have PN:∀(W W':List D) (X:G),(g3++(W::X)).set (g.length+1) W'=g3++(W'::X):=λW W' X=>by rw[<- r];simp
 have Xb:∀(W Y y:List D),(g3 ++ [W,[],[],Y]).set (g.length+4) y=g3 ++ [W,[],[],y]:=λW Y y=>by rw[show g.length+4=g3.length+3 by omega];simp
 have W1:∀X:List D,X.length<=10->iz (W++X)=true:=λX hX=>aJ (by simp;omega);have au:iz W=true:=aJ (by omega);have z4:az b.length=true:=aJ (by omega);have z5:az (k.length+b.length)=true:=aJ (by omega);have key:wp (ao true 8 3 (PM take gi cont) [.ref h,aV n tg sh mo,.int o] g) λq=>q=(.aC (g.length+1),g3 ++ [W++pN n (g.length+4),[],[],k++b]):=by
   refine JL rfl (fj (d:=.int n) (g1:=g) (by simp[cz,aT,Gv]) (fj (d:=.aC g.length) (g1:=g1 ++ [cx "own" 0 cs]) ?_ (di e2 (fj (d:=.aC (g.length+1)) (g1:=g3 ++ [W,[],[]]) (by simp[e3,e4]) ?_))))
   . have c1:=rH (σ:=[some (.ref h),some (aV n tg sh mo),some (.int o),some (.int n),none,none,none,none]) (g:=g) (fr:=af (aa 3) aj) rfl (n:=n) (by omega)
     rw[mq,j9,we];simp[c1,bZ,zn,cf,ec,cg,ae,eb]
   . generalize hσ:List.set _ 7 _=σ
     have i3:σ[3]? = some (some (.int n)):=by rw[<- hσ];rfl
     have s:σ[7]? = some (some (.aC (g.length+1))):=by rw[<- hσ];rfl
     have i2:σ[2]? = some (some (.int o)):=by rw[<- hσ];rfl
     have r1:∀G,eH (af (aa 3) aj) σ G=some (gp 0 n,G):=λG=>rH (by simp[i3]) (by omega);refine di (σ1:=σ) (g1:=g3 ++ [W ++ [.str "moving",.ref (g.length+4)],[],[],k]) ?_ (di (σ1:=σ) (g1:=g3 ++ [W ++ [.str "moving",.ref (g.length+4)],[],[],k++b]) ?_ (di (σ1:=σ) (g1:=g3 ++ [W++pN n (g.length+4),[],[],k++b]) ?_ ?_))
     . simp[r1,bZ,Nat.add_assoc,zn,i2,s,cf,e5,jj,r,m7,gm,au,p1,PN]
     . simp[r1,bZ,zn,i2,s,cf,e6,cg,z4,m7,gm,p2,lP,hU,UC,z5,Xb]
     . simp[i3,s,m7,gm,W1,p3,PN]
     . simp[PL,s]
 obtain⟨_,e,rfl⟩:=key;refine⟨_,e,?_,by simp;omega⟩;generalize hG:g3 ++ [W++pN n (g.length+4),[],[],k++b]=G';have gl:G'.length=g.length+5:=by rw[<- hG];simp;omega
 have up:∀i,i<g3.length->G'[i]? = g3[i]?:=λi l=>by rw[<- hG];exact aan l
 have z:G'[g.length+1]? = some (W0 h g.length x (g.length+2) (g.length+3)++pN n (g.length+4)):=by rw[<- hG,p];exact m7 _ _
 have Mr:G'[g.length+2]? = some []:=by rw[<- hG,show g.length+2=g3.length+1 by omega];simp
 have et:G'[g.length+3]? = some []:=by rw[<- hG,show g.length+3=g3.length+2 by omega];simp
 have j3:G'[g.length+4]? = some (k++b):=by rw[<- hG];exact UC _ _
 have gI:G'[g.length]? = some bx:=by rw[up _ (by omega)];exact ah
 have eG:Hd G' h (B+400):=by rw[<- hG];exact(Hd.app kr).mono (by omega)
 have ij:aA G'.length (pN n (g.length+4))=true:=by simp[pN,aA,bB,gl]
 have W:Wm.Wl G' (g.length+1) h g.length (g.length+2) (g.length+3) (g.length+4) x (pN n (g.length+4)) bx [] []:=by
   refine⟨z,gI,Mr,et,?_,rfl,⟨_,j3,UA,ai,UB⟩,?_⟩
   . simp;omega
   . simp;omega
 refine⟨⟨x,bx,W,ka,by omega,bs,λi j l hj=>sg i j ⟨l,hj⟩,nb⟩,eG,ij,by simp[pN],rfl,rfl,?_⟩;refine Wm.gH W eG ij nb rfl rfl λi xs l a=>?_;by_cases eU:i<g3.length
 . rw[up i eU]at a
   exact cj (by omega) (b3 i xs a)
 . have Ou:i<G'.length:=(aab.mp a).1
   simp only[aah,aaw,or_false,not_or]at l;have:i=g.length+4:=by omega
   subst this;rw[j3]at a;cases a;exact cj (aaR _) UB
end
def Io (key:D):Prop:=∃i j:Nat,key=bA i j
def ou (c:D):Prop:=∃v:Int,c = .int v
theorem PQ {i j:Nat}:bJ [D.str "sign",.int i,.int j] 0=some (.str "sign"):=rfl
theorem Er {take A y C z:Fn}(E:dY take){w h b s r H n:Nat}{ex:List D}(I:aK ex (.str "hands")=some (.int n)):Wm.lS (ao false 8 2 (Ed take A y C z)) Io ou 30 w h b s r H ex:=λg l u st v B key c W k ok f pc hd p=>by
 obtain⟨i,j,rfl⟩:=ok;obtain⟨d,g1,e,o,x,a,f1⟩:=E h 2 g _ (by omega) (by decide) (by decide) hd;have main:wp (ao false 8 2 (Ed take A y C z) [.aC w,bA i j] g) λq=>q=(.int d,g1):=by refine wp_run rfl ?_;refine di (Bf (d:=.ref h) (d':=.int n) (g1:=g) (g2:=g) (by simp[W.hw,gm,rD]) (by simp[W.hw,gm,zE,I])) ?_;simp[bA,cz,aT,PQ,dq,e];exact f1.1
 obtain⟨q,e,rfl⟩:=main;exact⟨_,_,e,⟨d,rfl⟩,a.mono (by omega),f1⟩
section
variable {n o tg sh mo:Nat}{m wd:D}{w h b s r kq c:Nat}{ex st rd mv:List D}{B:Int}{g:G}{see:Fn}
theorem cE.Xc (E:Wm.jH see Io ou 31 w h b s r kq ex mv)(V:cE n o w h b s r kq ex st rd B g)(H:B+31<2 ^ 40)(sz:st.length<=600)(I:rd.length<=600){i j:Nat}(A:i<n)(C:j<n):
   ∃(v:Int) (g':G),see [.aC w,bA i j] g=some (.int v,g')/\cE n o w h b s r kq ex (st ++ [.tup [.str "read",bA i j]]) (rd ++ [.int v]) (B+31) g'/\cv [w,h,b,s,r] g g':=by
 obtain⟨⟨l,bx,W,ka,a,zQ,xW,nb⟩,hd,ij,f,kA,kB,bd⟩:=V;obtain⟨c,hc⟩:=xW i j A C;obtain⟨c',g',eO,e,Z⟩:=E g l bx _ _ _ (bA i j) (.int c) W ⟨ka,a,f,by omega,by omega⟩ hd (by omega) eF ⟨i,j,rfl⟩ hc ⟨c,rfl⟩;obtain⟨v,rfl⟩:=Z.pc;obtain⟨l',y⟩:=Z.W;have d:=Z.nr 0 rfl nb;have ns:aA 0 (st ++ [.tup [.str "read",bA i j]])=true:=cP kA rfl;have x:aA 0 (rd ++ [.int v])=true:=cP kB rfl;have ne:aA g'.length ex=true:=by rw[Z.fr.1];exact ij
 refine⟨v,g',e,⟨⟨l',eO,y,Z.ka,by rw[Z.bl];exact a,λk hk=>?_,λu p kG SF=>?_,d⟩,Z.hd,ne,f,ns,x,Wm.gH y Z.hd ne d ns x λi xs A z=>?_⟩,Z.fr⟩
 . rw[Z.ot _ gC (aaN iO)];exact zQ k hk
 . by_cases q:i=u/\j=p
   . obtain⟨rfl,rfl⟩:=q;exact⟨v,Z.at_⟩
   . rw[Z.ot _ eF (aaN (xU q))];exact xW u p kG SF
 . rw[Z.fr.2 i A]at z
   rw[Z.fr.1];exact bd i xs z
noncomputable def bT (z:List D)(ps:List (Nat×Int)):List D:=ps.foldl (λl p=>l.set p.1 (.int (1-p.2))) z
theorem pO {z:List D}{ps:List (Nat×Int)}{i:Nat}{v:Int}:bT z (ps ++ [(i,v)])=(bT z ps).set i (.int (1-v)):=by simp[bT]
theorem ik {ps:List (Nat×Int)}:∀{z:List D},(bT z ps).length=z.length:=by
 induction ps with
 |nil=>intro z;rfl|cons p ps ih=>intro z;exact(ih (z:=z.set p.1 _)).trans (by simp)
theorem mQ {ps:List (Nat×Int)}:∀{z:List D},(∀d∈z,ou d)->∀d∈bT z ps,ou d:=by
 induction ps with
 |nil=>intro z h;exact h
 |cons p ps ih =>
  intro z h;refine ih (z:=z.set p.1 (.int (1-p.2))) λd hd=>?_;rcases afz hd with hd|rfl
  . exact h d hd
  . exact⟨_,rfl⟩
theorem kY {xs:List D}(h:∀d∈xs,ou d):aQ xs=true/\bp xs<=5:=⟨fq λd hd=>by obtain⟨v,rfl⟩:=h d hd;rfl,oU λd hd=>by obtain⟨v,rfl⟩:=h d hd;simp[dep]⟩
noncomputable abbrev d_ (n:Nat):List D:=aap n (.int 0)
theorem oX {n:Nat}:∀d∈d_ n,ou d:=λd hd=>by obtain⟨_,rfl⟩:=List.mem_replicate.mp hd;exact⟨0,rfl⟩
def kZ (o:Nat)(l:List Nat):List D:=l.map λj=>.tup [.str "read",bA j o]
def rO (see:Fn):FS:=cy (jZ (aH (ak oEq (ak av (aa 3) (fC (.int 3))) (fC (.int 1)))) (aH (ak bw (aa 9) (aa 5)))) (aD (ak (bS eu (· - ·)) (fC (.int 1)) (aq see (af (aa 7) (af (aM aI (af (fC (.str "sign")) (af (aa 9) (af (aa 5) aj)))) aj)))) (el (aa 8) (aa 9))) bb
noncomputable def lX (a0 a1 a2:Option D)(m:D)(n o:Nat)(a6:Option D)(w c:Nat)(x y z:Option D)(a:Option D):Sg:=[a0,a1,a2,some m,some (.int n),some (.int o),a6,some (.aC w),some (.ref c),a,x,y,z]
theorem Xd {a b c d e:D}:bJ [a,b,c,d,e] 3=some d:=rfl
theorem Es {a0 a1 a2 a6 x y z:Option D}{g:G}{j:Nat}:jZ (aH (ak oEq (ak av (aa 3) (fC (.int 3))) (fC (.int 1)))) (aH (ak bw (aa 9) (aa 5))) (lX a0 a1 a2 (aV n tg sh mo) n o a6 w c x y z (some (.int j))) g=some (decide (sh=1/\j≠o),g):=by
 have a:((sh:Int)=1)=(sh=1):=propext (by omega);have b:((j:Int)≠(o:Int))=(j≠o):=propext (by omega);have d:aH (ak bw (aa 9) (aa 5)) (lX a0 a1 a2 (aV n tg sh mo) n o a6 w c x y z (some (.int j))) g=some (decide ((j:Int)≠(o:Int)),g):=by rw[cY,show ak bw (aa 9) (aa 5) (lX a0 a1 a2 (aV n tg sh mo) n o a6 w c x y z (some (.int j))) g=bw (.int j) (.int o) g from rfl,ne_int];rfl
 have t1:aH (ak oEq (ak av (aa 3) (fC (.int 3))) (fC (.int 1))) (lX a0 a1 a2 (aV n tg sh mo) n o a6 w c x y z (some (.int j))) g=some (decide ((sh:Int)=1),g):=by simp[lX,cz,aT,Xd,dq];rfl
 rw[yQ,t1];simp only[aaj,d,a,b];by_cases h:sh=1<;>simp[h]
structure LQ (n o sh:Nat)(w h b s r kq c:Nat)(ex:List D)(B:Int)(g0:G)(j:Nat)(g:G)(ks:List Int):Prop where
 kl:ks.length=(aG j o sh).length
 V:cE n o w h b s r kq ex (kZ o (aG j o sh)) (ks.map .int) (B+j*31) g
 at_:g[c]? = some (bT (d_ n) ((aG j o sh).zip ks))
 fr:cv [w,h,b,s,r,c] g0 g
theorem Bq {A:G}{a0 a1 a2 a6 b9 x y z:Option D}(H:Wm.jH see Io ou 31 w h b s r kq ex mv)(J:o<n)(N:n<=5)(M:B+400<2 ^ 40)(E:c ∉ [w,h,b,s,r])(K:c≠kq)(V:cE n o w h b s r kq ex [] [] B A)(L:A[c]? = some (d_ n)):
   wp (dw (eH (af (aa 4) aj)) (gN 9) (rO see) (lX a0 a1 a2 (aV n tg sh mo) n o a6 w c x y z b9) A) λu=>u.1 = .nx/\(∃a9,u.2.1=lX a0 a1 a2 (aV n tg sh mo) n o a6 w c x y z a9) /\ ∃ks,LQ n o sh w h b s r kq c ex B A n u.2.2 ks:=by
 rw[gK,wp_bind];refine iV ⟨([.int n],A),rfl,n,rfl,by omega,by omega,?_⟩;refine(f6 (λj σ g=>(∃a9,σ=lX a0 a1 a2 (aV n tg sh mo) n o a6 w c x y z a9) /\ ∃ks,LQ n o sh w h b s r kq c ex B A j g ks) _ 0 _ _ ⟨⟨b9,rfl⟩,[],?_⟩ ?_ ?_)
 . have e:aG 0 o sh = []:=by unfold aG er;split<;>rfl
   exact⟨by rw[e];rfl,by rw[e];simpa[kZ]using V,by rw[e];exact L,.refl⟩
 . rintro j d σ g hj ⟨⟨a9,rfl⟩,ks,I⟩
   obtain⟨l,rfl⟩:=cZ hj;simp only[aaY]at I ⊢;refine⟨(lX a0 a1 a2 (aV n tg sh mo) n o a6 w c x y z (some (.int j)),g),rfl,?_⟩;dsimp only;by_cases hh:sh=1/\j≠o
   . have sl:=gj (n:=j) (o:=o) (sh:=sh)
     have a:aG (j+1) o sh=aG j o sh ++ [j]:=by rw[mO,if_pos hh]
     obtain⟨v,g1,f,V1,f1⟩:=I.V.Xc H (by omega) (by simp[kZ];omega) (by simp[I.kl];omega) l J;have k:=(f1.2 c E).trans I.at_;have fE:c<g1.length:=(aab.mp k).1;have zn:j<(bT (d_ n) ((aG j o sh).zip ks)).length:=by rw[ik,acy];exact l
     have p:=V1.other E K (xs:=(bT (d_ n) ((aG j o sh).zip ks)).set j (.int (1-v))) (cG _ (kY λd hd=>by
       rcases afz hd with hd|rfl
       . exact mQ oX d hd
       . exact⟨_,rfl⟩).1)
     have z3:az 3=true:=rfl;rw[show bA j o = .tup [.str "sign",.int j,.int o] from rfl]at f;refine⟨(.nx,lX a0 a1 a2 (aV n tg sh mo) n o a6 w c x y z (some (.int j)),g1.set c ((bT (d_ n) ((aG j o sh).zip ks)).set j (.int (1-v)))),?_,⟨_,rfl⟩,ks ++ [v],by rw[a];simp[I.kl],?_,?_,?_⟩
     . unfold rO
       rw[lq (g1:=g) (by rw[Es,decide_eq_true hh])];have hz:(bT (d_ n) ((aG j o sh).zip ks)).length<=5:=by rw[ik,acy];omega
       generalize bT (d_ n) ((aG j o sh).zip ks)=C at *;simp[lX,f,k,z3,zn,putD,iu]
     . rw[a]
       have q:kZ o (aG j o sh ++ [j])=kZ o (aG j o sh) ++ [.tup [.str "read",bA j o]]:=by simp[kZ]
       rw[q,af2,show B+((j+1:Nat):Int)*31=B+(j:Int)*31+31 by omega];exact p
     . rw[a,ahW (by rw[I.kl]),show List.zip [j] [v]= [(j,v)] from rfl,pO]
       exact aav fE
     . exact(I.fr.trans ⟨f1.1,λi hi=>f1.2 i λz=>hi (by simp only[aah,aaw,or_false]at z ⊢;rcases z with z|z|z|z|z<;>simp[z])⟩).trans (cv.set (by simp))
   . have a:aG (j+1) o sh=aG j o sh:=by rw[mO,if_neg hh,abb]
     refine⟨(.nx,lX a0 a1 a2 (aV n tg sh mo) n o a6 w c x y z (some (.int j)),g),?_,⟨_,rfl⟩,ks,by rw[a];exact I.kl,?_,by rw[a];exact I.at_,I.fr⟩
     . unfold rO
       rw[ie (g1:=g) (by rw[Es,decide_eq_false hh])];rfl
     . have:=I.V
       rw[a];exact⟨this.W,this.hd.mono (by omega),this.ij,this.ez,this.kA,this.kB,this.bd⟩
 . rintro σ g ⟨⟨a9,rfl⟩,ks,I⟩
   simp only[aaY,bZ,abi]at I;exact⟨rfl,⟨_,rfl⟩,ks,I⟩
end
def Gz (turned:Fn):FS:=ay (aD (ak gh (aM bQ (af (fC (.int 0)) aj)) (aa 0)) (gN 3)) (ay (oM (kQ (aa 1) (aa 2)) (gT 2 (bR (gN 4) (bR (gN 5) g_))) (aD (aq turned (af (aa 5) aj)) (el (aa 3) (aa 4)))) (aO (aq jq (af (aa 3) aj))))
def Xe (a:Fn):FS:=aO (aq a (af (aM bQ (af (aM aI (af (fC (.str "write")) (af (aM aI (af (fC (.str "own")) (af (aa 1) aj))) (af (aa 9) aj)))) aj)) (af (js (aa 6) (eB (ak av (aa 7) (fC (.int 1)))) pW) aj)))
def Xf (dF a:Fn):FS:=ay (aD (aM aI (af (ak av (aa 2) (fC (.int 2))) (af (aa 8) (af (aq dF (af (aa 0) (af (aa 2) (af (aa 3) aj)))) (af (ak av (ak av (aa 7) (fC (.int 0))) (fC (.int 1))) aj))))) (gN 9)) (Xe a)
def Xg (a c dF b:Fn):FS:=ay (aD (aq c (af (aq a (af (aa 0) aj)) (af (aa 5) (af (aa 4) aj)))) (gN 8)) (Xf dF b)
def PR (a c dF b:Fn):FS:=ay (cy (aH (ak bw (ak av (ak av (aa 7) (fC (.int 0))) (fC (.int 0))) (fC (.str "told")))) (aO (ak av (aa 7) (fC (.int 0)))) bb) (Xg a c dF b)
def Xh (b a d dF c:Fn):FS:=ay (aD (aq b (af (aa 0) (af (aa 1) (af (aa 6) aj)))) (gN 7)) (PR a d dF c)
def Xi (b a d dF c:Fn):FS:=ay (aD (js (aa 4) (eB (aq cK (af (aa 5) aj))) pW) (gN 6)) (Xh b a d dF c)
def Xj (b a d dF c:Fn):FS:=ay (cy (aH (ak oLt (aq cK (af (aa 4) aj)) (aq cK (af (aa 5) aj)))) (aO (aM aI (af (fC (.str "read")) (af (aM aI (af (fC (.str "sign")) (af (ak av (aa 5) (aq cK (af (aa 4) aj))) (af (aa 1) aj)))) aj)))) bb) (Xi b a d dF c)
def ya (c b a e dF d:Fn):FS:=ay (aD (aq c (af (aa 0) (af (aa 1) aj))) (gN 5)) (Xj b a e dF d)
section
variable {n o tg sh mo:Nat}{m:D}{g:G}
theorem PU {n:Nat}:(aap n [D.int 0]).flatten=d_ n:=by induction n with|zero=>rfl|succ n ih=>simp[abU,d_]
theorem PV {l:List Nat}{ks:List Int}{rest:List D}(h:ks.length=l.length):kf (dN l) (ks.map .int++rest)=(l.zip ks).map λp=>.tup [.int p.1,.int p.2]:=by
 induction l generalizing ks with
 |nil=>cases ks with
  |nil=>simp[kf,dN]|cons k ks=>cases h
 |cons j l ih=>cases ks with
  |nil=>cases h
  |cons k ks =>
   have:=ih (ks:=ks) (by simpa using h);simp only[kf,dN,aa5,ac6,List.zip_cons_cons]at this ⊢;rw[this]
theorem GA {turned:Fn}(B:∀v g,turned [.int v] g=some (.int (1-v),g))(I:n<=5)(H:Bd g){l:List Nat}{ks:List Int}(E:∀j∈l,j<n)(A:ks.length=l.length){rest:List D}:
  ao false 6 3 (Gz turned) [.int n,.lst (dN l),.tup (ks.map .int++rest)] g=some (.tup (bT (d_ n) (l.zip ks)),g):=by
 have u:d9 (n:Int)=true:=d9.of (by omega) (by omega);have zn:az n=true:=aJ (by omega);have r:az 1=true:=rfl;have c:(l.zip ks).length=l.length:=by rw[aeM,A];omega
 have main:wp (ao false 6 3 (Gz turned) [.int n,.lst (dN l),.tup (ks.map .int++rest)] g) λq=>q=(.tup (bT (d_ n) (l.zip ks)),g):=by
  refine jL rfl ?_;have s1:aD (ak gh (aM bQ (af (fC (.int 0)) aj)) (aa 0)) (gN 3) ([D.int n,.lst (dN l),.tup (ks.map .int++rest)].map some++aap (6-3) none) g=some (.nx,[some (.int n),some (.lst (dN l)),some (.tup (ks.map .int++rest)),some (.ref g.length),none,none],g ++ [d_ n]):=by rw[<- PU];simp[r,gh,u,zn]
  refine di s1 (Wd.wp_seq ?_);have k:∀a,jt (λ_=>some (dN l)) (λ_=>some (ks.map .int++rest)) a=some ((l.zip ks).map λp=>.tup [.int p.1,.int p.2]):=λa=>by simp[jt,PV A]
  have e0:kQ (aa 1) (aa 2) [some (.int n),some (.lst (dN l)),some (.tup (ks.map .int++rest)),some (.ref g.length),none,none] (g ++ [d_ n])=some (jt (λ_=>some (dN l)) (λ_=>some (ks.map .int++rest)),l.length,g ++ [d_ n]):=by simp only[wJ,lH,afS,ad9,aaj,mB,k,abn,aaI,c]
  rw[wI,e0];simp only[aaj];refine mz (λj σ a=>(∃f h,σ = [some (.int n),some (.lst (dN l)),some (.tup (ks.map .int++rest)),some (.ref g.length),f,h])/\a=g ++ [bT (d_ n) ((l.zip ks).take j)]) _ 0 _ _ (by simp) ⟨⟨none,none,rfl⟩,rfl⟩ ?_ ?_
  . rintro j σ a hj ⟨⟨f,h,rfl⟩,rfl⟩
    refine⟨_,k _,by rw[aaI,c],λd hd=>?_⟩;rw[aaP]at hd;cases b:(l.zip ks)[j]? with
    |none=>rw[b]at hd;cases hd
    |some p =>
     rw[b]at hd;cases hd;have hp:p.1<n:=E _ (adR (aaO b)).1;have s:p.1<(bT (d_ n) ((l.zip ks).take j)).length:=by rw[ik,acy];exact hp
     have o:bT (d_ n) ((l.zip ks).take (j+1))=(bT (d_ n) ((l.zip ks).take j)).set p.1 (.int (1-p.2)):=by rw[agp,b];exact pO
     rw[H4,o];simp[B,s,putD,iu]
  . rintro σ a ⟨⟨f,h,rfl⟩,rfl⟩
    rw[<- c,List.take_length];have F:=kY (mQ (z:=d_ n) (ps:=l.zip ks) oX);have h5:(bT (d_ n) (l.zip ks)).length<=5:=by rw[ik,acy];exact I
    generalize bT (d_ n) (l.zip ks)=C at *;have zc:az C.length=true:=aJ (by omega);refine⟨rfl,?_⟩;simp[zc,aT,bB,cG _ F.1];intro x b;obtain⟨i,y⟩:=acA.mp b;exact H i x y
 obtain⟨q,e,rfl⟩:=main;exact e
variable {aS look hands eW dF eh:Fn}{l:List Nat}{ks:List Int}{v ah:D}{C:List D}{t:Int}
structure zT (m:D)(n o:Nat)(v ah:D)(l:List Nat)(ks:List Int)(C:List D)(t:Int)(aS hands eW dF eh:Fn)(g:G):Prop where
 hs:aS [m,.int o] g=some (.lst (dN l),g)
 hh:hands [m] g=some (.int n,g)
 hc:∀rest,eW [.int n,.lst (dN l),.tup (ks.map .int++rest)] g=some (.tup C,g)
 ht:dF [m,.tup [.str "put",.int o,v],ah] g=some (.int t,g)
 hw:∀x rd,eh [.lst [x],.tup rd] g=some (if rd.length<1 then x else .tup [.str "told",.ax],g)
 kl:ks.length=l.length
theorem PX (F:zT m n o v ah l ks C t aS hands eW dF eh g){i:Nat}(d:i<l.length):
   ao false 10 5 (ya aS look hands eW dF eh) [m,.int o,.tup [.str "put",.int o,v],ah,.tup ((ks.map D.int).take i)] g=some (.tup [.str "read",bA (l.getD i 0) o],g):=by
 have li:((ks.map D.int).take i).length=i:=by rw[aa2,aaI,F.kl];omega
 have ge:bJ (dN l) (i:Int)=some (.int (l.getD i 0:Nat)):=xq (by simp[dN,aaE,aag d]);generalize (ks.map D.int).take i=rd at *;have a:az 2=true:=rfl;have c:az 3=true:=rfl;have b:(i:Int)<(l.length:Int):=by omega
 refine bL rfl (cJ F.hs (oS (g1:=g) ?_ ?_)) rfl
 . simp[li,cQ,b,dq]
 . simp[li,cz,aT,ge,a,c,bA]
theorem zU (F:zT m n o v ah l ks C t aS hands eW dF eh g){rest:List D}{d:D}(b:look [m,.int o,.tup rest] g=some (d,g)):
   ya aS look hands eW dF eh ([m,.int o,.tup [.str "put",.int o,v],ah,.tup (ks.map D.int++rest)].map some++aap (10-5) none) g=PR hands eW dF eh [some m,some (.int o),some (.tup [.str "put",.int o,v]),some ah,some (.tup (ks.map D.int++rest)),some (.lst (dN l)),some (.tup rest),some d,none,none] g:=by
 have cut:cutD (ks.map D.int++rest) (some ((l.length:Nat):Int)) none=rest:=by unfold cutD;rw[HT.l8,j_ (by rw[aai,aaI,F.kl];omega),abj (by simp),<- F.kl,<- aaI (f:=D.int),ad7]
 have a:¬(((ks.map D.int++rest).length:Int)<(l.length:Int)):=by rw[aai,aaI,F.kl];omega
 generalize ks.map D.int++rest=rd at *;refine cJ F.hs (eC (σ1:=[some m,some (.int o),some (.tup [.str "put",.int o,v]),some ah,some (.tup rd),some (.lst (dN l)),none,none,none,none]) (g1:=g) ((ie (g1:=g) ?_).trans rfl) (cJ (d:=.tup rest) (g1:=g) ?_ (cJ (d:=d) (g1:=g) ?_ rfl)))
 . simp[cQ,a,dq]
 . simp[jr,cQ,cut]
 . simp[b]
theorem PY (F:zT m n o v ah l ks C t aS hands eW dF eh g){rest xs:List D}{wd:Str}{u:D}(hw:¬(wd=aaD "told"))(d:look [m,.int o,.tup rest] g=some (.tup [.tup (.str wd::xs),u],g)):
   ao false 10 5 (ya aS look hands eW dF eh) [m,.int o,.tup [.str "put",.int o,v],ah,.tup (ks.map D.int++rest)] g=some (.tup (.str wd::xs),g):=by
 have c:∀a b:D,bJ [a,b] 0=some a:=λ_ _=>rfl;have a1:∀(a:D) (b:List D),bJ (a::b) 0=some a:=λ_ _=>xq (n:=0) rfl;refine bL rfl ((zU F d).trans (oS (g1:=g) ?_ ?_)) rfl
 . simp[cz,aT,c,a1,dq,aF,flat,dep,hw]
 . simp[cz,aT,c]
theorem Et (F:zT m n o v ah l ks C t aS hands eW dF eh g){rest R:List D}{d:D}{U:Int}(q:look [m,.int o,.tup rest] g=some (.tup [.tup [.str "told",d],.int U],g))(p:cutD rest (some U) none=R):
   ao false 10 5 (ya aS look hands eW dF eh) [m,.int o,.tup [.str "put",.int o,v],ah,.tup (ks.map D.int++rest)] g=some (if R.length<1 then .tup [.str "write",own "own" o,.tup [v,.tup C,.int t,d]]else .tup [.str "told",.ax],g):=by
 have e:∀a b:D,bJ [a,b] 0=some a:=λ_ _=>rfl;have a1:∀a b:D,bJ [a,b] 1=some b:=λ_ _=>rfl;have a2:∀a b c:D,bJ [a,b,c] 2=some c:=λ_ _ _=>rfl;have h:az 1=true:=rfl;have f:az 2=true:=rfl;have k:az 3=true:=rfl;have j:az 4=true:=rfl;have i:=F.hc rest;have hd:=zU F q;generalize ks.map D.int++rest=rd at *;refine bL rfl (hd.trans (eC (σ1:=[some m,some (.int o),some (.tup [.str "put",.int o,v]),some ah,some (.tup rd),some (.lst (dN l)),some (.tup rest),some (.tup [.tup [.str "told",d],.int U]),none,none]) (g1:=g) ((ie (g1:=g) ?_).trans rfl) (cJ (d:=.tup C) (g1:=g) ?_ (cJ (d:=.tup [v,.tup C,.int t,d]) (g1:=g) ?_ (sH (g1:=g) ?_))))) rfl
 . simp[cz,aT,e,dq,aF,flat,dep]
 . simp[F.hh,i]
 . simp[cz,aT,e,a1,a2,F.ht,j]
 . simp[cz,aT,a1,jr,p,F.hw,h,f,k,own]
end
section
variable {n o tg sh mo:Nat}{m:D}{g:G}{num hands cD aS Eu PZ eW dF eh:Fn}{rs:List R3}{R R':Str->Option Fn}{nm kz:Str}{ks:List Int}{v ah:D}{C:List D}{t:Int}
theorem qp {rs:List R3}{x:D}(c:x∈gk n o sh rs):flat x=true/\dep x<=60 /\ ∃wd xs,x = .tup (.str wd::xs) /\ ¬(wd=aaD "told"):=by
 obtain⟨q,_,c⟩:=ac9.mp c;have a:∀{y:D},y∈fI "own" n->flat y=true/\dep y<=60 /\ ∃wd xs,y = .tup (.str wd::xs) /\ ¬(wd=aaD "told"):=fun {y} b=>by simp only[fI,aaQ]at b;obtain⟨i,_,rfl⟩:=b;exact⟨rfl,by simp[own,dep,bp],_,_,rfl,by decide⟩
 unfold fS at c;rcases aao.mp c with c|c
 . rcases aao.mp c with c|c
   . obtain⟨y,_,c⟩:=ac9.mp c
     simp only[stK,aah,aaw,or_false]at c;rcases c with rfl|rfl
     . exact⟨rfl,by simp[own,dep,bp],_,_,rfl,by decide⟩
     . exact⟨rfl,by simp[bA,dep,bp],_,_,rfl,by decide⟩
   . exact a c
 . exact a c
theorem DM {B E:Fn}{q:R3}{en:Option Nat}(F:xP m n o tg sh mo num hands cD aS R R' nm kz)(P:zT m n o v ah (aG n o sh) ks C t PZ Eu eW dF eh g)
   (L:E=ao false 8 3 (uv num hands aS (ao false 10 5 (gE R)) (ao false 6 3 (uu hands aS (ao false 5 4 (lV R')) kz)) nm))
   (H:∀rd x,ao false 10 5 (ya PZ E Eu eW dF eh) [m,.int o,.tup [.str "put",.int o,v],ah,.tup rd] g=some (x,g)->B [m,.int o,.tup [.str "put",.int o,v],ah,.tup rd] g=some (x,g))
   (all:∀q∈rs,cw n o sh q.1 q.2.1 q.2.2) (A:cw n o sh q.1 q.2.1 q.2.2) (fB:rs.length<=15)
   (I:∀k,k<rs.length->dM (.int mo) ((rs ++ [q]).map (dP n o tg sh)) k) (J:oT (.int mo) ((rs ++ [q]).map (dP n o tg sh)) rs.length en) (K:∀j,en=some j->j<n):
   DN B m (.int o) (.tup [.str "put",.int o,v]) ah (kZ o (aG n o sh)++gk n o sh (rs ++ [q]) ++ [.tup [.str "write",own "own" o,.tup [v,.tup C,.int t,eQ q.2.2 en]]]) (ks.map .int++fT (rs ++ [q]) ++ [.ax]) .ax g:=by
 have b:∀p∈rs ++ [q],cw n o sh p.1 p.2.1 p.2.2:=λp a=>by
   rcases aao.mp a with a|a
   . exact all p a
   . simp at a;subst a;exact A
 subst L;have ends:∀rest:List D,(∀x∈rest,flat x=true)->_:=λrest y=>D5 (g:=g) F ⟨all,by omega⟩ A (by omega) (rest:=rest) y I J K (rstep:=ao false 6 3 (uu hands aS (ao false 5 4 (lV R')) kz));have rl:=iP b;rw[aai,ace]at rl;have r:(gk n o sh (rs ++ [q])).length=(fT (rs ++ [q])).length:=by rw[oW b,iP b]
 have f:(ks.map D.int).length=(aG n o sh).length:=by rw[aaI];exact P.kl
 have d:(kZ o (aG n o sh)).length=(aG n o sh).length:=by simp[kZ]
 have cut:∀rest:List D,cutD (fT (rs ++ [q])++rest) (some (((rs.length+1)*a_ n o sh:Nat):Int)) none=rest:=λrest=>by unfold cutD;rw[HT.l8,j_ (by rw[aai,rl];omega),abj (by simp),<- rl,ad7]
 refine⟨λi l=>?_,?_⟩
 . rw[aai,aai,ace,f]at l
   by_cases h1:i<(aG n o sh).length
   . refine⟨.tup [.str "read",bA ((aG n o sh).getD i 0) o],?_,H _ _ ?_⟩
     . rw[aaU,aan (by omega)]
       simp[kZ,aaE,aag h1]
     . rw[aaU,acI (by omega)]
       exact PX P h1
   . obtain⟨k,rfl⟩:∃k,i=(aG n o sh).length+k:=⟨i-(aG n o sh).length,by omega⟩
     by_cases h2:k<(fT (rs ++ [q])).length
     . obtain⟨x,u,h,ex⟩:=Gx (g:=g) F b fB I k h2
       obtain⟨_,_,s,xs,rfl,hw⟩:=qp (aaO h);refine⟨_,?_,H _ _ (?_:ao false 10 5 _ _ g=some (.tup (.str s::xs),g))⟩
       . rw[aaU,<- d,aaJ (by omega),ade,aan (by omega)]
         exact h
       . rw[aaU,<- f,afQ,ade,abj (by omega),acI (by omega)]
         exact PY P hw ex
     . obtain rfl:k=(fT (rs ++ [q])).length:=by omega
       have e:=ends [] (by simp);rw[abb]at e;have c:=cut [];rw[abb]at c;refine⟨_,?_,H _ _ ((congrArg (λz=>ao false 10 5 _ [m,.int o,.tup [.str "put",.int o,v],ah,.tup z] g) ?_).trans (Et P e c))⟩
       . rw[aaJ (by rw[aai];omega),aai,d,r,adY]
         rfl
       . rw[acI (by rw[aai];omega),abj (by rw[aai];omega)]
         rfl
 . have e:=ends [.ax] (by simp[flat])
   have:=Et P e (cut [.ax]);rw[aaU];exact H _ _ this
end
end Wg
namespace K21
open PyProof.Rows L2 L3 RI
def P0 (T:Nat->Fn):FS:=cy (Al (nE (aq (T 24) (af (aa 3) (af (aa 5) (af (aM aI (af (fC (.str "put")) (af (aa 5) (af (aa 12) aj)))) (af (aa 6) (af (aa 7) (af (fC .ax) aj))))))))) (aO (fC (.bl false))) bb
def P1 (T:Nat->Fn):FS:=ay (eI (aq (T 22) (af (aa 7) (af (aM aI (af (fC (.str "own")) (af (aa 5) aj))) (af (aM aI (af (aa 12) (af (aq jq (af (aa 8) aj)) (af (aa 11) (af (aa 10) aj))))) aj))))) (P0 T)
def P2 (T:Nat->Fn):FS:=ay (aD (aq (T 19) (af (aa 2) aj)) (gN 12)) (P1 T)
def P4 (T:Nat->Fn):FS:=ay (aD (aq jk (af (jz (ak oEq (ak av (aa 3) (fC (.int 2))) (fC (.int 1))) (ak oEq (ak (bS cp (· % ·)) (ak av (aa 6) (aa 5)) (fC (.int 2))) (fC (.int 0)))) aj)) (gN 11)) (P2 T)
def UD (T:Nat->Fn):FS:=ay (aD (aq (T 32) (af (aa 7) (af (aa 5) (af (aa 3) aj)))) (gN 10)) (P4 T)
def UE (T:Nat->Fn):FS:=ay (dw (eH (af (aa 4) aj)) (gN 9) (Wg.rO (T 21))) (UD T)
def UG (T:Nat->Fn):FS:=ay (aD (ak gh (aM bQ (af (fC (.int 0)) aj)) (aa 4)) (gN 8)) (UE T)
def UH (T:Nat->Fn):FS:=ay (aD (aq (T 33) (af (aa 2) (af (aa 3) (af (aa 5) aj)))) (gN 7)) (UG T)
def UI (T:Nat->Fn):FS:=ay (aD (aq (T 25) (af (aa 2) (af (aa 4) aj))) (gN 6)) (UH T)
def UJ (T:Nat->Fn):FS:=ay (pY 4 5 (af (ak av (aa 3) (fC (.int 1))) (af (aq (T 17) (af (aa 2) (af (ak av (aa 3) (fC (.int 1))) aj))) aj))) (UI T)
def UK (T:Nat->Fn):FS:=ay (aD (aq (T 34) (af (aa 2) aj)) (gN 3)) (UJ T)
def Ip (T:Nat->Fn):FS:=ay (aD (aq (T 16) (af (aa 0) (af (aa 1) aj))) (gN 2)) (UK T)
def rs (T:Nat->Fn):Str->Option Fn:=λy=>match(kT 0 ds).lookup y with|some q=>some (T q.1)|none=>((kU 0 ds).lookup y).map λi=>fH (T i)
def Ew (T:Nat->Fn):FS:=aO (ak av (aa 0) (ak bI (fC (.int 1)) (AD lj (ak av (aa 0) (fC (.int 0))) (aa 1))))
def P5 (T:Nat->Fn):FS:=aO (aq (T 0) (af (aa 0) (af (fC (.str "hands")) aj)))
def b_2 (T:Nat->Fn):FS:=Wd.gE (rs T)
def Iq (T:Nat->Fn):FS:=ay (cy (aH (ak oLt (aq cK (af (aa 1) aj)) (aq cK (af (aa 0) aj)))) (aO (ak av (aa 0) (aq cK (af (aa 1) aj)))) bb) (aO (aM aI (af (fC (.str "told")) (af (fC .ax) aj))))
def Ir (T:Nat->Fn):FS:=ay (cy (aH (ak oEq (aq (T 0) (af (aa 0) (af (fC (.str "toggles")) aj))) (fC (.int 0)))) (aO (fC (.int 0))) bb) (aO (ak (bS cp (· % ·)) (ak bI (ak av (aa 2) (ak av (aa 1) (fC (.int 1)))) (fC (.int 1))) (fC (.int 2))))
def P6 (T:Nat->Fn):FS:=aO (cH cg (eH (af (aq (T 1) (af (aa 0) aj)) aj)) [none,none,some 1] (gN 1) (aH (ak bw (aa 1) (aa 2))) (aa 1))
def P7 (T:Nat->Fn):FS:=aO (An (aH (ak oEq (aq (T 0) (af (aa 0) (af (fC (.str "shakes")) aj))) (fC (.int 1)))) (aq (T 5) (af (aa 0) (af (aa 1) aj))) (aM bQ aj))
def b_7 (T:Nat->Fn):FS:=Wg.lV (rs T)
def P8 (T:Nat->Fn):FS:=aO (ak (bS eu (· - ·)) (fC (.int 1)) (aa 0))
def b_9 (T:Nat->Fn):FS:=Wg.uv (T 0) (T 1) (T 6) (T 2) (T 10) "signs_look.lambda"
def Xk (T:Nat->Fn):FS:=Wg.uu (T 1) (T 6) (T 7) "round_step_signs.lambda"
def Xl (T:Nat->Fn):FS:=Wg.oo (T 0) (T 1) (T 5) (T 6)
def Xm (T:Nat->Fn):FS:=Wg.ya (T 6) (T 9) (T 1) (T 13) (T 4) (T 3)
def Xn (T:Nat->Fn):FS:=Wg.Gz (T 8)
def GB (T:Nat->Fn):FS:=ay (cy (aH (ak oEq (ak av (aa 0) (fC (.int 0))) (fC (.str "tables")))) (aO bu) bb) (ay (cy (aH (ak oEq (ak av (aa 2) (fC (.int 0))) (fC (.str "look")))) (aO bu) bb) (aO (aq (T 15) (af (aa 0) (af (aa 1) (af (aa 2) (af (aa 3) (af (aa 4) aj))))))))
def GC (T:Nat->Fn):FS:=ay (aD (ak av (aa 0) (fC (.int 0))) (gN 5)) (ay (cy (aH (ak oEq (aa 5) (fC (.str "once")))) (aO (aq (T 3) (af (aM bQ (af (aM aI (af (fC (.str "write")) (af (aM aI (af (fC (.str "own")) (af (aa 1) aj))) (af (ak av (aa 2) (fC (.int 2))) aj)))) aj)) (af (aa 4) aj)))) bb) (ay (cy (aH (ak oEq (aa 5) (fC (.str "twice")))) (aO bu) bb) (ay (cy (aH (ak oEq (aa 5) (fC (.str "handed")))) (aO bu) bb) (ay (cy (aH (ak oEq (aa 5) (fC (.str "signs")))) (aO (aq (T 12) (af (aa 0) (af (aa 1) (af (aa 2) (af (aa 3) (af (aa 4) aj))))))) bb) (aO bu)))))
def Xp (T:Nat->Fn):FS:=Pd.u7
def Xq (T:Nat->Fn):FS:=Pd.u9
def Xr (T:Nat->Fn):FS:=Pd.A_ (T 17)
def Xs (T:Nat->Fn):FS:=Wd.u_ (T 17) (T 18)
def Xt (T:Nat->Fn):FS:=Wd.xt
def Xu (T:Nat->Fn):FS:=Wd.F6 (T 17) (T 30)
def Xv (T:Nat->Fn):FS:=Wd.setB
def Xw (T:Nat->Fn):FS:=Wd.mK (T 21)
def Xx (T:Nat->Fn):FS:=Wd.qd (T 14)
def Xy (T:Nat->Fn):FS:=Wd.rB (T 18)
def Xz (T:Nat->Fn):FS:=Wd.rC (T 17) (T 18)
def XA (T:Nat->Fn):FS:=Wg.va (T 17)
def XB (T:Nat->Fn):FS:=Wd.rJ (T 19)
def XC (T:Nat->Fn):FS:=Wg.vb (T 17) (T 19) (T 27) (T 28)
def XD (T:Nat->Fn):FS:=Wg.Ed (T 17) (T 18) (T 19) (T 27) (T 28)
def XE (T:Nat->Fn):FS:=Wg.Pr (T 21) (T 22) (T 23)
def XF (T:Nat->Fn):FS:=Wg.Ik (T 31)
def XG (T:Nat->Fn):FS:=Wg.PM (T 17) (T 20) (T 29)
def GD (T:Nat->Fn):FS:=ay (aD (aq (T 18) (af (aa 0) (af (aM bQ (af (aM aI (af (fC (.int 1)) (af (fC (.int 1)) aj))) (af (aM aI (af (fC (.int 1)) (af (fC (.int 1)) aj))) (af (aM aI (af (fC (.int 1)) (af (fC (.int 1)) aj))) (af (aM aI (af (fC (.int 0)) (af (fC (.int 1)) aj))) (af (aM aI (af (fC (.int 1)) (af (fC (.int 0)) aj))) (af (aM aI (af (fC (.int 0)) (af (fC (.int 0)) aj))) aj))))))) aj))) (gN 1)) (aO (ak bI (ak bI (aM aI (af (fC (.str "signs")) (af (aq (T 26) (af (aa 0) aj)) aj))) (aa 1)) (aM aI (af (ak bI (fC (.int 1)) (aq (T 17) (af (aa 0) (af (fC (.int 4)) aj)))) aj))))
def GF (T:Nat->Fn):FS:=ay (dw (eH (af (ak bI (fC (.int 3)) (aq ((jF k9 h_)) (af (fC (.int 6)) (af (aq cK (af (aa 0) aj)) aj)))) aj)) (gN 1) (Ip T)) (aO (fC (.bl true)))
def XH (T:Nat->Fn):FE:=aq (T 11) (af (aa 0) (af (aa 1) (af (aa 2) aj)))
def XI (T:Nat->Fn):FE:=ak av (ak av (aa 1) (fC (.int 1))) (aa 0)
def tab:Nat->Nat->Fn
 | 0,_=>λ_ _=>none|k+1,0=>(ao false 2 2 (Ew (tab k)))|k+1,1=>(ao false 1 1 (P5 (tab k)))|k+1,2=>(ao false 10 5 (b_2 (tab k)))|k+1,3=>(ao false 2 2 (Iq (tab k)))|k+1,4=>(ao false 3 3 (Ir (tab k)))|k+1,5=>(ao false 2 2 (P6 (tab k)))|k+1,6=>(ao false 2 2 (P7 (tab k)))|k+1,7=>(ao false 5 4 (b_7 (tab k)))|k+1,8=>(ao false 1 1 (P8 (tab k)))|k+1,9=>(ao false 8 3 (b_9 (tab k)))|k+1,10=>(ao false 6 3 (Xk (tab k)))|k+1,11=>(ao false 10 3 (Xl (tab k)))|k+1,12=>(ao false 10 5 (Xm (tab k)))|k+1,13=>(ao false 6 3 (Xn (tab k)))|k+1,14=>(ao false 5 5 (GB (tab k)))|k+1,15=>(ao false 6 5 (GC (tab k)))|k+1,16=>(ao true 3 2 (Xp (tab k)))|k+1,17=>(ao false 6 2 (Xq (tab k)))|k+1,18=>(ao false 2 2 (Xr (tab k)))|k+1,19=>(ao false 2 1 (Xs (tab k)))|k+1,20=>(ao true 3 3 (Xt (tab k)))|k+1,21=>(ao false 2 2 (Xu (tab k)))|k+1,22=>(ao false 3 3 (Xv (tab k)))|k+1,23=>(ao false 5 3 (Xw (tab k)))|k+1,24=>(ao false 10 6 (Xx (tab k)))|k+1,25=>(ao false 2 2 (Xy (tab k)))|k+1,26=>(ao false 1 1 (Xz (tab k)))|k+1,27=>(ao false 2 2 (XA (tab k)))|k+1,28=>(ao false 2 2 (XB (tab k)))|k+1,29=>(ao false 2 2 (XC (tab k)))|k+1,30=>(ao false 8 2 (XD (tab k)))|k+1,31=>(ao false 15 3 (XE (tab k)))|k+1,32=>(ao false 7 3 (XF (tab k)))|k+1,33=>(ao true 8 3 (XG (tab k)))|k+1,34=>(ao false 2 1 (GD (tab k)))|k+1,35=>(ao false 13 1 (GF (tab k)))|k+1,36=>dD 2 1 (XH (tab k))|k+1,37=>dD 1 1 (XI (tab k))|_+1,_=>λ_ _=>none
theorem rws (k:Nat):xb mo (tab k) (tab (k+1)) k 0 mo.ds:=by repeat (first|exact .nil| (refine .cons ?_ ?_;· kernel_rfl))
theorem good:Good mo tab:=Kh (λ_ _ _=>rfl) rws (by decide +kernel) (by decide +kernel)
end K21
namespace K21
open L3 L2 RI Pd Wd Wg SJ
theorem w1:¬(aaD "signs" = aaD "tables"):=by decide
theorem w2:¬(aaD "signs" = aaD "once"):=by decide
theorem Iu {a b c d e:D}:bJ [a,b,c,d,e] 0=some a:=rfl
section
variable {n tg sh mo o:Nat}{g:G}
theorem R4 {k:Nat}(g:G):tab (k+1) 0 [aV n tg sh mo,.str "hands"] g=some (.int n,g):=by show ao false 2 2 (Ew (tab k)) _ g=_;refine bL (σ':=[some (aV n tg sh mo),some (.str "hands")]) rfl ?_ rfl;rfl
theorem yc {k:Nat}(g:G):tab (k+1) 0 [aV n tg sh mo,.str "toggles"] g=some (.int tg,g):=by show ao false 2 2 (Ew (tab k)) _ g=_;refine bL (σ':=[some (aV n tg sh mo),some (.str "toggles")]) rfl ?_ rfl;rfl
theorem P9 {k:Nat}(g:G):tab (k+1) 0 [aV n tg sh mo,.str "shakes"] g=some (.int sh,g):=by show ao false 2 2 (Ew (tab k)) _ g=_;refine bL (σ':=[some (aV n tg sh mo),some (.str "shakes")]) rfl ?_ rfl;rfl
theorem P_ {k:Nat}(g:G):tab (k+1) 0 [aV n tg sh mo,.str "moves"] g=some (.int mo,g):=by show ao false 2 2 (Ew (tab k)) _ g=_;refine bL (σ':=[some (aV n tg sh mo),some (.str "moves")]) rfl ?_ rfl;rfl
theorem sX {k:Nat}(g:G):tab (k+2) 1 [aV n tg sh mo] g=some (.int n,g):=by show ao false 1 1 (P5 (tab (k+1))) _ g=_;refine bL (σ':=[some (aV n tg sh mo)]) rfl ?_ rfl;unfold P5;rw[jK,mq,show af (aa 0) (af (fC (.str "hands")) aj) ([aV n tg sh mo].map some++aap (1-1) none) g=some ([aV n tg sh mo,.str "hands"],g) from rfl,aaj,R4 g];rfl
theorem Iv {k:Nat}(h:n<=5)(g:G):tab (k+3) 5 [aV n tg sh mo,.int o] g=some (.lst (dN (er n o)),g):=by
 show ao false 2 2 (P6 (tab (k+2))) _ g=_;refine bL (σ':=[some (aV n tg sh mo),some (.int o)]) rfl ?_ rfl;unfold P6;have b:eH (af (aq (tab (k+2) 1) (af (aa 0) aj)) aj) [some (aV n tg sh mo),some (.int o)] g=some (gp 0 n,g):=by obtain⟨q,d,e⟩:=iV (fr:=af (aq (tab (k+2) 1) (af (aa 0) aj)) aj) (σ:=[some (aV n tg sh mo),some (.int o)]) (g:=g) (Q:=λq=>q=(gp 0 n,g)) ⟨([.int n],g),by simp[sX],n,rfl,by omega,by omega,by simp⟩;rw[d,e]
 have zn:az n=true:=aJ (by omega);obtain⟨_,a,rfl⟩:=sW (n:=n) (o:=o) (g:=g) (f:=λ(j:Nat)=>D.int (j:Int)) (e:=aa 1) (λj g=>rfl);have c:((aba n).filter λj=>!(j == o)).map (λ(j:Nat)=>D.int (j:Int))=dN (er n o):=by unfold dN er;rfl
 rw[c]at a;have zl:az (dN (er n o)).length=true:=aJ (by rw[cQ];have:=jN (n:=n) (o:=o);omega);show aO _ [some (aV n tg sh mo),some (.int o)] g=_;rw[jK,we,b];simp only[aaj,bZ,zn,if_true];show(((cN (gN 1) (aH (ak bw (aa 1) (aa 2))) (aa 1) (gp 0 n) [none,none,some (.int o)] g).bind λq=>cg q.1 q.2).bind _)=_;rw[a];simp[cg,zl]
theorem Iw {k:Nat}(c:n<=5)(g:G):tab (k+4) 6 [aV n tg sh mo,.int o] g=some (.lst (dN (aG n o sh)),g):=by
 show ao false 2 2 (P7 (tab (k+3))) _ g=_;refine bL (σ':=[some (aV n tg sh mo),some (.int o)]) rfl ?_ rfl;unfold P7;have t0:aH (ak oEq (aq (tab (k+3) 0) (af (aa 0) (af (fC (.str "shakes")) aj))) (fC (.int 1))) [some (aV n tg sh mo),some (.int o)] g=some (decide ((sh:Int)=1),g):=by have a:aq (tab (k+3) 0) (af (aa 0) (af (fC (.str "shakes")) aj)) [some (aV n tg sh mo),some (.int o)] g=some (.int sh,g):=P9 (k:=k+2) g;rw[cY,hZ,a,aaj,Ht,aaj,eq_int];rfl
 have b:aq (tab (k+3) 5) (af (aa 0) (af (aa 1) aj)) [some (aV n tg sh mo),some (.int o)] g=some (.lst (dN (er n o)),g):=Iv (k:=k) c g;show aO _ [some (aV n tg sh mo),some (.int o)] g=_;rw[jK,JH,t0];simp only[aaj];by_cases h1:sh=1
 . subst h1
   rw[if_pos (by decide),b];rfl
 . rw[if_neg (by simp;omega)]
   unfold aG;rw[if_neg h1];rfl
theorem sgF {k:Nat}(b:o<n)(a:n<=5):xK (aV n tg sh mo) n o tg sh (tab (k+4) 0) (tab (k+4) 1) (tab (k+4) 5) (tab (k+4) 6):=⟨sX,yc,Iv a,Iw a,b,a⟩
theorem R5 (k:Nat):rs (tab (k+6)) "signs_look.lambda" = some (fH (dD 2 1 (Ie (ao false 10 3 (oo (tab (k+7) 0) (tab (k+7) 1) (tab (k+7) 5) (tab (k+7) 6)))))):=rfl
theorem Qa (k:Nat):rs (tab (k+5)) "round_step_signs.lambda" = some (fH (dD 1 1 xM)):=rfl
theorem slF {k:Nat}(a:o<n)(b:n<=5):xP (aV n tg sh mo) n o tg sh mo (tab (k+7) 0) (tab (k+7) 1) (tab (k+7) 5) (tab (k+7) 6) (rs (tab (k+6))) (rs (tab (k+5))) "signs_look.lambda" "round_step_signs.lambda":=⟨sgF a b,P_,rfl,R5 k,Qa k⟩
theorem XJ (k:Nat):tab (k+8) 9=ao false 8 3 (uv (tab (k+7) 0) (tab (k+7) 1) (tab (k+7) 6) (ao false 10 5 (gE (rs (tab (k+6))))) (ao false 6 3 (uu (tab (k+7) 1) (tab (k+7) 6) (ao false 5 4 (lV (rs (tab (k+5))))) "round_step_signs.lambda")) "signs_look.lambda"):=rfl
theorem w3:¬(aaD "signs" = aaD "twice"):=by decide
theorem w5:¬(aaD "signs" = aaD "handed"):=by decide
theorem w4:¬(aaD "put" = aaD "look"):=by decide
theorem R6 {a b c:D}:bJ [a,b,c] 0=some a:=rfl
theorem R7 {a b c:D}:bJ [a,b,c] 1=some b:=rfl
theorem Qb (k:Nat)(v:Int)(g:G):tab (k+1) 8 [.int v] g=some (.int (1-v),g):=by show ao false 1 1 (P8 (tab k)) _ g=_;refine bL (σ':=[some (.int v)]) rfl ?_ rfl;simp[P8]
theorem K1 (k:Nat)(x:D)(rd:List D):tab (k+1) 3 [.lst [x],.tup rd] g=some (if rd.length<1 then x else .tup [.str "told",.ax],g):=by
 show ao false 2 2 (Iq (tab k)) _ g=_;refine bL (σ':=[some (.lst [x]),some (.tup rd)]) rfl ?_ rfl;have a:az 2=true:=rfl;by_cases h:rd.length<1
 . have:rd = []:=acJ.mp (by omega)
   subst this;have e:bJ [x] 0=some x:=rfl;simp[Iq,e]
 . simp[Iq,h,a,show ¬rd = [] from λe=>h (by simp[e]),show ¬((rd.length:Int)<1) by omega]
noncomputable def ip (tg:Nat)(a:Int):Int:=if tg=0 then 0 else(a+1) % 2
theorem R8 (k:Nat){a:Int}{c:List D}{v:D}(d:bJ c (o:Int)=some (.int a)):tab (k+2) 4 [aV n tg sh mo,.tup [.str "put",.int o,v],.tup c] g=some (.int (ip tg a),g):=by
 show ao false 3 3 (Ir (tab (k+1))) _ g=_;refine bL (σ':=[some (aV n tg sh mo),some (.tup [.str "put",.int o,v]),some (.tup c)]) rfl ?_ rfl;have b:cp (a+1) 2=true:=fg (by omega);by_cases h:tg=0
 . subst h
   simp[Ir,yc (k:=k),ip]
 . simp[Ir,yc (k:=k),ip,h,R7,cz,aT,d,b]
theorem R9 (k:Nat){c v:D}{rd:List D}{x:D}(h:ao false 10 5 (ya (tab (k+8) 6) (tab (k+8) 9) (tab (k+8) 1) (tab (k+8) 13) (tab (k+8) 4) (tab (k+8) 3)) [aV n tg sh mo,.int o,.tup [.str "put",.int o,v],c,.tup rd] g=some (x,g)):tab (k+11) 14 [aV n tg sh mo,.int o,.tup [.str "put",.int o,v],c,.tup rd] g=some (x,g):=by
 have a:tab (k+9) 12 [aV n tg sh mo,.int o,.tup [.str "put",.int o,v],c,.tup rd] g=some (x,g):=h;have b:tab (k+10) 15 [aV n tg sh mo,.int o,.tup [.str "put",.int o,v],c,.tup rd] g=some (x,g):=by show ao false 6 5 (GC (tab (k+9))) _ g=_;refine bL (σ':=[some (aV n tg sh mo),some (.int o),some (.tup [.str "put",.int o,v]),some c,some (.tup rd),some (.str "signs")]) rfl ?_ rfl;simp[GC,Iu,w2,w3,w5,a]
 show ao false 5 5 (GB (tab (k+10))) _ g=_;refine bL (σ':=[some (aV n tg sh mo),some (.int o),some (.tup [.str "put",.int o,v]),some c,some (.tup rd)]) rfl ?_ rfl;simp[GB,Iu,R6,w1,w4,b]
theorem spF (k:Nat)(e:n<=5)(h:Bd g){a:Int}{d:List D}{v:D}(f:bJ d (o:Int)=some (.int a)){ks:List Int}(c:ks.length=(aG n o sh).length):zT (aV n tg sh mo) n o v (.tup d) (aG n o sh) ks (bT (d_ n) ((aG n o sh).zip ks)) (ip tg a) (tab (k+8) 6) (tab (k+8) 1) (tab (k+8) 13) (tab (k+8) 4) (tab (k+8) 3) g :=
 ⟨Iw e g,sX g,λrest=>GA (Qb (k+6)) e h (λj b=>(jO.mp b).2.1) c,R8 (k+6) f,K1 (k+7),c⟩
end
theorem mR {F:Fn}{a:FA}{σ:Sg}{g g1:G}{ds:List D}{x:Option (D×G)}(k:F ds g1=x)(h:a σ g=some (ds,g1)):aq F a σ g=x:=by rw[mq,h];exact k
theorem okH (k:Nat):rA (tab (k+1) 16):=Kr
theorem oy (k:Nat):dY (tab (k+1) 17):=Kp
theorem Ey (k:Nat):jf (tab (k+2) 18):=Kq (oy k)
theorem Iy (k:Nat):og (tab (k+3) 19):=Ku (oy (k+1)) (Ey k)
theorem okW (k:Nat):sL (tab (k+1) 20):=F7
theorem okA (k:Nat):zG (tab (k+3) 25):=Ga (Ey k)
theorem okN (k:Nat):zF (tab (k+3) 26):=F_ (oy (k+1)) (Ey k)
theorem UL (k:Nat):rK (tab (k+2) 27):=KI (oy k)
theorem Qc (k:Nat):oV (tab (k+4) 28):=Ea (Iy k)
theorem XM (k:Nat):rL (tab (k+5) 29):=KJ (oy (k+3)) (Iy (k+1)) (UL (k+2)) (Qc k)
section
variable {w h b s r kq n o tg sh mo:Nat}{ex mv:List D}
theorem okO (k:Nat)(a:aK ex (.str "hands")=some (.int n))(c:n<=5):Wm.lS (tab (k+5) 30) Wm.sT (SC n) 30 w h b s r kq ex:=Ee (take:=tab (k+4) 17) (Ey (k+2)) (Iy (k+1)) (UL (k+2)) (Qc k) a c
theorem UM (k:Nat)(a:aK ex (.str "hands")=some (.int n))(c:n<=5):Wm.jH (tab (k+6) 21) Wm.sT (SC n) 31 w h b s r kq ex mv:=Wm.D9 (oy (k+4)) (by decide) (okO k a c)
theorem okC (k:Nat)(a:aK ex (.str "hands")=some (.int n))(d:n<=5):Wm.kX (tab (k+7) 23) (SC n) 31 w h b s r kq ex mv:=Wm.Bm (λc h=>h.flat) (by decide) (UM k a d)
theorem d9 (k:Nat)(d:aK ex (.str "hands")=some (.int n))(e:o<n)(c:n<=5){a rd:List D}{B:Int}{g:G}(V:cE n o w h b s r kq ex a rd B g)(f:B+600<2 ^ 40)(sz:a.length<=600)(i:rd.length<=600):∃ks fs ss g',tab (k+8) 31 [.aC w,.int o,aV n tg sh mo] g=some (.tup [.lst ss,.lst (dN (eE n o tg sh ks fs ss))],g')/\cw n o sh ks fs ss/\cE n o w h b s r kq ex (a++fS n o sh ks) (rd++bN ks fs ss) (B+500) g'/\cv [w,h,b,s,r] g g' :=
 Gp (mv:=[]) (UM (k+1) d c) (show tab (k+7) 22=_ from rfl) (okC k d c) V e c f sz i
theorem okG (k:Nat)(a:aK ex (.str "hands")=some (.int n)):Wm.jH (tab (k+6) 21) Io ou 31 w h b s r kq ex mv:=Wm.D9 (oy (k+4)) (by decide) (Er (oy (k+3)) a)
theorem Ez {B:Int}{g:G}(C:B+10<2 ^ 40)(A:Hd g h B):∃n tg sh mo g',tab 59 34 [.ref h] g=some (aV n tg sh mo,g')/\1<=n/\n<=5/\tg<=1/\1<=mo/\mo<=4/\Hd g' h (B+4)/\Fr h g g':=by
 have key:wp (tab 59 34 [.ref h] g) λq=>∃n tg sh mo,q.1=aV n tg sh mo/\1<=n/\n<=5/\tg<=1/\1<=mo/\mo<=4/\Hd q.2 h (B+4)/\Fr h g q.2:=by
  show wp (ao false 2 1 (GD (tab 58)) _ _) _;refine wp_run rfl ?_;unfold GD;refine Wd.wp_seq ?_;have b:az 2=true:=rfl;have s:az 6=true:=rfl;simp[b,s];refine(Ey 56).w (by omega) (by simp) (by simp) A λd g1 hm o f1=>?_;have:∃tg sh:Nat,d = .tup [.int tg,.int sh]/\tg<=1:=by
   simp only[aah,aaw,or_false]at hm;rcases hm with rfl|rfl|rfl|rfl|rfl|rfl
   . exact⟨1,1,rfl,by decide⟩
   . exact⟨1,1,rfl,by decide⟩
   . exact⟨1,1,rfl,by decide⟩
   . exact⟨0,1,rfl,by decide⟩
   . exact⟨1,0,rfl,by decide⟩
   . exact⟨0,0,rfl,by decide⟩
  obtain⟨tg,sh,rfl,y⟩:=this;obtain⟨n,g2,j,u,l,hd2,f2⟩:=okN 55 h g1 _ (by omega) o;obtain⟨mm,g3,v,m0,z,f,c⟩:=oy 57 h 4 g2 _ (by omega) (by decide) (by decide) hd2;obtain⟨mo,a⟩:∃k:Nat,1+mm=k:=⟨(1+mm).toNat,(ada (by omega)).symm⟩
  have r:az 4=true:=rfl;have x:az 5=true:=rfl;have p:az 1=true:=rfl;simp[j,v,a,p,b,r,x];exact⟨(f1.trans (f2.trans c)).1,n,tg,sh,mo,⟨rfl,rfl,rfl,rfl⟩,u,l,y,by omega,by omega,f.mono (by omega),f1.trans (f2.trans c)⟩
 obtain⟨⟨d,g'⟩,e,n,tg,sh,mo,rfl,i⟩:=key;exact⟨n,tg,sh,mo,g',e,i⟩
end
section
variable {n o tg sh mo h w c A:Nat}{ah:List D}{gy v:D}{C:List D}{g g8 g9 oz:G}{σ:Sg}
theorem XO (k:σ[3]? = some (some (aV n tg sh mo)))(q:σ[5]? = some (some (.int o)))(p:σ[6]? = some (some (.tup ah)))(r:tg<=1)(l:bJ ah (o:Int)=some (.int A)):aq jk (af (jz (ak oEq (ak av (aa 3) (fC (.int 2))) (fC (.int 1))) (ak oEq (ak (bS cp (· % ·)) (ak av (aa 6) (aa 5)) (fC (.int 2))) (fC (.int 0)))) aj) σ g=some (.int (ip tg A),g):=by
 have a2:∀a b c d e:D,bJ [a,b,c,d,e] 2=some c:=λ_ _ _ _ _=>rfl;have i:cp (A:Int) 2=true:=fg (by omega);have f:ak oEq (ak av (aa 3) (fC (.int 2))) (fC (.int 1)) σ g=some (.bl (decide ((tg:Int)=1)),g):=by simp[k,cz,aT,a2];rfl
 have j:ak oEq (ak (bS cp (· % ·)) (ak av (aa 6) (aa 5)) (fC (.int 2))) (fC (.int 0)) σ g=some (.bl (decide ((A:Int) % 2=0)),g):=by simp[p,q,cz,aT,l,i];rfl
 rw[mq,j9,Fp,f];unfold ip;by_cases h:tg=0
 . subst h;rfl
 . obtain rfl:tg=1:=by omega
   rw[show decide (((1:Nat):Int)=1)=true from rfl];simp only[dq,aaj,if_true,j];by_cases h2:(A:Int) % 2=0
   . rw[show((A:Int)+1) % 2=1 by omega,decide_eq_true h2];rfl
   . rw[show((A:Int)+1) % 2=0 by omega,decide_eq_false h2];rfl
theorem R_ (H:σ[2]? = some (some (.ref h)))(q:σ[3]? = some (some (aV n tg sh mo)))(p:σ[5]? = some (some (.int o)))(u:σ[6]? = some (some (.tup ah)))(s:σ[7]? = some (some (.aC w)))(x:σ[8]? = some (some (.ref c)))(z:σ[10]? = some (some gy))(M:12 < σ.length)(B:tg<=1)(I:bJ ah (o:Int)=some (.int A))
  (L:tab 59 19 [.ref h] g8=some (v,g9)) (K:g9[c]? = some C) (N:C.length<=5) (E:tab 59 22 [.aC w,.tup [.str "own",.int o],.tup [v,.tup C,.int (ip tg A),gy]] g9=some (.ax,oz)) (J:tab 59 24 [aV n tg sh mo,.int o,.tup [.str "put",.int o,v],.tup ah,.aC w,.ax] oz=some (.bl true,oz)):
  wp (P4 (tab 59) σ g8) λr=>r.1 = .nx/\r.2.1=(σ.set 11 (some (.int (ip tg A)))).set 12 (some v)/\r.2.2=oz:=by
 have e:az 2=true:=rfl;have k:az 3=true:=rfl;have j:az 4=true:=rfl;have f:az C.length=true:=aJ (by omega);unfold P4;refine fj (d:=.int (ip tg A)) (g1:=g8) (XO q p u B I) ?_;unfold P2;refine fj (d:=v) (g1:=g9) (mR L (by simp[H])) ?_;have a:((σ.set 11 (some (.int (ip tg A)))).set 12 (some v))[11]? = some (some (.int (ip tg A))):=by rw[aam (by decide),aav (by omega)]
 have b:((σ.set 11 (some (.int (ip tg A)))).set 12 (some v))[12]? = some (some v):=aav (by rw[acB];exact M);have y:∀i,i<=10->((σ.set 11 (some (.int (ip tg A)))).set 12 (some v))[i]? = σ[i]?:=λi l=>by rw[aam (by omega),aam (by omega)]
 generalize (σ.set 11 (some (.int (ip tg A)))).set 12 (some v)= τ at *;rw[<- y _ (by decide)]at q p u s x z;unfold P1;refine di (σ1:=τ) (g1:=oz) (by simp[s,p,x,z,a,b,K,e,j,f,aT,E]) ?_;unfold P0;simp[q,p,u,s,b,k,J]
end
theorem iter {ns:List Int}{j:Nat}(R:j<=50){g:G}(Q:Bd g){N O M E o6 o7 o8 o9 H J K:Option D}:
  wp (Ip (tab 59) [some (.lst (ns.map .int)),some (.int j),N,O,M,E,o6,o7,o8,o9,H,J,K] g) λr=>r.1 = .nx/\(∃o1 N O M E o6 o7 o8 o9 Iz IA IB,r.2.1 = [some (.lst (ns.map .int)),o1,N,O,M,E,o6,o7,o8,o9,Iz,IA,IB])/\Bd r.2.2:=by
 generalize hL:D.lst (ns.map .int)=L;generalize hP:wp _ _=P;obtain⟨xs,e1,dE⟩:=okH 58 ns j g (by omega);rw[hL]at e1;change tab 59 16 _ _=_ at e1;obtain⟨n,tg,sh,mo,g2,e2,n1,s,zV,m1,m4,hd2,f2⟩:=Ez (h:=g.length) (B:=0) (by decide) dE;obtain⟨oi,g3,e3,o0,o1,kr,f3⟩:=oy 58 g.length n g2 _ (by decide) (by omega) (by omega) hd2;change tab 59 17 _ _=_ at e3;obtain⟨o,rfl⟩:∃k:Nat,oi=k:=⟨oi.toNat,(ada o0).symm⟩
 have ho:o<n:=by omega
 have b3:Bd g3:=((Q.hand dE).fr f2 hd2).fr f3 kr;obtain⟨is,c,e4,il,nh,f4⟩:=okA 56 g.length n g3 _ (by omega) (by omega) kr;change tab 59 25 _ _=_ at e4;have b4:=b3.fr f4 nh;have l4:c.length=g.length+1:=by rw[f4.1,f3.1,f2.1];simp
 obtain⟨e,e5,V5,l5⟩:=K0 (tg:=tg) (sh:=sh) (mo:=mo) (o:=o) (oy 57) (okW 57) (XM 53) n1 s nh (by omega) b4;have au:tab 59 33 [.ref g.length,aV n tg sh mo,.int o] c=some (.aC (c.length+1),e):=e5;have V6:=V5.push (x:=d_ n) (cG _ (kY oX).1);have hq:e.length ∉ [c.length+1,g.length,c.length,c.length+2,c.length+3]:=by simp only[aah,aaw,or_false,not_or];omega
 obtain⟨r7,ec,lD,⟨a9,hσ⟩,u,I⟩:=Bq (tg:=tg) (sh:=sh) (mo:=mo) (mv:=[]) (a0:=some L) (a1:=some (.int j)) (a2:=some (.ref g.length)) (b9:=o9) (x:=H) (y:=J) (z:=K) (a6:=some (.tup (is.map λ(i:Nat)=>D.int i))) (okG 53 rfl) ho s (by omega) hq (by omega) V6 (by simp);obtain⟨y,σ7,g7⟩:=r7;dsimp only at lD hσ I;subst lD hσ;have sl:=gj (n:=n) (o:=o) (sh:=sh);have ar:(kZ o (aG n o sh)).length<=200:=by simp[kZ];omega
 have ai:(u.map D.int).length<=200:=by rw[aaI,I.kl];omega
 obtain⟨rN,q,f,g8,e8,a⟩:=Gw (tg:=tg) (sh:=sh) (mo:=mo) (round:=tab 58 31) (λV hB sz rz=>d9 50 rfl ho s V hB sz rz) s m1 m4 (by omega) I.V ar ai;have ae:tab 59 32 [.aC (c.length+1),.int o,aV n tg sh mo] g7=some (Wg.eQ q.2.2 f,g8):=e8;have ah:g8[e.length]? = some (bT (d_ n) ((aG n o sh).zip u)):=(a.fr.2 _ hq).trans I.at_;obtain⟨v,g9,e9,pv,UP,f9⟩:=Iy 56 g.length g8 _ (by omega) a.V.hd;change tab 59 19 _ _=_ at e9;have Qd:g9[e.length]? = some (bT (d_ n) ((aG n o sh).zip u)):=(f9.2 _ (by omega)).trans ah;obtain⟨l,bx,W,ka,bl,_,_,nb⟩:=a.V.W;have W9:=W.fr f9;have b9:=a.V.bd.fr f9 UP;obtain⟨ff,dd⟩:=x6 a.last.sl a.last.sa a.en;have CF:=kY (mQ (z:=d_ n) (ps:=(aG n o sh).zip u) oX);have CL:(bT (d_ n) ((aG n o sh).zip u)).length<=5:=by rw[ik,acy];exact s
 obtain⟨A,ha⟩:∃A:Nat,bJ (is.map λ(i:Nat)=>D.int i) (o:Int)=some (.int A):=⟨_,xq (by simp[aag (show o<is.length by omega)];rfl)⟩
 have ox:∀p∈rN ++ [q],cw n o sh p.1 p.2.1 p.2.2:=λp hp=>by
  rcases aao.mp hp with hp|hp
  . exact a.all p hp
  . simp at hp;subst hp;exact a.last
 have fB:=a.fB;have jT:(gk n o sh (rN ++ [q])).length=(fT (rN ++ [q])).length:=by rw[oW ox,iP ox]
 have rl:(fT (rN ++ [q])).length<=320:=by rw[iP ox,aai,ace];have:(rN.length+1)*a_ n o sh<=16*20:=aeX (by omega) (El s);omega
 have lg:(kZ o (aG n o sh)).length=(aG n o sh).length:=by simp[kZ]
 have lk:(u.map D.int).length=(aG n o sh).length:=by rw[aaI];exact I.kl
 generalize hC:bT (d_ n) ((aG n o sh).zip u)=C at *;have sf:flat (.tup [v,.tup C,.int (ip tg A),Wg.eQ q.2.2 f])=true/\dep (.tup [v,.tup C,.int (ip tg A),Wg.eQ q.2.2 f])<=52:=by obtain⟨v1,v2⟩:=pv;exact⟨by simp[flat,aQ,v1,CF.1,ff],by simp only[dep,bp];omega⟩
 obtain⟨oz,Ex,ab,Qf⟩:=Wm.D_ (key:=own "own" o) (v:=.tup [v,.tup C,.int (ip tg A),Wg.eQ q.2.2 f]) W9 gC bl (by rw[aai,lg,jT];omega) (by rw[aai,lk];omega);have XQ:tab 59 22 [.aC (c.length+1),own "own" o,.tup [v,.tup C,.int (ip tg A),Wg.eQ q.2.2 f]] g9=some (.ax,oz):=Ex;have nX:=bX (n:=0) _ sf.1;have nd:=W9.nd;simp only[aaS,aah,aaw,or_false,not_or]at nd;have UQ:=Qf.1;have UR:Bd oz:=by
  refine Wm.gH ab (B:=0+2 ^ 39) ?_ (by rw[UQ,f9.1];exact a.V.ij) (fR rfl nX nb) (cP a.V.kA (by simp[aA,bB,own];simpa[aA,bB]using nX)) (cP a.V.kB rfl) λi xs hi b=>?_
  . obtain⟨x1,x2,x3,y1,y2⟩:=UP
    exact Hd.mono ⟨x1,x2,x3,by rw[Qf.2 _ (by simp;omega)];exact y1,y2⟩ (by omega)
  . rw[Qf.2 i (by simp only[aah,aaw,or_false,not_or]at hi ⊢;omega)]at b
    rw[UQ];exact b9 i xs b
 have P:=spF (k:=47) (g:=oz) (sh:=sh) (mo:=mo) (tg:=tg) s UR (v:=v) ha I.kl;rw[hC]at P;have Qe:tab 59 24 [aV n tg sh mo,.int o,.tup [.str "put",.int o,v],.tup (is.map λ(i:Nat)=>D.int i),.aC (c.length+1),.ax] oz=some (.bl true,oz):=by
  refine Wm.Bn ab ?_ ?_ (λx b=>?_) rfl (by simp[dep]) ?_
  . simp only[aai,lg,jT,lk,ace]
  . simp only[aai,lk,ace];omega
  . rcases aao.mp b with b|b
    . rcases aao.mp b with b|b
      . obtain⟨i,_,rfl⟩:=aaQ.mp b
        exact⟨rfl,by simp[bA,dep,bp]⟩
      . exact⟨(qp b).1,(qp b).2.1⟩
    . simp only[ae8]at b
      subst b;obtain⟨s1,s2⟩:=sf;generalize D.tup [v,.tup C,.int (ip tg A),Wg.eQ q.2.2 f]=X at *;exact⟨by simp[flat,aQ,own,s1],by simp only[dep,bp,own];omega⟩
  . exact DM (slF (k:=47) ho s) P (XJ 47) (λrd x h=>R9 47 h) a.all a.last fB a.go a.ends a.en
 have z1:az 1=true:=rfl;have z2:az 2=true:=rfl;have z3:az 3=true:=rfl;have z4:az 4=true:=rfl;have zC:az C.length=true:=aJ (by omega);have zn:az n=true:=aJ (by omega);have En:L3.d9 (n:Int)=true:=L3.d9.of (by omega) (by omega);subst hP;unfold Ip;refine fj (d:=.ref g.length) (g1:=g ++ [xs]) (mR e1 rfl) ?_;unfold UK;refine fj (d:=aV n tg sh mo) (g1:=g2) (mR e2 rfl) ?_;unfold UJ;refine di (Bf (d:=.int n) (d':=.int o) (g1:=g2) (g2:=g3) rfl (mR e3 rfl)) ?_;unfold UI;refine fj (d:=.tup (is.map λ(i:Nat)=>D.int i)) (g1:=c) (mR e4 rfl) ?_;unfold UH;refine fj (d:=.aC (c.length+1)) (g1:=e) (mR au rfl) ?_;unfold UG;refine fj (d:=.ref e.length) (g1:=e ++ [d_ n]) (by rw[<- PU];simp[z1,gh,En,zn]) ?_;unfold UE;refine di (f1:=dw (eH (af (aa 4) aj)) (gN 9) (rO (tab 59 21))) ec ?_;unfold UD;refine fj (d:=Wg.eQ q.2.2 f) (g1:=g8) (mR ae rfl) ?_;refine wp_mono (R_ (σ:=(lX (some L) (some (.int j)) (some (.ref g.length)) (aV n tg sh mo) n o (some (.tup (is.map λ(i:Nat)=>D.int i))) (c.length+1) e.length H J K a9).set 10 (some (Wg.eQ q.2.2 f))) rfl rfl rfl rfl rfl rfl rfl (show 12<13 by decide) zV ha e9 Qd CL XQ Qe) λr hr=>?_;obtain⟨r1,r2,r3⟩:=hr;exact⟨r1,⟨_,_,_,_,_,_,_,_,_,_,_,_,r2⟩,by rw[r3];exact UR⟩
theorem GG (ns:List Int)(A:ns.length<=63):∃g',tab 60 35 [.lst (ns.map .int)] []=some (.bl true,g'):=by
 have key:wp (tab 60 35 [.lst (ns.map .int)] []) λq=>q.1 = .bl true:=by
  show wp (ao false 13 1 (GF (tab 59)) _ _) _;refine jL rfl ?_;have eb:GF (tab 59)=ay (dw (eH (af (ak bI (fC (.int 3)) (aq ((jF k9 h_)) (af (fC (.int 6)) (af (aq cK (af (aa 0) aj)) aj)))) aj)) (gN 1) (Ip (tab 59))) (aO (fC (.bl true))):=rfl;rw[eb];have x:∀a b:Int,∀g:G,jF k9 h_ [.int a,.int b] g=some (.int (if b<a then b else a),g):=λa b g=>rfl;simp[x];refine iV ?_;simp[x];have hc:(if(ns.length:Int)<6 then(ns.length:Int)else 6)<=6/\0<=(if(ns.length:Int)<6 then(ns.length:Int)else 6):=by split<;>omega
  refine⟨by omega,by omega,f6 (λj σ g=>(∃o y u l s v k p n h c f,σ = [some (.lst (ns.map .int)),o,y,u,l,s,v,k,p,n,h,c,f])/\Bd g) _ 0 _ _ ⟨⟨_,_,_,_,_,_,_,_,_,_,_,_,rfl⟩,λi xs e=>by simp at e⟩ ?_ ?_⟩
  . rintro j d σ g hj ⟨⟨o,y,u,l,s,v,k,p,n,h,c,f,rfl⟩,bg⟩
    obtain⟨gQ,rfl⟩:=cZ hj;simp;refine wp_mono (iter (ns:=ns) (j:=j) (by omega) bg) λr hr=>?_;obtain⟨z,h2,h3⟩:=hr;rw[z];exact⟨h2,h3⟩
  . rintro σ g _
    simp[bB]
 obtain⟨⟨d,g'⟩,e,rfl⟩:=key;exact⟨g',e⟩
end K21
namespace K21
open PyProof.Rows L2 L3 RI
theorem walk {l:adA}{q:aaG}{a:List Str}{n:(Str->Option Value)->Heap->Prop}{c:World->Heap->Prop}{d:DefRec}{K:Params->aat}{b:List Addr}(k:l.most=some 63)(e:d.params.defaults = [])(o:d.name = "law")
  (j:∀(w:World) (h:Heap),c w h->(K w.params).In h /\ ∀P∈b,h.get? P=some (acK #[]))
  (F:∀(w:World) (mg:Str->Option Value) (h:Heap),(K w.params).In h->h.Ns aaZ mg->At (K w.params) b w mg mo):
  agE q a n c l.row.toRowW d [] (λf vs=>agu f vs):=
 RI.Ki (i:=35) (R:=60) (x:="_law_script") k ⟨rfl,by decide,by decide,rfl⟩ e o j F rfl rfl rfl rfl good (by decide +kernel) GG
theorem ym {K:aat}{w:World}{mg:Str->Option Value}{i:Addr}{ax:_}{ah:_}{f:Addr}{N:_}{L:Array (Option Value)}{s:_}{X:_}{c:Addr}{P:_}{M:Array (Option Value)}{x:_}{B:_}{W:_}{h:Addr}{ar:_}{I:Array (Option Value)}{k:_}{C:_}{p:_}{ae:_}{d:Addr}{Y:_}{J:Array (Option Value)}{u:_}{o:_}{z:_}{j:_}{T:_}{e:Addr}{au:_}{E:Array (Option Value)}{A:_}{q:_}{r:_}{y:_}{n:_}{Q:_}{b:Addr}{S:_}{H:Array (Option Value)}{v:_}{l:_}
 (aU:acF K aaZ "NUMBERS" = some (some (.ref i)))
 (aC:K.lookup i=some ⟨.type "dict",none,.dict #[⟨adx w.params "once",.str "once" ah,.ref f⟩,⟨adx w.params "twice",.str "twice" X,.ref c⟩,⟨adx w.params "handed",.str "handed" W,.ref h⟩,⟨adx w.params "signs",.str "signs" ae,.ref d⟩,⟨adx w.params "shared",.str "shared" T,.ref e⟩,⟨adx w.params "tables",.str "tables" Q,.ref b⟩] ax,#[]⟩)
 (Z:K.lookup f=some ⟨.type "tuple",none,.seq #[(.str "hands" s)] N,L⟩)
 (R:K.lookup c=some ⟨.type "tuple",none,.seq #[(.str "hands" x),(.str "turn" B)] P,M⟩)
 (U:K.lookup h=some ⟨.type "tuple",none,.seq #[(.str "hands" k),(.str "turn" C),(.str "moves" p)] ar,I⟩)
 (ai:K.lookup d=some ⟨.type "tuple",none,.seq #[(.str "hands" u),(.str "toggles" o),(.str "shakes" z),(.str "moves" j)] Y,J⟩)
 (ab:K.lookup e=some ⟨.type "tuple",none,.seq #[(.str "hands" A),(.str "places" q),(.str "toggles" r),(.str "shakes" y),(.str "moves" n)] au,E⟩)
 (O:K.lookup b=some ⟨.type "tuple",none,.seq #[(.str "hands" v),(.str "boxes" l)] S,H⟩)
 (aS:(i == adh)=false):∃a,acF K aaZ "NUMBERS" = some (some (.ref a)) /\ ∀lx,iR w ⟨K,w,mg,lx⟩ a lj:=⟨_,aU,λlx=>⟨⟨_,_,_,aC,⟨rfl,rfl,rfl⟩,rfl,⟨_,_,_,rfl,⟨_,rfl⟩,rfl,⟨.ref f,rfl,.inr ⟨_,_,_,_,_,rfl,by rfl,rfl,Z,rfl,rfl,rfl,(show 1<=aax by decide),.cons ⟨_,rfl⟩ (.nil)⟩⟩,⟨_,_,_,rfl,⟨_,rfl⟩,rfl,⟨.ref c,rfl,.inr ⟨_,_,_,_,_,rfl,by rfl,rfl,R,rfl,rfl,rfl,(show 2<=aax by decide),.cons ⟨_,rfl⟩ (.cons ⟨_,rfl⟩ (.nil))⟩⟩,⟨_,_,_,rfl,⟨_,rfl⟩,rfl,⟨.ref h,rfl,.inr ⟨_,_,_,_,_,rfl,by rfl,rfl,U,rfl,rfl,rfl,(show 3<=aax by decide),.cons ⟨_,rfl⟩ (.cons ⟨_,rfl⟩ (.cons ⟨_,rfl⟩ (.nil)))⟩⟩,⟨_,_,_,rfl,⟨_,rfl⟩,rfl,⟨.ref d,rfl,.inr ⟨_,_,_,_,_,rfl,by rfl,rfl,ai,rfl,rfl,rfl,(show 4<=aax by decide),.cons ⟨_,rfl⟩ (.cons ⟨_,rfl⟩ (.cons ⟨_,rfl⟩ (.cons ⟨_,rfl⟩ (.nil))))⟩⟩,⟨_,_,_,rfl,⟨_,rfl⟩,rfl,⟨.ref e,rfl,.inr ⟨_,_,_,_,_,rfl,by rfl,rfl,ab,rfl,rfl,rfl,(show 5<=aax by decide),.cons ⟨_,rfl⟩ (.cons ⟨_,rfl⟩ (.cons ⟨_,rfl⟩ (.cons ⟨_,rfl⟩ (.cons ⟨_,rfl⟩ (.nil)))))⟩⟩,⟨_,_,_,rfl,⟨_,rfl⟩,rfl,⟨.ref b,rfl,.inr ⟨_,_,_,_,_,rfl,by rfl,rfl,O,rfl,rfl,rfl,(show 2<=aax by decide),.cons ⟨_,rfl⟩ (.cons ⟨_,rfl⟩ (.nil))⟩⟩,rfl⟩⟩⟩⟩⟩⟩⟩,aS⟩⟩
end K21
open PySem.W PyProof.Rows
namespace PySem.W.Fast
theorem te1677408105985211629:1=1:=rfl
theorem tw3697706228585875651:1=1:=rfl
theorem tw5046166591277519575:1=1:=rfl
theorem tw8282966314770060392:1=1:=rfl
theorem tw18242935990018617368:1=1:=rfl
theorem tw2576319209132527428:1=1:=rfl
theorem tw7506459056185473551:1=1:=rfl
theorem tw13071465671249467031:1=1:=rfl
theorem tw26196529393834712:1=1:=rfl
theorem tw15801976267913679101:1=1:=rfl
theorem tw15103251252022187855:1=1:=rfl
theorem tw10580998443192913881:1=1:=rfl
theorem tw16012512542783301804:1=1:=rfl
theorem tw409548261955375323:1=1:=rfl
theorem tw1911917494278658060:1=1:=rfl
theorem tw11322931640157145752:1=1:=rfl
theorem tw18242978607321874701:1=1:=rfl
theorem tw817839544192065017:1=1:=rfl
theorem tw14114277311236376323:1=1:=rfl
theorem tw10594757545657893338:1=1:=rfl
theorem tw3007752192241165133:1=1:=rfl
theorem tw11604600722443465064:1=1:=rfl
theorem tw15850716236668145835:1=1:=rfl
theorem tw18287377704832240166:1=1:=rfl
theorem tw5315463262144493445:1=1:=rfl
theorem tw369593605519026910:1=1:=rfl
theorem tw4709862707263366733:1=1:=rfl
theorem tw2965058661723063665:1=1:=rfl
theorem tw5517786242979210919:1=1:=rfl
theorem tw11071017886412081900:1=1:=rfl
theorem tw461434489531269706:1=1:=rfl
theorem tw4990380000851639126:1=1:=rfl
theorem tw17233130972074712167:1=1:=rfl
theorem tw3689011713965767020:1=1:=rfl
theorem tw2368044896793704103:1=1:=rfl
theorem tw350753904247916650:1=1:=rfl
theorem tw887772040303836172:1=1:=rfl
theorem tw15303555004543685897:1=1:=rfl
theorem tw2554637901028689449:1=1:=rfl
theorem tw3668373712657511722:1=1:=rfl
theorem tw8911808129695047174:1=1:=rfl
theorem tw6870874644986450367:1=1:=rfl
theorem tw10929531194811300439:1=1:=rfl
theorem tw17059632892383624663:1=1:=rfl
theorem tw5317750024099684120:1=1:=rfl
theorem tw579229129404602120:1=1:=rfl
theorem tw5309378240241558462:1=1:=rfl
theorem tw13335782410795132662:1=1:=rfl
theorem tw11842725740715734049:1=1:=rfl
theorem tw9751381211905166721:1=1:=rfl
theorem tw11490474353476652998:1=1:=rfl
theorem tw12961265715152912342:1=1:=rfl
theorem tw9130090874397109450:1=1:=rfl
theorem tw1318953327551096107:1=1:=rfl
theorem tw1966929880297185473:1=1:=rfl
theorem tw8943466491690297983:1=1:=rfl
theorem tw7445223467105577981:1=1:=rfl
theorem tw8488766672448055721:1=1:=rfl
theorem tw4034595171403673816:1=1:=rfl
theorem tw12458972966404834929:1=1:=rfl
theorem tw13227696857162880503:1=1:=rfl
theorem tw3157855056505295001:1=1:=rfl
theorem tw630300618131139366:1=1:=rfl
theorem tw13235089897224317883:1=1:=rfl
theorem tw1721479456845357989:1=1:=rfl
theorem tw17320291572082054392:1=1:=rfl
theorem tw11139003775087017972:1=1:=rfl
theorem tw3499715123333613147:1=1:=rfl
theorem tw14974956630984814452:1=1:=rfl
theorem tw5517443185737042898:1=1:=rfl
theorem tw6829043021677940588:1=1:=rfl
theorem tw7856024551755711025:1=1:=rfl
theorem tw6191593712465011343:1=1:=rfl
theorem tw16133861203823588825:1=1:=rfl
theorem tw4551107025095448655:1=1:=rfl
theorem tw7675591960872774848:1=1:=rfl
theorem tw7306164070915849769:1=1:=rfl
theorem tw11205049933127707100:1=1:=rfl
theorem tw5004916756768811510:1=1:=rfl
theorem tw3004145267177613526:1=1:=rfl
theorem tw9247671245670002028:1=1:=rfl
theorem tw13943184112014228594:1=1:=rfl
theorem tw17757953186971754662:1=1:=rfl
theorem tw9267628399137643244:1=1:=rfl
theorem tw9909422894473238746:1=1:=rfl
theorem tw5565557840919211489:1=1:=rfl
theorem tw3207660920822996432:1=1:=rfl
theorem tw5553741328783747448:1=1:=rfl
theorem tw10573380901271762616:1=1:=rfl
theorem tw4558687093750341037:1=1:=rfl
theorem tw15049186055543938099:1=1:=rfl
theorem tw9436764620960973365:1=1:=rfl
theorem tw18173268151344736017:1=1:=rfl
theorem tw11282404509071331557:1=1:=rfl
theorem tw3924857073752846427:1=1:=rfl
theorem tw11218012543270405802:1=1:=rfl
theorem tw17491342399767156905:1=1:=rfl
theorem tw12736601142489204034:1=1:=rfl
theorem tw16545886476730589536:1=1:=rfl
theorem tw6717129095977171384:1=1:=rfl
theorem tw8811424403817071537:1=1:=rfl
theorem tw10467171185372972958:1=1:=rfl
theorem tw15187034594600419285:1=1:=rfl
theorem tw10364880761807832041:1=1:=rfl
theorem tw15917789717455324263:1=1:=rfl
theorem tw7637799937604196729:1=1:=rfl
theorem tw1997406329250528613:1=1:=rfl
theorem tw15484927236949143877:1=1:=rfl
theorem tw9673228624483296918:1=1:=rfl
theorem tw10612244947847525056:1=1:=rfl
theorem tw11508501188186912877:1=1:=rfl
theorem tw2429151029950047110:1=1:=rfl
theorem tw3879930559689533032:1=1:=rfl
theorem tw157863924675809215:1=1:=rfl
theorem tw17136645085530534988:1=1:=rfl
theorem tw7981206057323919046:1=1:=rfl
theorem tw829160745961778023:1=1:=rfl
theorem tw143372706177915695:1=1:=rfl
theorem tw8855782855005101061:1=1:=rfl
theorem tw15886414994072001884:1=1:=rfl
theorem tw17471071380136098145:1=1:=rfl
theorem tw10926771855945953453:1=1:=rfl
theorem tw1469632858194520975:1=1:=rfl
theorem tw16366007754325944538:1=1:=rfl
theorem tw130193013674267863:1=1:=rfl
theorem tw12311526520437726945:1=1:=rfl
theorem tw11943448962174288682:1=1:=rfl
theorem tw14261982953162271320:1=1:=rfl
theorem tw16546177898336916019:1=1:=rfl
theorem tw8053613737779987365:1=1:=rfl
theorem tw11606528483805076696:1=1:=rfl
theorem tw18023091494785961613:1=1:=rfl
theorem tw17764638754349309635:1=1:=rfl
theorem tw10093616809920606591:1=1:=rfl
theorem tw9647823880177904011:1=1:=rfl
theorem tw2235802716557099591:1=1:=rfl
theorem tw16251923428174885228:1=1:=rfl
theorem tw18140999883442407936:1=1:=rfl
theorem tw18032764221910139754:1=1:=rfl
theorem tw10628700854479458896:1=1:=rfl
theorem tw15340474493556275315:1=1:=rfl
theorem tw15099765231280489030:1=1:=rfl
theorem tw11553952788748240223:1=1:=rfl
theorem tw12263965477263037016:1=1:=rfl
theorem tw3008691244850254122:1=1:=rfl
theorem tw4651196443529170973:1=1:=rfl
theorem tw16311868091348925897:1=1:=rfl
theorem tw16643944765225777065:1=1:=rfl
theorem tw9799358210230692695:1=1:=rfl
theorem tw116759893507765545:1=1:=rfl
theorem tw13298390213619149232:1=1:=rfl
theorem tw800485051280309995:1=1:=rfl
theorem tw13139425720705378892:1=1:=rfl
theorem tw13925061364503898928:1=1:=rfl
theorem tw14294763307247749731:1=1:=rfl
theorem tw4711059915903648888:1=1:=rfl
theorem tw9046991036497688839:1=1:=rfl
theorem tw7686064750813206200:1=1:=rfl
theorem tw7380433718103071138:1=1:=rfl
theorem tw5407682315050910518:1=1:=rfl
theorem tw1821491897267847355:1=1:=rfl
theorem tw3381437693140803382:1=1:=rfl
theorem tw7304016307068821926:1=1:=rfl
theorem tw3850248197169500949:1=1:=rfl
theorem tw12232264422656367733:1=1:=rfl
theorem tw3930391629447968809:1=1:=rfl
theorem tw12534821257319025778:1=1:=rfl
theorem tw16464418942159694942:1=1:=rfl
theorem tw11974475035534879326:1=1:=rfl
theorem tw13494971387996423794:1=1:=rfl
theorem tw11201374606622843499:1=1:=rfl
theorem tw6468912640349205321:1=1:=rfl
theorem tw5594475619648842048:1=1:=rfl
theorem tw2747789012221735713:1=1:=rfl
theorem tw6168931498096368523:1=1:=rfl
theorem tw5339120047164983939:1=1:=rfl
theorem tw5821940774852981639:1=1:=rfl
theorem tw5241672186247733970:1=1:=rfl
theorem tw15109221469907390123:1=1:=rfl
theorem tw10879445228181635793:1=1:=rfl
theorem tw5716858805193475596:1=1:=rfl
theorem tw8241505377661548703:1=1:=rfl
theorem tw5561307877762271744:1=1:=rfl
theorem tw640285089240053709:1=1:=rfl
theorem tw10383478111784282442:1=1:=rfl
theorem tw8540765526750763018:1=1:=rfl
theorem tw1948159058989547745:1=1:=rfl
theorem tw13061410258663513827:1=1:=rfl
theorem tw18289547518289941200:1=1:=rfl
theorem tw12912837578574577791:1=1:=rfl
theorem tw7917552977134656275:1=1:=rfl
theorem tw10784024960573859569:1=1:=rfl
theorem tw16312458028464045294:1=1:=rfl
theorem tw12626403834647229002:1=1:=rfl
theorem tw13424994943881227781:1=1:=rfl
theorem tw11326513050000718571:1=1:=rfl
theorem tw7897010609231529504:1=1:=rfl
theorem tw3716866675170813884:1=1:=rfl
theorem tw17773414007330721336:1=1:=rfl
theorem tw7413713328456091498:1=1:=rfl
theorem tw16780110780264844632:1=1:=rfl
theorem tw6363213912688189190:1=1:=rfl
theorem tw13074717485060155316:1=1:=rfl
theorem tw6283072304031403756:1=1:=rfl
theorem tw16411739402633676661:1=1:=rfl
theorem tw553293641573544134:1=1:=rfl
theorem tw14712392165547462777:1=1:=rfl
theorem tw10568129000805558369:1=1:=rfl
theorem tw18211085311634131893:1=1:=rfl
theorem tw4627990167821604356:1=1:=rfl
theorem tw8646749283068851390:1=1:=rfl
theorem tw7188066397641395501:1=1:=rfl
theorem tw12446060047559409664:1=1:=rfl
theorem tw12770533642989073516:1=1:=rfl
theorem tw13791959829420131744:1=1:=rfl
theorem tw10203235151838565593:1=1:=rfl
theorem tw3722106574057614785:1=1:=rfl
theorem tw11767997078497550601:1=1:=rfl
theorem tw18152848102048175157:1=1:=rfl
theorem tw18114670887665439894:1=1:=rfl
theorem tw13716900505922971767:1=1:=rfl
theorem tw516159800773696675:1=1:=rfl
theorem tw12117829019625649901:1=1:=rfl
theorem tw4225108261911603639:1=1:=rfl
theorem tw4032156500740940113:1=1:=rfl
theorem tw3019450064333207680:1=1:=rfl
theorem tw4630533014155934689:1=1:=rfl
theorem tw17150527831575170952:1=1:=rfl
theorem tw5242650991482093480:1=1:=rfl
theorem tw11161698543738263587:1=1:=rfl
end PySem.W.Fast
set_option maxRecDepth 100000 in
set_option maxHeartbeats 0 in
theorem PySem.Challenge.cw_wholeglance_k21_puts_of_signs_holds : PySem.Challenge.rw_wholeglance_k21_puts_of_signs.Holds := by
  w_on; o_law; k_head; (case hw => w_witness2)
  k_fill
  refine K21.walk (l := PySem.Challenge.rw_wholeglance_k21_puts_of_signs) rfl rfl rfl (fun w h Y => by exact ⟨PySem.W.km_in_of Y, PySem.W.km_tabs_of Y⟩) ?F
  case F =>
    intro w mg h KX G
    refine' ⟨_, _, _, (RI.bj.cons ?_ ?_ ?_ ?_ (RI.kW fun _ _=>rfl)
 (RI.bj.cons ?_ ?_ ?_ ?_ (RI.pI fun _=>rfl)
 (RI.bj.cons ?_ ?_ ?_ ?_ (RI.Dj fun _ _ _ _ _=>rfl)
 (RI.bj.cons ?_ ?_ ?_ ?_ (RI.kW fun _ _=>rfl)
 (RI.bj.cons ?_ ?_ ?_ ?_ (RI.m9 fun _ _ _=>rfl)
 (RI.bj.cons ?_ ?_ ?_ ?_ (RI.kW fun _ _=>rfl)
 (RI.bj.cons ?_ ?_ ?_ ?_ (RI.kW fun _ _=>rfl)
 (RI.bj.cons ?_ ?_ ?_ ?_ (RI.TN fun _ _ _ _=>rfl)
 (RI.bj.cons ?_ ?_ ?_ ?_ (RI.pI fun _=>rfl)
 (RI.bj.maker ?_ ?_ ?_ ?_ ?_ ?_ ?_ ?_ ?_ (RI.m9 fun _ _ _=>rfl)
 (RI.bj.maker ?_ ?_ ?_ ?_ ?_ ?_ ?_ ?_ ?_ (RI.m9 fun _ _ _=>rfl)
 (RI.bj.cons ?_ ?_ ?_ ?_ (RI.m9 fun _ _ _=>rfl)
 (RI.bj.cons ?_ ?_ ?_ ?_ (RI.Dj fun _ _ _ _ _=>rfl)
 (RI.bj.cons ?_ ?_ ?_ ?_ (RI.m9 fun _ _ _=>rfl)
 (RI.bj.cons ?_ ?_ ?_ ?_ (RI.Dj fun _ _ _ _ _=>rfl)
 (RI.bj.cons ?_ ?_ ?_ ?_ (RI.Dj fun _ _ _ _ _=>rfl)
 (RI.bj.cons ?_ ?_ ?_ ?_ (RI.kW fun _ _=>rfl)
 (RI.bj.cons ?_ ?_ ?_ ?_ (RI.kW fun _ _=>rfl)
 (RI.bj.cons ?_ ?_ ?_ ?_ (RI.kW fun _ _=>rfl)
 (RI.bj.cons ?_ ?_ ?_ ?_ (RI.pI fun _=>rfl)
 (RI.bj.cons ?_ ?_ ?_ ?_ (RI.m9 fun _ _ _=>rfl)
 (RI.bj.cons ?_ ?_ ?_ ?_ (RI.kW fun _ _=>rfl)
 (RI.bj.cons ?_ ?_ ?_ ?_ (RI.m9 fun _ _ _=>rfl)
 (RI.bj.cons ?_ ?_ ?_ ?_ (RI.m9 fun _ _ _=>rfl)
 (RI.bj.cons ?_ ?_ ?_ ?_ (RI.ZT fun _ _ _ _ _ _=>rfl)
 (RI.bj.cons ?_ ?_ ?_ ?_ (RI.kW fun _ _=>rfl)
 (RI.bj.cons ?_ ?_ ?_ ?_ (RI.pI fun _=>rfl)
 (RI.bj.cons ?_ ?_ ?_ ?_ (RI.kW fun _ _=>rfl)
 (RI.bj.cons ?_ ?_ ?_ ?_ (RI.kW fun _ _=>rfl)
 (RI.bj.cons ?_ ?_ ?_ ?_ (RI.kW fun _ _=>rfl)
 (RI.bj.cons ?_ ?_ ?_ ?_ (RI.kW fun _ _=>rfl)
 (RI.bj.cons ?_ ?_ ?_ ?_ (RI.m9 fun _ _ _=>rfl)
 (RI.bj.cons ?_ ?_ ?_ ?_ (RI.m9 fun _ _ _=>rfl)
 (RI.bj.cons ?_ ?_ ?_ ?_ (RI.m9 fun _ _ _=>rfl)
 (RI.bj.cons ?_ ?_ ?_ ?_ (RI.pI fun _=>rfl)
 (RI.bj.cons ?_ ?_ ?_ ?_ (RI.pI fun _=>rfl)
 (RI.bj.lam (fun _ _ _ _ => (RI.pI fun _=>rfl)) (RI.bj.lam (fun _ _ _ _ => (RI.pI fun _=>rfl)) RI.bj.nil)))))))))))))))))))))))))))))))))))))), ?_,
 (RI.bc ?z_len (RI.bc ?z_min (RI.bc ?z_int (RI.bc ?z_tuple (RI.bc ?z_sorted (RI.bc ?z_dict (RI.bc ?z_set (RI.bc ?z_range (RI.bc ?z_enumerate (RI.bc ?z_zip (RI.bc ?z_isinstance RI.bn))))))))))),
    RI.TR, (RI.cc (K21.ym ?qn_NUMBERS ?ql_NUMBERS ?qv_NUMBERS_0 ?qv_NUMBERS_1 ?qv_NUMBERS_2 ?qv_NUMBERS_3 ?qv_NUMBERS_4 ?qv_NUMBERS_5 ?qs_NUMBERS) RI.TR)⟩
    all_goals try first | k_is | rfl | kernel_rfl | k_mem
