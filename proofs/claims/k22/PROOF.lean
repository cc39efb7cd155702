import PyProof.Rows.All
import Wide.All
import OpenK.AllK
import Wide.FinOn
import Lean
import PyProof.EqAt
import PyProof.EqKinds
import PyProof.TupleCall
import PySem.Challenge.RW_wholeglance_k22_looks_of_shared
noncomputable section
open PySem renaming wpAny_bind->l8,Shared->my,wpAny_pure->mA,sizeLine->m6,starEach->ni,Program->uy,Around->qc,mem_of_lookup->zS,DictEntry->qt,foldedSetIterable->zg,wpAny_call_entry->yc,wpAny_holding->wh,wpAny_newObj_type->z5,mainGlobals->tA,wpAny_callSpecial?_slot->HX,collect->Dw,compareOp->u3,wpAny_ite_split->Em,binaryOp->ta,placesWithHash->F2,FuncData->x3,cellsFrom->wN,Builtin->um,wpAny_Call_Name_kw->Tb,assignEach->AR,wpAny_field->Ft,wpAny_rule->DK,backTo->v3,wpAny_dictEpoch->S3,bootBuiltins->L0,NameKind->Dc,sizeLine_eq->IV,rawInt->wQ,wpAny_truthy_bool->YP,swappedStores->Ql,wpAny_typeNameOfWhole_keyiter->acW,sysModules->M7,wpAny_passesOwn->XW,swapsWithSole->UT,Comprehension->Y8,wpAny_dictEntries->adb,swapsWith->M5,wpAny_setField->WT,IsPart->CV,wpAny_askSetting->ZP,wpAny_forIn_list->ado,holding->HQ,call_meets->SJ,codeAny_builtin->Ze,wpAny_sequenceKey->adA,wpAny_setState_of->adB,pyNext->ES,codeAny_mono->U7,wpAny_seqItems->adJ,Arguments->TH,bindName->OL,wpAny_isInstance->adQ,assign->Hq,wpAny_standAt->Y4,intKind->Ol,sliceBounds->WV,wpAny_ite_false->ad2,Operator->U1,wpAny_typeOf->YX,SetTable->T1,pickOrder->Uw,wpAny_setField_rec->ad_,wpAny_bindName->aee,codeAny->PL,getItem->Pd,setNext->P8,slot_dict_getitem->aep,assignInOrder->aev,behindInMarks->aew,attributeBase->aex,wpAny_attempt->aey,seqSlot_of->aeD,builtinLookup_eq_fast->aeH,wpAny_mono->Zc,wpAny_Name->Z5,wpAny_loadName_local->aeN,wpAny_execs_nil->aeO,wpAny_updateSeq->aeT,wpAny_loadName_cell->aeZ,wpAny_setEntries_of->ae1,bindArgs->WU,Keyword->UD,callerA->Uv,wpAny_fieldsOf->ae6,firstArgMember->ae7,PassesOwn->ZX,pyIter->Tt,slot_dict_contains->afo,plainId_quiet->afw,wpAny_pyIter_list->afC,wpAny_pyIter_slot->afE,builtinsNs->afJ,typeIs_int->afL,closureFor->afN,fillsNumberSlot_seq->afP,relabel->WJ,dictGet->Vt,GenState->afV,concat_meets->afX,noFill_tuple_add->afY,checkBuiltinCall->af2,beq_builtin_none->af5,letOwnedTupleGo->agb,typeLookup_type->agc,wpAny_specialOf->agd,eqIsQuiet->age,wpAny_Call_method_late->agh,wpAny_alloc->agj,standAt->Zg,argsOk->Wm,isSubtype_stop->agr,wpAny_notOrdered_dict->agz,wpAny_isOneOf_keyiter->agA,wpAny_call->agE,call->agI,setsByText->agJ,seqRepeat?->agK,numAt_eq->agM,seq_tuple_add->agP,wpAny_handled->agT,wpAny_loadName_free->agV,hashInt->ahh,setItem->ahi,BindsTo->ahj,seqIndex_of->ahw,keywordEach->ahx,wpAny_of_eq->ahy,wpAny_throw->ahz
open List renaming getElem?_eq_some_iff->mT,getElem?_eq_getElem->nz,length_append->nv,mem_cons->nF,size_toArray->om,getElem?_append_left->r_,getElem?_set_ne->p7,mem_cons_of_mem->p8,replicate->nN,mem_append->nQ,getElem?_map->qd,getElem?_set_self->t7,mem_map->nP,mem_of_getElem?->sZ,mem_cons_self->sv,length_map->qV,getElem?_take_of_lt->C8,getElem?_append_right->Fq,getElem?_eq_none->zH,append_nil->wz,range->r6,not_mem_nil->x5,lookup_cons->zr,getD_eq_getElem?_getD->Np,length_cons->z6,length_take->Cu,getElem_mem->Cv,map_cons->yp,append_assoc->Fm,mem_append_right->N_,length_singleton->L3,filterMap_cons->H0,nodup_cons->Dy,getElem?_zip_eq_some->QN,length_zip->Dv,mem_of_mem_take->NS,mem_filter->EZ,mem_map_of_mem->M4,any_cons->Bw,mem_iff_getElem->OX,all_eq_true->IU,drop_eq_getElem_cons->VX,flatten_cons->PK,mem_iff_getElem?->TR,map_map->E5,set_getElem_self->UG,mem_filterMap->Rx,elem_iff->H9,take_of_length_le->Vu,replicate_succ->UQ,getElem?_of_mem->Wg,length_eq_zero_iff->ZW,nodup_append->TJ,length_set->QJ,nil_append->Q5,filter_cons->Ut,length_filter_le->acJ,of_mem_zip->T3,map_append->UA,ext_getElem?->Ws,flatMap_cons->Wl,getElem?_range->acY,nodup_nil->TF,range'->Pb,mem_append_left->ade,getElem?_eq_none_iff->adg,filter_sublist->adp,getElem?_cons_zero->adq,filter_append->adw,eq_nil_of_length_eq_zero->adz,set_set->W3,map_fst_zip->adR,all_cons->Z_,forIn_cons->ad1,mem_range->aed,take_left->ael,findIdx?_eq_some_iff_getElem->aes,length_drop->aez,cons_append->aeA,mem_reverse->aeB,any_eq_true->aeC,isEmpty_iff->aeF,range_succ->aeX,take_append_of_le_length->aeY,drop_zero->ae8,drop_left->afa,length->afc,mem_singleton->afm,set_comm->aft,exists_cons_of_ne_nil->afz,take_sublist->afD,getElem?_inj->afG,getElem_inj->afW,range'_succ->af3,nodup_range->af4,mem_flatMap->af7,getElem?_replicate->af8,find?_some->agf,range_succ_eq_map->agk,drop_eq_nil_of_le->agn,singleton_append->ags,take_append_drop->agu,forIn_nil->agw,min?_eq_some_iff->agy,take_succ->agD,foldl->agH,length_pos_iff->agZ,map_eq_nil_iff->ag1,flatMap_append->ag2,filterMap_map->ag_,map_nil->ahb,set_cons_zero->ahd,getElem_take->ahp,pairwise_map->ahv,map_id->ahC,mem_nil_iff->ahN,take_append->ahO,find?_cons->ahV,zip_append->ah2,take_zero->aim
open Bool renaming and_eq_true->mS,false_eq_true->rk,not_eq_true'->yA,or_eq_true->yN,or_eq_false_iff->H_,false_ne_true->L8,not_eq_true->TZ,not_true->Zx,and_self->Zf,or_eq_true_iff->ae2,not_eq_false'->afp,or_false->afu,true_and->afx,not_eq_false->afH,false_and->agp,not_false->agv,and_false->aif
open Option renaming bind_some->m5,map_eq_some_iff->oN,map_some->E6,isSome_iff_exists->ad4,isSome_none->ahe,getD_none->ahH,getD_some->ahI
open PySem.Heap renaming get?_push_of_some->nG,get?_push_size->p9,lt_size->nI,get?_update_self->NU,size_push->M8,SameBut->M9,get?_update_other->Y6,ExtBut->agi
open Nat renaming le_refl->nc,lt_of_lt_of_le->wi,ne_of_lt->ro,le_trans->rK,zero_add->vU,zero_le->tc,lt_irrefl->GW,lt_succ_of_lt->Oy,le_of_ble_eq_true->TU,add_mul->IA,ble_eq_true_of_le->Zo,le_add_right->XN,lt_succ_self->Zv,sub_self->UH,beq->HI,le_of_lt->Vd,mul_comm->WM,ble->Pf,add_sub_cancel_left->aen,le_of_succ_le->aeo,ne_of_gt->aeP,le_of_eq->aeS,mul_le_mul->ae9,lt_trans->af0,add_sub_cancel->ahg,le_succ->ahD,not_lt_zero->ahX,max_le->ahZ
open PySem.W renaming Frag->oi,keepIn->Ou,kia_one->Qs,fnOf->Oc,nsIn->O5,sortI->Ts,tabObj->Um,OpenLaw->Zh,codeHdIn->adP,sortI_perm->aeb,codeIn->aeg,kla_obj->aeU,envX->aeV,callWith_K->afj,mg_of->afy,methodObj->afA,eq_sortI->af6,cellsFrom_some->agg,kla_fn->agC,WalkO->agS,codeHd_of_K->agW,pyHash_slot->agY,kitx_list->ahq,kitx_dict->ahr,CodeHd->aij
open PySem.SetTable renaming below->qr,insertAt->UR,has->af1,turns->agt,fill->agU,fits->aiA,bits->aiB
open Ne renaming symm->n7
open PyProof.Rows renaming slot_tuple_getitem->PF,callWith_type1->ZV,IntsAre->Bb,assignInOrder_cons->Zt,subscriptTail_builtinR->adx,AllBare->SW,envOfC->Ox,callWith_builtin1->aeR,entry_tuple_getitem->ae0,args_tuple_getitem->afk,seqObj->QO,assignInOrder_nil->afB,boot_zip->agB,sortedHeap->agO,tupleItemsOf_->agQ,subscriptTail->agR,boot_tuple->ahA,boot_int->ah3
open PySem.Str renaming ofString->vx
open Array renaming getElem?_eq_getElem->Oa,getElem?_eq_some_iff->ac_,getElem?_eq_none->ady,getElem?_toList->adH,length_toList->ad0,mem_of_getElem?->aeJ,getElem_mem->afF,toList_append->ag0,toList->ag7,forIn_toList->ahf
open PySem.AutoSeq1 renaming wpAny_loadPart'->PN,sub_tuple_tuple->acP,idx_int->adn,sub_list_list->aet,sub_tuple_list->af9,sub_list_tuple->af_
open PySem.NameKind renaming free->zk,cell->B0
open Option.some renaming inj->DM,injEq->adD
open PySem.Value renaming type->wo,none->Ad,ref->FX,isStrOf->aeu,isInt->afb,int->ZQ,bool->afI,notImplemented->agL
open PySem.Heap.SameBut renaming update->NT
open PySem.Builtin.Slice renaming sliceAdjust->TL,slicePlaces->XP,sliceApplied->ac8,sliceFields->afK
open PySem.Builtin.Tuple renaming tupleExact->UY,tupleItemsOf->ac9,tupleHashOf->afM,tupleTooMany->agl
open Int renaming toNat_natCast->Nc,toNat_of_nonneg->ZU,emod_lt_of_pos->aec,toNat->U8,emod_nonneg->aeW,natCast_nonneg->afn,natCast_add->ah1
open PySem.Builtin.SmallTypes renaming nextOf->Wd,ownedTupleHandOut->aea,ownedTupleIsFree->aek
open Classical renaming choose_spec->Ul,choose->aeE,byContradiction->afQ
open False renaming elim->A9
open PySem.Builtin.List renaming listTooLong->acm,listFitsIndex->adW,listExtendWith->afl,listSameRef->afZ
open Function renaming comp_def->US
open PySem.Obj renaming mapSeq->HG,data_mapFields->ad9,mapFields->afv,isFreed_of_fields->agx,cls_mapFields->ahs,mapDictKeys->ahW
open ForInStep renaming yield->TV
open PySem.Around renaming under_plainId->adf,frames_deeper->agF
open PySem.SetTable.below renaming go->adC
open PySem.PyData renaming keyHash->Z6
open PySem.F renaming args_tuple_add_2->ad5,entry_tuple_add->aem,slot_tuple_add->aeq,slot_dict_get->aeK,plainAttrs_list->aga,entry_dict_get->agm
open PySem.Calls renaming callWith_builtin->aer,spliced_cons->afi,Name_function_global->afs,evalArgs_plain->agG,Constant_str->ag6,spliced_nil->ahm
open PySem.Builtin.Dict_items renaming ownsTuple->ae_
open PySem.Shared renaming heap->afd,TypeIs->aiK
open PySem.Data renaming cell->Zy,dict->aiq
open PySem.ScopeKind renaming function->afq
open True renaming intro->afO
open Sum renaming inl->U3,inr->W2
open PUnit renaming unit->agN
open Std.Legacy.Range renaming forIn_eq_forIn_range'->agX,size->akl
open PySem.SeqAt.EqAt renaming int_str->ag3,str_int->ag4
open PySem.Flow renaming next->ag8
open PySem.Heap.IsSliceOf renaming new->aha
open PySem.pickOrder renaming go->ahc
open List.Pairwise renaming nil->aho
open PySem.Setting renaming params->aia
open List.Perm renaming swap->aib,refl->aid
open PySem.Builtin.Frozenset renaming updateFrom->ail,newClass->aiD,addrOf->ai6,sizeOf->ai7,slot0->ajt
open PyProof.Rows.IntsAre renaming int_at->ais
set_option bootstrap.genMatcherCode false
set_option bootstrap.genMatcherCode false
set_option genInjectivity false
set_option genSizeOf false
set_option Elab.async false
set_option linter.all false
set_option maxRecDepth 100000
open PySem PySem.Spec
variable {n p o s:Nat}{b:List (Addr×Obj)}{e y:Expr}{E Q:Value->my->Prop}{j:Pos}{B:List Expr}{f:Addr}{c:my}{x:Str}{i:Int}{q:uy}{l:World}{u:List (Option Nat)}{z:List Int}{I:Heap}{J:Scope}{K:List Str}{M:qc}{O:List Addr}{R:List Value}{T:Value}{Z:Bool}
section
open PyProof.Rows
variable {Y:Value->Value->Sem Value}{a:List Stmt}{X:Heap}{U:List Addr}{H pos:Pos}{C:oi}{A:Str->Option Value}{z:Unit->my->Prop}{o:Obj}{w:x3}{v:Model}{u:String}{s:Array Value}{g:Int->Int->Int}{r:Addr}{h:my}{d:CmpOp}{st:Stmt}{op:U1}{cv:List (Addr×Obj)}
noncomputable abbrev Key:=Sum Int Str
noncomputable def vn:Key->Value->Bool
 |.inl k,v=>afb k v|.inr x,v=>aeu x v
noncomputable def Vs (w:World):Key->Int
 |.inl k=>ahh k|.inr x=>hashStr w x
def dq:∀{k:Key} {v:Value},vn k v=true->(∃i t,k=U3 i/\v=ZQ i t)\/(∃x t,k=W2 x/\v=Value.str x t)
 |.inl i,v,h=>by obtain⟨t,e⟩:=Value.isInt_shape (k:=i) (v:=v) h;exact .inl ⟨i,t,rfl,e⟩
 |.inr x,v,h=>by obtain⟨t,e⟩:=Value.isStrOf_shape (x:=x) (v:=v) h;exact .inr ⟨x,t,rfl,e⟩
def Cp (x:Str)(t:Tok):vn (.inr x) (.str x t)=true:=by simp[vn,aeu]
def LV (a b:Int):decide ((U3 a:Key)=U3 b)=(a == b):=by
 by_cases e:a=b
 . subst e;simp
 . have h:¬(U3 a:Key)=U3 b:=λq=>e (Sum.inl.inj q)
   rw[decide_eq_false h];exact(beq_eq_false_iff_ne.mpr e).symm
def LW (a b:Str):decide ((W2 a:Key)=W2 b)=decide (a=b):=by
 by_cases e:a=b
 . subst e;simp
 . have h:¬(W2 a:Key)=W2 b:=λq=>e (Sum.inr.inj q)
   rw[decide_eq_false h,decide_eq_false e]
def LX (a:Int)(b:Str):decide ((U3 a:Key)=W2 b)=false:=decide_eq_false (λq=>nomatch q)
def LY (a:Str)(b:Int):decide ((W2 a:Key)=U3 b)=false:=decide_eq_false (λq=>nomatch q)
noncomputable def fq (prog:uy)(w:World):PySem.KeyKind prog w Key where
 is:=vn
 hash:=Vs w
 inj:=λv a b f d=>by
  rcases dq f with⟨i,t,rfl,rfl⟩|⟨x,t,rfl,rfl⟩
  . rcases dq d with⟨j,u,rfl,e⟩|⟨y,u,rfl,e⟩
    . injection e with e1 _;rw[e1]
    . exact nomatch e
  . rcases dq d with⟨j,u,rfl,e⟩|⟨y,u,rfl,e⟩
    . exact nomatch e
    . injection e with e1 _;rw[e1]
 byValue:=λk v h=>by rcases dq h with⟨i,t,rfl,rfl⟩|⟨x,t,rfl,rfl⟩<;>rfl
 pyHash:=λc h=>by
  rcases dq c with⟨i,t,rfl,rfl⟩|⟨x,t,rfl,rfl⟩
  . exact wpAny_pyHash_int h
  . exact wpAny_pyHash_str h
 eqBool:=λhu c h=>by
  rcases dq hu with⟨i,t,rfl,rfl⟩|⟨x,t,rfl,rfl⟩
  . rcases dq c with⟨j,u,rfl,rfl⟩|⟨y,u,rfl,rfl⟩
    . rw[LV]at h;exact wpAny_eqBool_int h
    . rw[LX]at h;exact ag3 i t y u _ _ _ _ h
  . rcases dq c with⟨j,u,rfl,rfl⟩|⟨y,u,rfl,rfl⟩
    . rw[LY]at h;exact ag4 x t j u _ _ _ _ h
    . rw[LW]at h;exact wpAny_eqBool_str h
 «strs»:=λk x t v h=>by
  rcases dq h with⟨i,u,rfl,e⟩|⟨y,u,rfl,e⟩
  . exact nomatch e
  . injection e with e1 _
    subst e1;cases v<;>rfl
def pY (prog:uy)(w:World)(x:Str)(t:Tok):(fq prog w).is (.inr x) (.str x t)=true:=Cp x t
set_option genInjectivity true in
inductive V where
 |aA|bl (b:Bool)|int (i:Int)|str (x:Str)|Cq (b:Array UInt8)|iD (b:UInt64)|ref (a:Addr)|ty (n:String)
 deriving DecidableEq
noncomputable def mI:V->Value->Prop
 |.aA,u=>u=Ad|.bl b,u=>u=afI b|.int i,u=>∃t,u=ZQ i t|.str x,u=>∃t,u=Value.str x t|.Cq b,u=>∃t,u=Value.bytes b t|.iD b,u=>∃t,u=Value.float b t|.ref a,u=>u=FX a|.ty n,u=>u=wo n
noncomputable abbrev Vals:List V->List Value->Prop:=Paired mI
theorem Vals.length {c:List V}(r:Vals c R):c.length=R.length:=Paired.length r
theorem Vals.get:∀{c:List V} {g:List Value} {i:Nat} {x:V},Vals c g->c[i]? = some x->∃u,g[i]? = some u/\mI x u
 |_,_,_,_,.nil,e=>by simp at e|_,_,0,_,.cons r _,e=>by simp at e;subst e;exact⟨_,rfl,r⟩|_,_,i+1,x,.cons _ t,e=>by obtain⟨u,a,b⟩:=Vals.get (i:=i) (x:=x) t (by simpa using e);exact⟨u,by simpa using a,b⟩
theorem Vals.set {x:V}{u:Value}(r:mI x u):∀{c:List V} {g:List Value} (i:Nat),Vals c g->Vals (c.set i x) (g.set i u)
 |_,_,_,.nil=>.nil|_,_,0,.cons _ t=>.cons r t|_,_,i+1,.cons q t=>.cons q (Vals.set r i t)
theorem Vals.append:∀{c g:List V} {h i:List Value},Vals c h->Vals g i->Vals (c++g) (h++i)
 |_,_,_,_,.nil,s=>s|_,_,_,_,.cons r t,s=>.cons r (Vals.append t s)
theorem Vals.take:∀{c:List V} {g:List Value} (n:Nat),Vals c g->Vals (c.take n) (g.take n)
 |_,_,0,_=>.nil|_,_,_+1,.nil=>.nil|_,_,n+1,.cons r t=>.cons r (Vals.take n t)
theorem Vals.drop:∀{c:List V} {g:List Value} (n:Nat),Vals c g->Vals (c.drop n) (g.drop n)
 |_,_,0,r=>r|_,_,_+1,.nil=>.nil|_,_,n+1,.cons _ t=>Vals.drop n t
noncomputable def LZ:Option V->Option Value->Prop
 |some v,some u=>mI v u|none,none=>True|_,_=>False
noncomputable def KV {a:Type}:List (a×V)->List (a×Value)->Prop:=Paired λ(p:a×V) (q:a×Value)=>p.1=q.1/\mI p.2 q.2
noncomputable def kV:Key->V
 |.inl i=>.int i|.inr x=>.str x
noncomputable def fV (h:Heap)(a:Addr)(c:Array Value):Prop:=∃o,h.get? a=some o/\o.cls = .type "tuple" /\ (∃n,o.data = .seq c n)/\o.dict=none
def fV.t (p:fV I f s):IsTup I f s:=let⟨o,h1,h2,c,_⟩:=p;⟨o,h1,h2,c⟩
def fV.new (h:Heap)(c:Array Value):fV (h.push { cls:=.type "tuple",data:=.seq c }) h.objs.size c:=⟨_,p9 _ rfl,rfl,⟨_,rfl⟩,rfl⟩
inductive HO where
 |lst (xs:List V)
 |tup (xs:List V)
 |dK (eF:List (Key×V))|dT (eF:List (List Key×V))
 |set (S:Int->Bool) (n:Nat)
 |ins (C dx:Addr) (fs:List (Str×V))
 |own (x:Addr)
 |xd (fs:List (Str×V))
 |met (f x:Addr)
 |fS (lo hi:Int)
 |nH (o:Obj) (u:HO)
 |cp (p:Pos) (q:Str)
 |iX (q:Str)
 |ext (φ:Heap->Prop)
noncomputable abbrev Hp:=Addr->Option HO
noncomputable def upd (H:Hp)(a:Addr)(o:HO):Hp:=λb=>if b=a then some o else H b
def aR {H:Hp}{o:HO}:upd H f o f=some o:=by unfold upd;rw[if_pos rfl]
def aD {H:Hp}{o:HO}(h:r≠f):upd H f o r=H r:=by unfold upd;rw[if_neg h]
def rC {H:Hp}{o u:HO}(h:H f=some o)(c:H r=some u)(d:o≠u):f≠r:=by intro e;subst e;rw[h]at c;exact d (DM c)
def aM {H:Hp}{o:HO}(h:H f=some o)(c:H r=none):f≠r:=by intro e;subst e;rw[h]at c;cases c
section
variable (P:uy)(w:World)
noncomputable def dJ (H:Hp)(h:Heap)(a:Addr):HO->Prop
 |.lst g=>g.length<=m6 /\ ∃(r:List Value) (n:Nat),Vals g r/\h.get? a=some { cls:=.type "list",data:=.seq r.toArray n }|.tup g=>g.length<=m6 /\ ∃r:List Value,Vals g r/\fV h a r.toArray|.dK y=>y.length<=m6/\(a == M7)=false /\ ∃I,KV y I/\h.DictOf (fq P w) a I
 |.dT y=>y.length<=m6/\(a == M7)=false /\ ∃g:List (List Key×Addr×Value),
  Paired (λ(p:List Key×V) (q:List Key×Addr×Value)=>p.1=q.1/\H q.2.1=some (.tup (p.1.map kV))/\mI p.2 q.2.2) y g /\
  ∃o J M,h.get? a=some o/\o.ExactDict/\o.data = .dict J M/\J.toList=g.map (entryOfKey (tupleKind (fq P w)))/\(g.map (·.1)).Nodup
 |.set S n=>h.SetOf (Ol P w) a S n
 |.ins C B fs=>H B=some (.own a)/\fs.length<=1000/\B≠a/\h.get? a=some (PySem.W.instObj C B) /\
  ∃i,h.Ns1 B i/\(∀f,LZ (fs.lookup f) (i f))/\PySem.Within i (fs.map (·.1))
 |.own _=>∃o,h.get? a=some o|.xd fs=>∃i,h.Ns1 a i /\ ∀f,LZ (fs.lookup f) (i f)|.fS O Q=>∃t u v,h.get? a=some { cls:=.type "range",data:=.fields #[.int O t,.int Q u,.int 1 v] }|.nH o u=>h.get? a=some o/\dJ H h a u|.cp p q=>∃ps:Array Value,h.get? a=some (Um ps)/\TriplesOk ps.toList/\(codeAmong p ps.toList=none \/ ∃c,codeAmong p ps.toList=some (.ref c)/\H c=some (.iX q))|.iX q=>h.CodeRec (.ref a) q|.met f x=>h.get? a=some (afA (.ref f) (.ref x))|.ext E=>E h/\(∃o,h.get? a=some o) /\ ∀h1 h2:Heap,E h1->(∀o,h1.get? a=some o->h2.get? a=some o)->E h2
noncomputable def eH (H:Hp)(h:Heap):Prop:=∀a o,H a=some o->dJ P w H h a o
end
section
variable {H:Hp}{o:HO}
theorem dJ.lt (x:dJ q l H I f o):f<I.objs.size:=by
 cases o with
 |lst c=>obtain⟨_,_,_,_,e⟩:=x;exact nI e
 |tup c=>obtain⟨_,_,_,p⟩:=x;exact p.t.lt
 |dK g=>obtain⟨_,_,_,_,o,_,_,e,_⟩:=x;exact nI e
 |dT g=>obtain⟨_,_,_,_,o,_,_,e,_⟩:=x;exact nI e
 |set S n=>obtain⟨o,_,_,_,e,_⟩:=x;exact nI e
 |ins C h fs=>obtain⟨_,_,_,e,_⟩:=x;exact nI e
 |own y=>obtain⟨_,e⟩:=x;exact nI e
 |xd fs=>obtain⟨_,⟨_,_,_,e,_⟩,_⟩:=x;exact nI e
 |fS i r=>obtain⟨_,_,_,e⟩:=x;exact nI e
 |nH v u=>obtain⟨e,_⟩:=x;exact nI e
 |cp p P=>obtain⟨_,e,_⟩:=x;exact nI e
 |iX P=>obtain⟨_,_,_,_,b,e,_⟩:=x;cases b;exact nI e
 |met w y=>exact nI (show I.get? f=some _ from x)|ext B=>obtain⟨_,⟨_,e⟩,_⟩:=x;exact nI e
end
theorem Paired.L4 {c d:Type}{F G:c->d->Prop}:∀{l₁:List c} {l₂:List d},Paired F l₁ l₂->(∀a b,F a b->G a b)->Paired G l₁ l₂
 |_,_,.nil,_=>.nil|_,_,.cons r t,f=>.cons (f _ _ r) (Paired.L4 t f)
def dJ.cY {H:Hp}{J:Hp}{o:HO}(x:dJ q l H I f o)(k:∀b u,(b=f\/H b=some (.own f))->I.get? b=some u->X.get? b=some u)(B:∀b,H b=some (.own f)->J b=some (.own f))(E:∀b g,H b=some (.tup g)->J b=some (.tup g))(A:∀b w,H b=some (.iX w)->J b=some (.iX w)):dJ q l J X f o:=by
 induction o with
 |lst g=>obtain⟨z,s,n,r,e⟩:=x;exact⟨z,s,n,r,k _ _ (.inl rfl) e⟩
 |tup g=>obtain⟨z,s,r,i,e,c⟩:=x;exact⟨z,s,r,i,k _ _ (.inl rfl) e,c⟩
 |dK Y=>obtain⟨z,y,M,r,i,P,j,e,c⟩:=x;exact⟨z,y,M,r,i,P,j,k _ _ (.inl rfl) e,c⟩
 |dT Y =>
  obtain⟨z,y,g,r,i,P,j,e,c⟩:=x;exact⟨z,y,g,Paired.L4 r λp w z=>⟨z.1,E _ _ z.2.1,z.2.2⟩,i,P,j,k _ _ (.inl rfl) e,c⟩
 |set S n=>obtain⟨i,P,j,t,e,c⟩:=x;exact⟨i,P,j,t,k _ _ (.inl rfl) e,c⟩
 |ins C dx fs =>
  obtain⟨d,z,ne,e,O,⟨Q,P,j,R,c⟩,r⟩:=x;exact⟨B _ d,z,ne,k _ _ (.inl rfl) e,O,⟨Q,P,j,k _ _ (.inr d) R,c⟩,r⟩
 |own y=>obtain⟨i,e⟩:=x;exact⟨i,k _ _ (.inl rfl) e⟩
 |xd fs=>obtain⟨O,⟨Q,P,j,e,c⟩,r⟩:=x;exact⟨O,⟨Q,P,j,k _ _ (.inl rfl) e,c⟩,r⟩
 |fS lo hi=>obtain⟨t,u,v,e⟩:=x;exact⟨t,u,v,k _ _ (.inl rfl) e⟩
 |nH i u Z=>obtain⟨e,w⟩:=x;exact⟨k _ _ (.inl rfl) e,Z w⟩
 |cp p w=>obtain⟨ps,e,t,r⟩:=x;exact⟨ps,k _ _ (.inl rfl) e,t,r.imp id λ⟨c,U,R⟩=>⟨c,U,A _ _ R⟩⟩
 |iX w=>obtain⟨c,i,M,t,U,e,r⟩:=x;cases U;exact⟨_,i,M,t,rfl,k _ _ (.inl rfl) e,r⟩
 |met h y =>
  have e:I.get? f=some (afA (.ref h) (.ref y)):=x;show X.get? f=some (afA (.ref h) (.ref y));exact k f _ (.inl rfl) e
 |ext φ=>obtain⟨p,⟨o,e⟩,st⟩:=x;exact⟨st _ _ p λo w=>k _ _ (.inl rfl) w,⟨o,k _ _ (.inl rfl) e⟩,st⟩
theorem eH.lt {H:Hp}{o:HO}(x:eH q l H I)(e:H f=some o):f<I.objs.size:=(x f o e).lt
def eH.fresh {H:Hp}(x:eH q l H I)(e:I.objs.size<=f):H f=none:=by
 cases P:H f with
 |none=>rfl|some u=>exact absurd (wi (x.lt P) e) (GW _)
def eH.kept {H:Hp}{h':Heap}(x:eH q l H I)(k:∀b u,I.get? b=some u->h'.get? b=some u):eH q l H h':=λa o e =>
 (x a o e).cY (λb u _ P=>k b u P) (λ_ P=>P) (λ_ _ P=>P) λ_ _ P=>P
def eH.laid {H:Hp}{o:HO}(x:eH q l H I)(k:∀b u,I.get? b=some u->X.get? b=some u)(w:I.objs.size<=f)(new:dJ q l (upd H f o) X f o):eH q l (upd H f o) X:=λb u e=>by
 have d:=x.fresh w;by_cases hb:b=f
 . subst hb;rw[aR]at e;cases e;exact new
 . rw[aD hb]at e
   exact(x b u e).cY (λc v _ P=>k c v P) (λc P=>by rw[aD (aM P d)];exact P) (λc g P=>by rw[aD (aM P d)];exact P) λc g P=>by rw[aD (aM P d)];exact P
noncomputable def Rd (H:Hp)(a:Addr)(u:HO):Prop:=H a=some u \/ ∃o,H a=some (.nH o u)
def Rd.ok {H:Hp}{u:HO}(r:Rd H f u)(x:eH q l H I):dJ q l H I f u:=by
 rcases r with r|⟨o,r⟩
 . exact x f u r
 . obtain⟨_,P⟩:=x f _ r
   exact P
noncomputable def HF:Option HO->Prop
 |some (.lst _)=>True|some (.dK _)=>True|some (.dT _)=>True|some (.set _ _)=>True|some (.ins _ _ _)=>True|some (.ext _)=>True|_=>False
def eH.write {H:Hp}{x:Addr}{e:Addr}{B:HO}(ok:eH q l H I)(n:HF (H x))(o:e=x\/H e=some (.own x))(k:∀b u,b≠e->I.get? b=some u->X.get? b=some u)(p:∃u,X.get? e=some u)(new:dJ q l (upd H x B) X x B):eH q l (upd H x B) X:=λb u w=>by
 have d:∀c y,H c=some (.own y)->c≠x:=λc y r z=>by subst z;rw[r]at n;exact n
 have j:∀c g,H c=some (.tup g)->c≠x:=λc g r z=>by subst z;rw[r]at n;exact n
 have i:∀c w,H c=some (.iX w)->c≠x:=λc g r z=>by subst z;rw[r]at n;exact n
 by_cases hb:b=x
 . subst hb;rw[aR]at w;cases w;exact new
 . rw[aD hb]at w
   by_cases h:b=e
   . have f:H b=some (.own x):=by
       rcases o with z|z
       . exact absurd (h.trans z) hb
       . rw[h];exact z
     rw[w]at f;cases f;obtain⟨v,P⟩:=p;exact⟨v,by rw[h];exact P⟩
   . refine(ok b u w).cY (λc v a r=>k c v ?_ r) (λc r=>by rw[aD (d c b r)];exact r) (λc g r=>by rw[aD (j c g r)];exact r) λc w r=>by rw[aD (i c w r)];exact r
     rcases a with rfl|a
     . exact h
     . rintro rfl
       rcases o with z|z
       . exact d c b a z
       . rw[a]at z;cases z;exact hb rfl
noncomputable def L6:HO->Bool
 |.cp _ _=>true|.iX _=>true|_=>false
structure Un (fs ex:List Addr)(H H':Hp)(h h':Heap):Prop where
 keep:∀b o,h.get? b=some o->H b=none->b ∉ fs->b ∉ ex->h'.get? b=some o
 slot:∀b o,h.get? b=some o->H b=none->b∈fs->b ∉ ex->∃sl,h'.get? b=some { o with slots:=sl }
 free:∀b o,h.get? b=some o->H b=none->b ∉ ex->H' b=none
 there:∀b o,h.get? b=some o->b ∉ ex->∃o',h'.get? b=some o'
 lH:∀b xs,H b=some (.tup xs)->H' b=some (.tup xs)
 km:∀b o u,H b=some (.nH o u)->H' b=some (.nH o u)
 ko:∀b u,L6 u=true->H b=some u->H' b=some u
def Un.any {H:Hp}{c:Hp}(u:Un O U H c I X)(q:I.get? f=some o)(n:H f=none)(d:f ∉ U):∃sl,X.get? f=some { o with slots:=sl }:=by
 by_cases hb:f∈O
 . exact u.slot f o q n hb d
 . exact⟨o.slots,u.keep f o q n hb d⟩
def Un.kept {H:Hp}{h':Heap}(k:∀b u,I.get? b=some u->h'.get? b=some u):Un O U H H I h' :=
 ⟨λb a q _ _ _=>k b a q,λb a q _ _ _=>⟨a.slots,k b a q⟩,λ_ _ _ n _=>n,λb a q _=>⟨a,k b a q⟩,λ_ _ q=>q,λ_ _ _ q=>q,λ_ _ _ q=>q⟩
def Un.refl {H:Hp}:Un O U H H I I:=Un.kept λ_ _ q=>q
def Un.laid {H:Hp}{o:HO}(k:∀b u,I.get? b=some u->X.get? b=some u)(d:I.objs.size<=f)(c:H f=none):Un O U H (upd H f o) I X where
 keep:=λb u q _ _ _=>k b u q
 slot:=λb u q _ _ _=>⟨u.slots,k b u q⟩
 free:=λb u q n _=>by rw[aD (ro (wi (nI q) d))];exact n
 there:=λb u q _=>⟨u,k b u q⟩
 lH:=λb xs q=>by rw[aD (aM q c)];exact q
 km:=λb u xs q=>by rw[aD (aM q c)];exact q
 ko:=λb u _ q=>by rw[aD (aM q c)];exact q
def Un.write {H:Hp}{x:Addr}{e:Addr}{o:HO}(d:HF (H x))(f:e=x\/H e=some (.own x))(k:∀b u,b≠e->I.get? b=some u->X.get? b=some u)(i:∃u,X.get? e=some u):Un O U H (upd H x o) I X:=by
 have a:∀b,H b=none->b≠x:=λb n z=>by subst z;rw[n]at d;exact d
 have c:∀b,H b=none->b≠e:=λb n z=>by
   subst z;rcases f with r|r
   . exact a b n r
   . rw[n]at r;cases r
 have hm:∀b u,H b=some u->¬HF (some u)->b≠x:=λb u q nm z=>by subst z;rw[q]at d;exact nm d
 refine⟨λb u q n _ _=>k b u (c b n) q,λb u q n _ _=>⟨u.slots,k b u (c b n) q⟩,λb u q n _=>by rw[aD (a b n)];exact n,λb u q _=>?_,
   λb h q=>by rw[aD (hm b _ q λz=>z)];exact q,λb u h q=>by rw[aD (hm b _ q λz=>z)];exact q,λb v t q=>by rw[aD (hm b _ q λz=>by cases v<;>first|exact z|cases t)];exact q⟩
 by_cases g:b=e
 . subst g;exact i
 . exact⟨u,k b u g q⟩
noncomputable def kX (h:Heap)(H:Hp):List Addr:=(r6 h.objs.size).filter λa=>(H a).isSome
noncomputable def mP (h:Heap)(H:Hp):Heap:=PySem.W.hideAll h (kX h H)
def Cr (h:Heap)(H:Hp):(mP h H).objs.size=h.objs.size:=PySem.W.hideAll_size _ _
def Fw {H:Hp}(e:I.get? f=some o)(n:H f=none):(mP I H).get? f=some o :=
 PySem.W.hideAll_get _ e λhm=>by have q:(H f).isSome=true:=(EZ.mp hm).2;rw[n]at q;simp at q
def Ju {H:Hp}(e:(mP I H).get? f=some o):I.get? f=some o/\H f=none:=by
 have a:I.get? f=some o:=PySem.W.of_hideAll (kX I H) e;refine⟨a,?_⟩;cases q:H f with
 |none=>rfl
 |some x =>
  have hm:f∈kX I H:=EZ.mpr ⟨aed.mpr (nI a),by simp[q]⟩;have z:(mP I H).get? f=none:=PySem.W.hideAll_none (kX I H) hm;rw[z]at e;cases e
noncomputable def Jv (g h:Heap)(L:Addr):List (Addr×Obj):=(r6 h.objs.size).filterMap λa=>if a=L\/(g.get? a).isSome=true then none else(h.get? a).map λo=>(a,o)
noncomputable def rest (g h:Heap)(L d:Addr):List (Addr×Obj):=(Jv g h L).filter λp=>decide (p.1≠d)
structure bab (K:oi)(mg:Str->Option Value)(base:Heap):Prop where
 rD:K.In base
 glob:base.Ns tA mg
 blt:∃mb,base.Ns afJ mb /\ ∀x:Str,x ≠ "__name__"->mb x=L0 x
 nolimit:base.NoLimit
 bm:∃bm ob,BMod base tA mg bm ob
structure d7 where
 ar:TH
 bd:Expr
 sc:Scope
 qual:Str
 fv:List Str
 ps:List Str
structure Lx where
 tb:List (Addr×Pos×Str)
 lm:Str->Option d7
structure Cx where
 prog:uy
 w:World
 K:oi
 mg:Str->Option Value
 base:Heap
 A:qc
 N:List Str
 s₀:my
 H₀:Hp
 env:Env
 outer:List Env
 stack:List Env
 ex:List Addr
 fn:Str->Bool
 calm:Bool
 pn:List (Addr×Obj)
 xe:Value->my->Prop
 lx:Lx
noncomputable def kY (l:List Env):List Addr:=l.filterMap (·.frame)
noncomputable abbrev Cx.fs (X:Cx):List Addr:=kY X.outer
noncomputable def Ct (sc:Scope)(x:Str):Prop:=sc.names.lookup x=some .local\/sc.names.lookup x=some .cell\/sc.names.lookup x=some .free
noncomputable def EB (sc:Scope)(x:Str):Prop:=sc.names.lookup x=some .local\/sc.names.lookup x=some .cell
noncomputable def bae (env:Env)(h:Heap)(m:Str->Option Value)(x:Str)(u:Value):Prop :=
 (env.kindOf x=some .local/\m x=some u)\/((env.kindOf x=some .cell\/env.kindOf x=some .free) /\ ∃c,env.cells.lookup x=some c/\h.IsCell c (some u))
structure Cx.Ok (X:Cx):Prop where
 mod:bab X.K X.mg X.base
 kind:X.env.scope.kind = .function
 glob:X.env.globals=tA
 blt:X.env.builtins=afJ
 above:X.s₀.heap.objs.size<=X.env.locals
 inj:∀x y c,X.env.cells.lookup x=some c->X.env.cells.lookup y=some c->x=y
 has:∀x,(X.env.kindOf x=some .cell\/X.env.kindOf x=some .free)->∃c,X.env.cells.lookup x=some c
 yO:∀x c,X.fn x=true->X.env.cells.lookup x=some c->X.s₀.heap.objs.size<=c
 hd:X.calm=true->X.A.handled=none
 frames:X.A.frames=some X.stack
 vV:X.stack=X.outer\/(X.stack=X.env::X.outer/\X.env.frame=some X.env.locals)
 L7:∀b∈X.ex,b≠X.env.locals /\ ∀x c,X.env.cells.lookup x=some c->c≠b
 bs:∀b o,X.base.get? b=some o->X.s₀.heap.get? b=some o/\X.H₀ b=none
 n_:X.base.objs.size<=X.s₀.heap.objs.size
 qy:∀b o,X.base.get? b=some o->b ∉ X.ex
 vW:∀b∈X.ex,b ∉ X.fs
 iE:X.s₀.heap.FunFrames X.base X.outer
 rE:∀b∈X.fs,X.H₀ b=none
structure mn (X:Cx)(cv:List (Addr×Obj))(σ:List (Option V))(H:Hp)(s:my):Prop where
 ok:X.Ok
 os:s.os=X.s₀.os
 bare:SW s.gens
 base:Un X.fs X.ex X.H₀ H X.s₀.heap s.heap
 loc:∃m,s.heap.Ns X.env.locals m /\ ∀(i:Nat) (x:Str) (v:V),X.N[i]? = some x->σ[i]? = some (some v)->Ct X.env.scope x->∃u,mI v u/\bae X.env s.heap m x u
 cell:∀x c,X.env.cells.lookup x=some c->∃v,s.heap.IsCell c v
 free:H X.env.locals=none
 hJ:∀x c,X.env.cells.lookup x=some c->H c=none
 pin:∀p∈X.pn++cv,s.heap.get? p.1=some p.2/\H p.1=none/\p.1≠X.env.locals/\p.1 ∉ X.fs /\ ∀v,p.2.data ≠ .cell v
 aW:eH X.prog X.w H s.heap
 len:σ.length=X.N.length
def Cx.Ok.Vv {X:Cx}(ok:X.Ok)(e:X.base.get? f=some o):f ∉ X.fs:=λa=>by have:=(ok.iE.mem a).1;rw[e]at this;cases this
theorem mn.bs {X:Cx}{g:List (Option V)}{H:Hp}(I:mn X cv g H c):∀b o,X.base.get? b=some o->c.heap.get? b=some o/\H b=none:=λb o e =>
 ⟨I.base.keep b o (I.ok.bs b o e).1 (I.ok.bs b o e).2 (I.ok.Vv e) (I.ok.qy b o e),I.base.free b o (I.ok.bs b o e).1 (I.ok.bs b o e).2 (I.ok.qy b o e)⟩
def mn.bk {X:Cx}{g:List (Option V)}{H:Hp}(I:mn X cv g H c):∀b o,X.base.get? b=some o->c.heap.get? b=some o:=λb o e=>(I.bs b o e).1
theorem mn.mod {X:Cx}{g:List (Option V)}{H:Hp}(I:mn X cv g H c):bab X.K X.mg X.base:=I.ok.mod
def mn.gO {X:Cx}{g:List (Option V)}{H:Hp}(I:mn X cv g H c):X.K.In c.heap:=I.ok.mod.rD.keeps I.bk
theorem mn.lt {X:Cx}{g:List (Option V)}{H:Hp}(I:mn X cv g H c):X.env.locals<c.heap.objs.size:=let⟨_,h,_⟩:=I.loc;h.lt
def mn.sz {X:Cx}{g:List (Option V)}{H:Hp}(I:mn X cv g H c):X.s₀.heap.objs.size<=c.heap.objs.size:=rK I.ok.above (Vd I.lt)
def mn.Vw {X:Cx}{g:List (Option V)}{H:Hp}(I:mn X cv g H c)(h:c.heap.objs.size<=f):f ∉ X.fs:=λa=>by obtain⟨_,o,b,_⟩:=I.ok.iE.mem a;exact absurd (wi (nI b) (rK I.sz h)) (GW _)
def mn.ug {X:Cx}{g:List (Option V)}{H:Hp}(I:mn X cv g H c):∀x s,X.env.cells.lookup x=some s->s≠X.env.locals:=λx s e z=>by obtain⟨v,o,a,hd⟩:=I.cell x s e;obtain⟨m,⟨i,f,h,b,d,_⟩,_⟩:=I.loc;rw[z,b]at a;cases a;rw[d]at hd;cases hd
theorem mn.iE {X:Cx}{g:List (Option V)}{H:Hp}(I:mn X cv g H c):c.heap.FunFrames X.base X.outer:=by
 have all:∀(l:List Env),(∀b∈kY l,b∈X.fs)->X.s₀.heap.FunFrames X.base l->c.heap.FunFrames X.base l:=by
  intro l;induction l with
  |nil=>intro _ _;trivial
  |cons env r q =>
   intro d n;obtain⟨i,⟨L,o,hf,f,j,hd⟩,h⟩:=n;have a:L∈X.fs:=d L (by unfold kY;rw[H0,hf];exact sv);obtain⟨p,e⟩:=I.base.slot L o j (I.ok.rE L a) a λz=>I.ok.vW L z a;exact⟨i,⟨L,_,hf,f,e,hd⟩,q (λb s=>d b (by unfold kY;rw[H0,hf];exact p8 _ s)) h⟩
 exact all X.outer (λ_ s=>s) I.ok.iE
theorem mn.stack {X:Cx}{g:List (Option V)}{H:Hp}(I:mn X cv g H c):c.heap.FunFrames X.base X.stack:=by
 rcases I.ok.vV with e|⟨e,hf⟩
 . rw[e];exact I.iE
 . rw[e]
   obtain⟨m,a,_⟩:=I.loc;refine .cons (by rw[I.ok.kind];decide) hf a ?_ I.iE;exact Heap.get?_none_of_le (rK I.ok.n_ I.ok.above)
def mn.rF {X:Cx}{g:List (Option V)}{H:Hp}(I:mn X cv g H c):∀b∈kY X.stack,b∈X.env.locals::X.fs:=λb a=>by
 rcases I.ok.vV with e|⟨e,hf⟩
 . rw[e]at a;exact p8 _ a
 . rw[e]at a
   unfold kY at a;rw[H0,hf]at a;exact a
def mn.yP {X:Cx}{g:List (Option V)}{H:Hp}(I:mn X cv g H c):∀b∈kY X.stack,H b=none:=λb a=>by
 rcases nF.mp (I.rF b a)with e|a
 . rw[e];exact I.free
 . obtain⟨_,o,s,_⟩:=I.ok.iE.mem a
   exact I.base.free b o s (I.ok.rE b a) λz=>I.ok.vW b z a
def mn.step {X:Cx}{σ:List (Option V)}{H:Hp}{R:Hp}{g':Array afV}{d':Drawn}{ch:List Addr}(O:mn X cv σ H c)(E:∀b∈ch,(b∈X.ex\/X.s₀.heap.objs.size<=b)/\b≠X.env.locals/\(∀x g,X.env.cells.lookup x=some g->g≠b) /\ ∀p∈X.pn++cv,p.1≠b)(B:∀b o,b≠X.env.locals->b ∉ X.fs->b ∉ ch->c.heap.get? b=some o->H b=none->I.get? b=some o)(slot:∀b o,b≠X.env.locals->b∈X.fs->b ∉ ch->c.heap.get? b=some o->H b=none->∃sl,I.get? b=some { o with slots:=sl })(A:∀b o,b ∉ ch->c.heap.get? b=some o->H b=none->R b=none)(C:∀b o,b ∉ ch->c.heap.get? b=some o->∃U,I.get? b=some U)(K:∀b Q,H b=some (.tup Q)->R b=some (.tup Q))(L:∀b o u,H b=some (.nH o u)->R b=some (.nH o u))(M:∀b u,L6 u=true->H b=some u->R b=some u)(ns:∀m,c.heap.Ns X.env.locals m->I.Ns X.env.locals m)(J:eH X.prog X.w R I)(N:SW g'):
   mn X cv σ R { c with heap:=I,gens:=g',drawn:=d',toks:=n }:=by
 have To:∀b o,X.s₀.heap.get? b=some o->b≠X.env.locals:=λb o e=>ro (wi (nI e) O.ok.above);have Y:∀b o,X.s₀.heap.get? b=some o->b ∉ X.ex->b ∉ ch:=λb o e a h=>by
   rcases (E b h).1 with z|z
   . exact a z
   . exact absurd (wi (nI e) z) (GW _)
 have cellK:∀x g,X.env.cells.lookup x=some g->∀v,c.heap.IsCell g v->I.IsCell g v:=λx g e v ⟨o,j,hd⟩=>by
   have y:g ∉ ch:=λz=>(E g z).2.2.1 x g e rfl;by_cases hc:g∈X.fs
   . obtain⟨sl,q⟩:=slot g o (O.ug x g e) hc y j (O.hJ x g e)
     exact⟨_,q,hd⟩
   . exact⟨o,B g o (O.ug x g e) hc y j (O.hJ x g e),hd⟩
 refine⟨O.ok,O.os,N,⟨λb o e s h a=>?_,λb o e s h a=>?_,λb o e s a=>?_,λb o e a=>?_,λb Q e=>K b Q (O.base.lH b Q e),λb o Q e=>L b o Q (O.base.km b o Q e),λb u t e=>M b u t (O.base.ko b u t e)⟩,?_,λx g e=>?_,?_,λx g e=>?_,λp hp=>?_,J,O.len⟩
 . exact B b o (To b o e) h (Y b o e a) (O.base.keep b o e s h a) (O.base.free b o e s a)
 . obtain⟨sl,f⟩:=O.base.slot b o e s h a
   obtain⟨oa,Z⟩:=slot b _ (To b o e) h (Y b o e a) f (O.base.free b o e s a);exact⟨oa,Z⟩
 . obtain⟨U,f⟩:=O.base.there b o e a
   exact A b U (Y b o e a) f (O.base.free b o e s a)
 . obtain⟨U,f⟩:=O.base.there b o e a
   exact C b U (Y b o e a) f
 . obtain⟨m,hn,hl⟩:=O.loc
   refine⟨m,ns m hn,λi x v f Z e3=>?_⟩;obtain⟨u,r,l⟩:=hl i x v f Z e3;refine⟨u,r,?_⟩;rcases l with l|⟨k,g,e,z⟩
   . exact .inl l
   . exact .inr ⟨k,g,e,cellK x g e _ z⟩
 . obtain⟨v,z⟩:=O.cell x g e
   exact⟨v,cellK x g e v z⟩
 . obtain⟨m,⟨o,_,_,j,_⟩,_⟩:=O.loc
   exact A _ o (λz=>(E _ z).2.1 rfl) j O.free
 . obtain⟨v,o,j,hd⟩:=O.cell x g e
   exact A g o (λz=>(E g z).2.2.1 x g e rfl) j (O.hJ x g e)
 . obtain⟨e,s,ne,nf,d⟩:=O.pin p hp
   have y:p.1 ∉ ch:=λz=>(E p.1 z).2.2.2 p hp rfl;exact⟨B p.1 p.2 ne nf y e s,A p.1 p.2 y e s,ne,nf,d⟩
def mn.un {X:Cx}{B:List (Option V)}{H:Hp}{g:Hp}{h':Heap}{t':Nat}(I:mn X cv B H c)(u:Un X.fs [] H g c.heap h')(y:eH X.prog X.w g h'):mn X cv B g { c with heap:=h',toks:=t' }:=by
 obtain⟨m,⟨o,v,q,s,r⟩,_⟩:=id I.loc;obtain⟨p,j⟩:=u.any s I.free (by simp);exact I.step (g':=c.gens) (d':=c.drawn) (ch:=[]) (λ_ z=>nomatch z) (λb o _ a _ e n=>u.keep b o e n a (by simp)) (λb o _ a _ e n=>u.slot b o e n a (by simp)) (λb o _ e n=>u.free b o e n (by simp)) (λb o _ e=>u.there b o e (by simp)) u.lH u.km u.ko (λl hm=>by obtain⟨x,f,h,d,i⟩:=hm;rw[s]at d;cases d;exact⟨_,f,h,j,i⟩) y I.bare
def mn.call {X:Cx}{E:List (Option V)}{H:Hp}{g:Hp}{h':Heap}{g':Array afV}{t':Nat}{d':Drawn}{ch:List Addr}(I:mn X cv E H c)(u:Un (kY X.stack) ch H g c.heap h')(B:eH X.prog X.w g h')(C:SW g')(A:∀b∈ch,(b∈X.ex\/X.s₀.heap.objs.size<=b)/\b≠X.env.locals/\(∀x s,X.env.cells.lookup x=some s->s≠b) /\ ∀p∈X.pn++cv,p.1≠b):
  mn X cv E g { c with heap:=h',gens:=g',drawn:=d',toks:=t' }:=by
 obtain⟨m,⟨o,J,M,f,r⟩,_⟩:=id I.loc;obtain⟨y,d⟩:=u.any f I.free λz=>(A _ z).2.1 rfl;exact I.step (ch:=ch) A (λb o d q a e n=>u.keep b o e n (λz=>(nF.mp (I.rF b z)).elim d q) a) (λb o _ _ a e n=>u.any e n a) (λb o a e n=>u.free b o e n a) (λb o a e=>u.there b o e a) u.lH u.km u.ko (λv hm=>by obtain⟨O,i,j,h,l⟩:=hm;rw[f]at h;cases h;exact⟨_,i,j,d,l⟩) B C
def mn.turned {X:Cx}{g:List (Option V)}{H:Hp}{t':Nat}(s:mn X cv g H c)(k:∀b o,b≠f->c.heap.get? b=some o->I.get? b=some o)(C:H f=none)(l:f≠X.env.locals)(B:f∈X.ex\/X.s₀.heap.objs.size<=f)(y:∀x it,X.env.cells.lookup x=some it->it≠f)(A:∀p∈X.pn++cv,p.1≠f):mn X cv g H { c with heap:=I,toks:=t' }:=by
 have d:∀b u,H b=some u->b≠f:=λb u e z=>by rw[z,C]at e;cases e
 refine s.step (g':=c.gens) (d':=c.drawn) (ch:=[f]) (λb j=>?_) (λb o _ _ a e _=>k b o (λz=>a (by simp[z])) e) (λb o _ _ a e _=>⟨o.slots,k b o (λz=>a (by simp[z])) e⟩) (λ_ _ _ _ n=>n)
   (λb o a e=>⟨o,k b o (λz=>a (by simp[z])) e⟩) (λ_ _ e=>e) (λ_ _ _ e=>e) (λ_ _ _ e=>e) (λm hm=>?_) (λb u e=>?_) s.bare
 . have e:b=f:=by simpa using j
   subst e;exact⟨B,l,y,A⟩
 . obtain⟨o,h,E,i,r⟩:=hm
   exact⟨o,h,E,k _ o (n7 l) i,r⟩
 . refine(s.aW b u e).cY (λit v a q=>k it v ?_ q) (λ_ q=>q) (λ_ _ q=>q) λ_ _ q=>q
   rcases a with z|z
   . rw[z];exact d b u e
   . exact d it _ z
def mn.tok {X:Cx}{g:List (Option V)}{H:Hp}(I:mn X cv g H c)(t:Nat):mn X cv g H { c with toks:=t }:=I.un (h':=c.heap) (t':=t) Un.refl I.aW
theorem mn.kept {X:Cx}{g:List (Option V)}{H:Hp}{h':Heap}{t':Nat}(I:mn X cv g H c)(k:∀b u,c.heap.get? b=some u->h'.get? b=some u):mn X cv g H { c with heap:=h',toks:=t' }:=I.un (Un.kept k) (I.aW.kept k)
theorem mn.laid {X:Cx}{g:List (Option V)}{H:Hp}{o:HO}{t':Nat}(s:mn X cv g H c)(k:∀b u,c.heap.get? b=some u->I.get? b=some u)(a:c.heap.objs.size<=f)(new:dJ X.prog X.w (upd H f o) I f o):
 mn X cv g (upd H f o) { c with heap:=I,toks:=t' }:=s.un (Un.laid k a (s.aW.fresh a)) (s.aW.laid k a new)
theorem mn.write {X:Cx}{g:List (Option V)}{H:Hp}{x e:Addr}{o:HO}{t':Nat}(h:mn X cv g H c)(s:HF (H x))(d:e=x\/H e=some (.own x))(k:∀b u,b≠e->c.heap.get? b=some u->I.get? b=some u)(a:∃u,I.get? e=some u)(new:dJ X.prog X.w (upd H x o) I x o):mn X cv g (upd H x o) { c with heap:=I,toks:=t' }:=h.un (Un.write s d k a) (h.aW.write s d k a new)
def mn.yQ {X:Cx}{g:List (Option V)}{H:Hp}(I:mn X cv g H c)(h:∀p∈b,c.heap.get? p.1=some p.2/\H p.1=none/\p.1≠X.env.locals/\p.1 ∉ X.fs /\ ∀v,p.2.data ≠ .cell v):mn X b g H c :=
 ⟨I.ok,I.os,I.bare,I.base,I.loc,I.cell,I.free,I.hJ,λp a=>(nQ.mp a).elim (λz=>I.pin p (ade _ z)) (h p),I.aW,I.len⟩
def vX (h:K.Nodup)(a:K[n]? = some x)(b:K[p]? = some x):n=p:=by obtain⟨f,d⟩:=mT.mp a;obtain⟨e,c⟩:=mT.mp b;exact(afW h).mp (d.trans c.symm)
def uh {X:Cx}{Z:List (Option V)}{H:Hp}{Q:Model}{v:V}(I:mn X cv Z H c)(J:X.N.Nodup)(C:X.N[n]? = some x)(B:EB X.env.scope x)(r:mI v T)(h:∀s',mn X cv (Z.set n (some v)) H s'->(∃a,M9 a c.heap s'.heap/\(a=X.env.locals\/X.env.cells.lookup x=some a))->z () s')(K:X.fn x=true\/X.env.scope.names.lookup x=some .local):wpAny Q M (storeName X.env x T) z E c:=by
 obtain⟨m,hn,hl⟩:=id I.loc;have Vx:(X.env.scope.kind == .class||(X.env.scope.kind == .module&&X.env.locals != X.env.globals))=false:=by rw[I.ok.kind];rfl
 have ab:n < Z.length:=by rw[I.len];exact(mT.mp C).1
 have ug:=I.ug;have tracked:∀{a:Addr} {R:Heap},(∃o,c.heap.get? a=some o/\H a=none)->M9 a c.heap R->eH X.prog X.w H R:=fun {a R} ha f b ob e=>by
   obtain⟨_,_,rG⟩:=ha;refine(I.aW b ob e).cY (λi U hc q=>(f.2 i ?_).trans q) (λ_ q=>q) (λ_ _ q=>q) λ_ _ q=>q;rintro rfl;rcases hc with rfl|hc
   . rw[rG]at e;cases e
   . rw[rG]at hc;cases hc
 rcases B with hk|hk
 . refine wpAny_storeName_local hk hn (λR YU f=>?_) Vx
   obtain⟨oL,_,_,Cw,_⟩:=id hn;refine h _ ⟨I.ok,I.os,I.bare,⟨λb o e u hb B=>?_,λb o e u hb B=>?_,I.base.free,λb o e B=>?_,I.base.lH,I.base.km,I.base.ko⟩,⟨_,YU,λj y v' l g e3=>?_⟩,λy i e=>?_,I.free,I.hJ,λp hp=>?_,tracked ⟨oL,Cw,I.free⟩ f,by simpa using I.len⟩ ⟨_,f,.inl rfl⟩
   . exact(f.2 b (ro (wi (nI e) I.ok.above))).trans (I.base.keep b o e u hb B)
   . obtain⟨sl,l⟩:=I.base.slot b o e u hb B
     exact⟨sl,(f.2 b (ro (wi (nI e) I.ok.above))).trans l⟩
   . obtain⟨o',l⟩:=I.base.there b o e B
     exact⟨o',(f.2 b (ro (wi (nI e) I.ok.above))).trans l⟩
   . by_cases O:j=n
     . subst O
       rw[C]at l;cases l;rw[t7 ab]at g;cases g;exact⟨T,r,.inl ⟨hk,by simp⟩⟩
     . rw[p7 (n7 O)]at g
       obtain⟨u',r',q⟩:=hl j y v' l g e3;refine⟨u',r',?_⟩;rcases q with⟨k,e⟩|⟨k,i,e,A⟩
       . refine .inl ⟨k,?_⟩
         have:y≠x:=λe=>O (vX J l (e ▸ C));simp[this,e]
       . exact .inr ⟨k,i,e,A.sameBut f (ug y i e)⟩
   . obtain⟨U,A⟩:=I.cell y i e
     exact⟨U,A.sameBut f (ug y i e)⟩
   . obtain⟨e,u,ne,nf,d⟩:=I.pin p hp
     exact⟨(f.2 p.1 ne).trans e,u,ne,nf,d⟩
 . have p_:X.fn x=true:=by
     rcases K with A|A
     . exact A
     . rw[A]at hk;cases hk
   obtain⟨i,hc⟩:=I.ok.has x (.inl hk);obtain⟨U,A⟩:=I.cell x i hc;refine wpAny_storeName_cell I.ok.kind hk hc A (λR ui f=>?_);obtain⟨oc,Tp,Vy⟩:=id A;refine h { c with heap:=R } ⟨I.ok,I.os,I.bare,⟨λb o e u hb B=>?_,λb o e u hb B=>?_,I.base.free,λb o e B=>?_,I.base.lH,I.base.km,I.base.ko⟩,⟨m,hn.sameBut f (n7 (ug x i hc)),λj y v' l g e3=>?_⟩,λy Y e=>?_,I.free,I.hJ,λp hp=>?_,tracked ⟨oc,Tp,I.hJ x i hc⟩ f,by simpa using I.len⟩ ⟨i,f,.inr hc⟩
   . exact(f.2 b (ro (wi (nI e) (I.ok.yO x i p_ hc)))).trans (I.base.keep b o e u hb B)
   . obtain⟨sl,l⟩:=I.base.slot b o e u hb B
     exact⟨sl,(f.2 b (ro (wi (nI e) (I.ok.yO x i p_ hc)))).trans l⟩
   . obtain⟨o',l⟩:=I.base.there b o e B
     exact⟨o',(f.2 b (ro (wi (nI e) (I.ok.yO x i p_ hc)))).trans l⟩
   . by_cases O:j=n
     . subst O
       rw[C]at l;cases l;rw[t7 ab]at g;cases g;exact⟨T,r,.inr ⟨.inl hk,i,hc,ui⟩⟩
     . rw[p7 (n7 O)]at g
       obtain⟨u',r',q⟩:=hl j y v' l g e3;refine⟨u',r',?_⟩;rcases q with q|⟨k,Y,e,z'⟩
       . exact .inl q
       . refine .inr ⟨k,Y,e,z'.sameBut f ?_⟩
         rintro rfl;exact O (vX J l (I.ok.inj _ _ _ e hc ▸ C))
   . by_cases Tq:Y=i
     . subst Tq;exact⟨_,ui⟩
     . obtain⟨w2,z2⟩:=I.cell y Y e
       exact⟨w2,z2.sameBut f Tq⟩
   . obtain⟨e,u,ne,nf,d⟩:=I.pin p hp
     refine⟨(f.2 p.1 ?_).trans e,u,ne,nf,d⟩;intro q;rw[q,Tp]at e;have q':oc=p.2:=DM e;exact d U (by rw[<- q'];exact Vy)
def fW {X:Cx}{p:List (Option V)}{H:Hp}{i:V}(I:mn X cv p H c)(b:X.N.Nodup)(A:X.N[n]? = some x)(e:EB X.env.scope x)(r:mI i T)(h:∀g,mn X cv (p.set n (some i)) H g->z () g)(d:X.fn x=true\/X.env.scope.names.lookup x=some .local):wpAny v M (storeName X.env x T) z E c :=
 uh I b A e r (λg a _=>h g a) d
def mn.Q6 {X:Cx}{n:List (Option V)}{H:Hp}{g:Hp}{ch:List Addr}(I:mn X cv n H h)(j:c.os=h.os)(u:Un (kY X.stack) ch H g h.heap c.heap)(f:eH X.prog X.w g c.heap)(i:SW c.gens)(q:∀b∈ch,(b∈X.ex\/X.s₀.heap.objs.size<=b)/\b≠X.env.locals/\(∀x s,X.env.cells.lookup x=some s->s≠b) /\ ∀p∈X.pn++cv,p.1≠b):mn X cv n g c:=by
 obtain⟨d,g',d',t',a⟩:=c;have e:a=h.os:=j;subst e;exact I.call (g':=g') (t':=t') (d':=d') u f i q
noncomputable abbrev XK:=Value->Option Addr->Hp->Prop
noncomputable abbrev mO:=List (Option V)
noncomputable abbrev VK:=V->Hp->Prop
noncomputable abbrev TE:=mO->Hp->VK->Prop
noncomputable abbrev TT:=mO->Hp->(Bool->Hp->Prop)->Prop
noncomputable abbrev TA:=mO->Hp->(List V->Hp->Prop)->Prop
structure Ends where
 nx:mO->Hp->Prop
 rt:VK
 bk:mO->Hp->Prop:=λ_ _=>False
 ct:mO->Hp->Prop:=λ_ _=>False
noncomputable abbrev TS:=Ends->mO->Hp->Prop
noncomputable def EP (X:Cx)(cv:List (Addr×Obj))(g:mO)(Q:VK)(u:Value)(a:my):Prop:=∃v c,mn X cv g c a/\mI v u/\Q v c
noncomputable def TP (X:Cx)(cv:List (Addr×Obj))(g:mO)(Q:Bool->Hp->Prop)(b:Bool)(a:my):Prop:=∃c,mn X cv g c a/\Q b c
noncomputable def AP (X:Cx)(cv:List (Addr×Obj))(h:mO)(Q:List V->Hp->Prop)(i:List Value)(a:my):Prop:=∃c g,mn X cv h g a/\Vals c i/\Q c g
noncomputable def SP (X:Cx)(cv:List (Addr×Obj))(D:Ends)(f:Flow)(a:my):Prop :=
 match f with
 |.next=>∃c g,mn X cv c g a/\D.nx c g|.brk=>∃c g,mn X cv c g a/\D.bk c g|.cont=>∃c g,mn X cv c g a/\D.ct c g|.ret u=>∃v c g,mn X cv c g a/\mI v u/\D.rt v g
noncomputable def PE (X:Cx)(e:Expr)(t:TE):Prop :=
 ∀(cv:List (Addr×Obj)) (s:my) (c:mO) (H:Hp) (Q:VK),mn X cv c H s->t c H Q->wpAny (model X.prog X.w) X.A (eval e X.env) (EP X cv c Q) X.xe s
noncomputable def PT (X:Cx)(e:Expr)(t:TT):Prop :=
 ∀(cv:List (Addr×Obj)) (s:my) (c:mO) (H:Hp) (Q:Bool->Hp->Prop),mn X cv c H s->t c H Q->wpAny (model X.prog X.w) X.A (isTrue e X.env (eval e X.env)) (TP X cv c Q) X.xe s
noncomputable def PW (X:Cx)(e:Expr)(t:TT):Prop :=
 ∀(whole:Sem Value) (cv:List (Addr×Obj)) (s:my) (c:mO) (H:Hp) (Q:Bool->Hp->Prop),mn X cv c H s->t c H Q->wpAny (model X.prog X.w) X.A (isTrue e X.env whole) (TP X cv c Q) X.xe s
def PW.pt {X:Cx}{t:TT}(h:PW X e t):PT X e t:=h _
noncomputable def PA (X:Cx)(g:List Expr)(t:TA):Prop :=
 ∀(pos:Pos) (cv:List (Addr×Obj)) (s:my) (c:mO) (H:Hp) (Q:List V->Hp->Prop),mn X cv c H s->t c H Q->wpAny (model X.prog X.w) X.A (spliced (v3 pos (ni g X.env))) (AP X cv c Q) X.xe s
noncomputable def PS (X:Cx)(a:Stmt)(t:TS):Prop :=
 ∀(cv:List (Addr×Obj)) (s:my) (c:mO) (H:Hp) (D:Ends),mn X cv c H s->t D c H->wpAny (model X.prog X.w) X.A (exec a X.env) (SP X cv D) X.xe s
noncomputable def iF (X:Cx)(a:List Stmt)(t:TS):Prop :=
 ∀(cv:List (Addr×Obj)) (s:my) (c:mO) (H:Hp) (D:Ends),mn X cv c H s->t D c H->wpAny (model X.prog X.w) X.A (execs a X.env) (SP X cv D) X.xe s
def aV {A:Type}{t:Sem A}{Q b:A->my->Prop}(h:wpAny v M t Q E c)(d:∀a c,Q a c->b a c):wpAny v M t b E c:=Zc h d λ_ _ x=>x
noncomputable def Vz (i:Nat):TE:=λc H Q=>∃v,c[i]? = some (some v)/\Q v H
noncomputable def tC (v:V):TE:=λ_ H Q=>Q v H
def L9 {X:Cx}(i:X.N[n]? = some x)(o:Ct X.env.scope x)(d:(x == ("__debug__":Str))=false)(f:(x == ("__classdict__":Str))=false):PE X (.Name x j) (Vz n):=by
 intro cv s g H Q I h;obtain⟨v,e,h⟩:=h;obtain⟨m,b,a⟩:=I.loc;obtain⟨u,r,l⟩:=a n x v i e o;have fin:EP X cv g Q u s:=⟨v,H,I,r,h⟩
 rcases l with⟨hk,hm⟩|⟨hk,c,hc,gm⟩
 . exact Z5 (aeN I.ok.kind hk b hm fin) d
 . rcases hk with hk|hk
   . exact Z5 (aeZ I.ok.kind hk hc gm fin) d
   . exact Z5 (agV I.ok.kind hk hc gm fin f) d
def L_ {X:Cx}{i j a}:PE X (.Constant (.int i) j a) (tC (.int i)):=λ_ _ _ H _ I h=>wpAny_Constant_int ⟨.int i,H,I.tok _,⟨_,rfl⟩,h⟩
def Q7 {X:Cx}{b j a}:PE X (.Constant (.bool b) j a) (tC (.bl b)):=λ_ _ _ H _ I h=>Constant_bool ⟨.bl b,H,I,rfl,h⟩
def Ma {X:Cx}{j a}:PE X (.Constant .none j a) (tC .aA):=λ_ _ _ H _ I h=>Constant_none ⟨.aA,H,I,rfl,h⟩
def Mb {X:Cx}{x j a}:PE X (.Constant (.str x) j a) (tC (.str x)):=λ_ _ _ H _ I h=>ag6 ⟨.str x,H,I.tok _,⟨_,rfl⟩,h⟩
noncomputable def Gl (X:Cx)(x:Str):Prop:=X.env.kindOf x=some .globalImplicit
def pq {X:Cx}{g:mO}{H:Hp}(I:mn X cv g H c)(d:Gl X x)(b:X.mg x=some T)(h:Q T c)(s:(x == ("__debug__":Str))=false):wpAny (model X.prog X.w) X.A (eval (.Name x j) X.env) Q E c :=
 afs I.ok.kind d (Calls.loadGlobal_global (by rw[I.ok.glob];exact I.mod.glob.keeps I.bk) b h) s
def iG {X:Cx}{g:mO}{H:Hp}{u:Value}(I:mn X cv g H c)(i:Gl X x)(e:X.mg x=none)(s:L0 x=some u)(h:Q u c)(l:x ≠ "__name__")(f:(x == ("__debug__":Str))=false):wpAny (model X.prog X.w) X.A (eval (.Name x j) X.env) Q E c:=by
 obtain⟨d,a,b⟩:=I.mod.blt;exact afs I.ok.kind i (Calls.loadGlobal_builtin (by rw[I.ok.glob];exact I.mod.glob.keeps I.bk) e (by rw[I.ok.blt];exact a.keeps I.bk) ((b x l).trans s) h) f
def td {X:Cx}{v:V}(d:Gl X x)(b:X.mg x=some T)(r:mI v T)(c:(x == ("__debug__":Str))=false):PE X (.Name x j) (tC v):=
 λ_ _ _ H _ I h=>pq I d b ⟨v,H,I,r,h⟩ c
def Jw {X:Cx}{v:V}(d:Gl X x)(b:X.mg x=none)(e:L0 x=some T)(r:mI v T)(f:x ≠ "__name__")(c:(x == ("__debug__":Str))=false):PE X (.Name x j) (tC v):=
 λ_ _ _ H _ I h=>iG I d b e ⟨v,H,I,r,h⟩ f c
noncomputable def tB (t:TE):TT:=λg H Q=>t g H λx h=>∃c,x = .bl c/\Q c h
noncomputable def VA (t u:TT):TT:=λg H Q=>t g H λc h=>if c=true then u g h Q else Q false h
noncomputable def YV (t u:TT):TT:=λg H Q=>t g H λc h=>if c=true then Q true h else u g h Q
noncomputable def VB (t:TT):TT:=λg H Q=>t g H λc h=>Q (!c) h
def Jx {X:Cx}{g:TT}(d:PT X e g):PW X (.BoolOp .And [e] pos) g:=by
 intro b cv s i H Q I h;refine isTrue_and (aV (d cv s i H Q I h) λc n a=>?_);cases c with
 |true=>exact isTrue_and_nil a|false=>exact a
def Mc {X:Cx}{g:TT}(d:PT X e g):PW X (.BoolOp .Or [e] pos) g:=by
 intro b cv s i H Q I h;refine isTrue_or (aV (d cv s i H Q I h) λc n a=>?_);cases c with
 |false=>exact isTrue_or_nil a|true=>exact a
def Md {X:Cx}{g:TT}{n:TT}(j:PT X e g)(l:PW X (.BoolOp .And (y::B) pos) n):PW X (.BoolOp .And (e::y::B) pos) (VA g n):=by
 intro f cv s p H Q I h;refine isTrue_and (aV (j cv s p H _ I h) λc r i=>?_);obtain⟨q,d,a⟩:=i;cases c with
 |true=>exact l f cv r p q Q d a|false=>exact⟨q,d,a⟩
def Q8 {X:Cx}{g:TT}{n:TT}(j:PT X e g)(l:PW X (.BoolOp .Or (y::B) pos) n):PW X (.BoolOp .Or (e::y::B) pos) (YV g n):=by
 intro f cv s p H Q I h;refine isTrue_or (aV (j cv s p H _ I h) λc r i=>?_);obtain⟨q,d,a⟩:=i;cases c with
 |true=>exact⟨q,d,a⟩|false=>exact l f cv r p q Q d a
def Me {X:Cx}{g:TT}(d:PT X e g):PT X (.UnaryOp .Not e pos) (VB g):=by intro cv s i H Q I h;exact isTrue_not (d cv s i H (λc n=>Q (!c) n) I h)
noncomputable def Q9 (i tb:TE):TE:=λg H Q=>i g H λx h=>∃c,x = .bl c/\if c=true then tb g h Q else Q (.bl false) h
noncomputable def VC (i tb:TE):TE:=λg H Q=>i g H λx h=>∃c,x = .bl c/\if c=true then Q (.bl true) h else tb g h Q
def Mf {X:Cx}{op}{t:TE}(h:PE X e t):PE X (.BoolOp op [e] pos) t:=λcv s c H Q I hw=>BoolOp_one (h cv s c H Q I hw)
def Mg {X:Cx}{g:TE}{tb:TE}(j:PE X e g)(l:PE X (.BoolOp .And (y::B) pos) tb):PE X (.BoolOp .And (e::y::B) pos) (Q9 g tb):=by
 intro cv s n H Q I h;refine BoolOp_and (aV (j cv s n H _ I h) λv q i=>?_);obtain⟨x,p,a,f,d⟩:=i;obtain⟨c,rfl,d⟩:=d;cases f;refine YP ?_;cases c with
 |true=>exact l cv q n p Q a d|false=>exact⟨.bl false,p,a,rfl,d⟩
def Q_ {X:Cx}{g:TE}{tb:TE}(j:PE X e g)(l:PE X (.BoolOp .Or (y::B) pos) tb):PE X (.BoolOp .Or (e::y::B) pos) (VC g tb):=by
 intro cv s n H Q I h;refine BoolOp_or (aV (j cv s n H _ I h) λv q i=>?_);obtain⟨x,p,a,f,d⟩:=i;obtain⟨c,rfl,d⟩:=d;cases f;refine YP ?_;cases c with
 |false=>exact l cv q n p Q a d|true=>exact⟨.bl true,p,a,rfl,d⟩
noncomputable def YW (t:TT)(i tb:TE):TE:=λg H Q=>t g H λc h=>if c=true then i g h Q else tb g h Q
def Fx {X:Cx}{b:Expr}{p:TE}{tb:TE}{q:TT}(n:PT X e q)(j:PE X y p)(l:PE X b tb):PE X (.IfExp e y b pos) (YW q p tb):=by
 intro cv s g H Q I h;refine wpAny_IfExp (aV (n cv s g H _ I h) λd r i=>?_);obtain⟨u,c,f⟩:=i;cases d with
 |true=>exact j cv r g u Q c f|false=>exact l cv r g u Q c f
noncomputable def dy (K:oi)(H:Hp)(a:Addr)(g:List V):Prop :=
 Rd H a (.lst g) \/
  ∃(o:Obj) (c:Array Value) (n:Nat),K.lookup a=some o/\o.cls = .type "list" /\ o.dict=none/\o.data = .seq c n/\c.size<=m6/\Vals g c.toList
noncomputable def fz (K:oi)(H:Hp)(a:Addr)(g:List V):Prop :=
 Rd H a (.tup g) \/
  ∃(o:Obj) (c:Array Value) (n:Nat),K.lookup a=some o/\o.cls = .type "tuple" /\ o.dict=none/\o.data = .seq c n/\c.size<=m6/\Vals g c.toList
noncomputable def VD:Value->Option V
 |.none=>some .aA|.bool b=>some (.bl b)|.int i _=>some (.int i)|.str x _=>some (.str x)|.bytes b _=>some (.Cq b)|.float b _=>some (.iD b)|.ref a=>some (.ref a)|.type n=>some (.ty n)|_=>none
def mI.abs {x:V}(r:mI x T):VD T=some x:=by
 cases x with
 |aA=>cases r;rfl|bl _=>cases r;rfl|int _=>obtain⟨t,rfl⟩:=r;rfl
 |str _=>obtain⟨t,rfl⟩:=r;rfl
 |Cq _=>obtain⟨t,rfl⟩:=r;rfl
 |iD _=>obtain⟨t,rfl⟩:=r;rfl
 |ref _=>cases r;rfl|ty _=>cases r;rfl
def mI.inj {x y:V}(r:mI x T)(q:mI y T):x=y:=DM (r.abs.symm.trans q.abs)
theorem Vals.inj:∀{c g:List V} {h:List Value},Vals c h->Vals g h->c=g
 |_,_,_,.nil,.nil=>rfl|_,_,_,.cons r t,.cons i n=>by rw[r.inj i,Vals.inj t n]
def dy.of {H:Hp}{c:List V}(h:H f=some (.lst c)):dy C H f c:=.inl (.inl h)
def mn.list {X:Cx}{p:mO}{H:Hp}{i:List V}(I:mn X cv p H c)(h:dy X.K H f i):∃g:List Value,Vals i g/\PlainL c.heap f g.toArray/\i.length<=m6:=by
 rcases h with h|⟨o,g,n,hk,hc,hd,hs,hz,r⟩
 . obtain⟨z,g,n,r,e⟩:=h.ok I.aW
   exact⟨g,r,⟨_,n,e,rfl,rfl,rfl⟩,z⟩
 . refine⟨g.toList,r,⟨o,n,I.gO f o hk,hc,hd,by simpa using hs⟩,?_⟩
   have e:=r.length;simp only[ad0]at e;omega
def mn.Mh {X:Cx}{q:mO}{H:Hp}{i:List V}(I:mn X cv q H c)(h:fz X.K H f i):∃g:List Value,Vals i g/\fV c.heap f g.toArray/\i.length<=m6:=by
 rcases h with h|⟨o,g,n,hk,hc,hd,hs,hz,r⟩
 . obtain⟨z,g,r,p⟩:=h.ok I.aW
   exact⟨g,r,p,z⟩
 . refine⟨g.toList,r,⟨o,I.gO f o hk,hc,⟨n,by simpa using hs⟩,hd⟩,?_⟩
   have e:=r.length;simp only[ad0]at e;omega
def mn.tuple {X:Cx}{n:mO}{H:Hp}{i:List V}(I:mn X cv n H c)(h:fz X.K H f i):∃g:List Value,Vals i g/\IsTup c.heap f g.toArray/\i.length<=m6 :=
 let⟨g,r,p,z⟩:=I.Mh h
 ⟨g,r,p.t,z⟩
def mn.qz {X:Cx}{q:mO}{H:Hp}{g:List V}{p:List V}(I:mn X cv q H c)(h:dy X.K H f g)(u:dy X.K H f p):g=p:=by
 obtain⟨i,r,⟨o,n,e,_,_,d⟩,_⟩:=I.list h;obtain⟨its',a,⟨l,j,s,_,_,b⟩,_⟩:=I.list u;rw[e]at s;cases s;rw[d]at b;injection b with d1 _
 have:i=its':=by simpa using congrArg ag7 d1
 subst this;exact r.inj a
def mn.og {X:Cx}{q:mO}{H:Hp}{g:List V}{p:List V}(I:mn X cv q H c)(h:fz X.K H f g)(u:fz X.K H f p):g=p:=by
 obtain⟨i,r,⟨o,e,_,n,d⟩,_⟩:=I.tuple h;obtain⟨its',a,⟨l,s,_,j,b⟩,_⟩:=I.tuple u;rw[e]at s;cases s;rw[d]at b;injection b with d1 _
 have:i=its':=by simpa using congrArg ag7 d1
 subst this;exact r.inj a
noncomputable abbrev Cx.lI (X:Cx)(E:Value->my->Prop):Cx:={ X with xe:=E }
noncomputable abbrev Cx.vY (X:Cx):Cx:=X.lI λ_ _=>False
theorem Cx.Ok.lI {X:Cx}(ok:X.Ok)(E:Value->my->Prop):(X.lI E).Ok :=
 ⟨ok.mod,ok.kind,ok.glob,ok.blt,ok.above,ok.inj,ok.has,ok.yO,ok.hd,ok.frames,ok.vV,ok.L7,ok.bs,ok.n_,ok.qy,ok.vW,ok.iE,ok.rE⟩
def Cx.Ok.jE {X:Cx}(ok:(X.lI E).Ok):X.Ok :=
 ⟨ok.mod,ok.kind,ok.glob,ok.blt,ok.above,ok.inj,ok.has,ok.yO,ok.hd,ok.frames,ok.vV,ok.L7,ok.bs,ok.n_,ok.qy,ok.vW,ok.iE,ok.rE⟩
theorem mn.lI {X:Cx}{g:mO}{H:Hp}(I:mn X cv g H c)(E:Value->my->Prop):mn (X.lI E) cv g H c:=⟨I.ok.lI E,I.os,I.bare,I.base,I.loc,I.cell,I.free,I.hJ,I.pin,I.aW,I.len⟩
theorem mn.jE {X:Cx}{g:mO}{H:Hp}(I:mn (X.lI E) cv g H c):mn X cv g H c:=⟨I.ok.jE,I.os,I.bare,I.base,I.loc,I.cell,I.free,I.hJ,I.pin,I.aW,I.len⟩
section
variable {X:Cx}
theorem SP.jE {D:Ends}{f:Flow}{c:my}(h:SP (X.lI E) cv D f c):SP X cv D f c:=by
 cases f with
 |next=>obtain⟨b,a,I,q⟩:=h;exact⟨b,a,I.jE,q⟩
 |brk=>obtain⟨b,a,I,q⟩:=h;exact⟨b,a,I.jE,q⟩
 |cont=>obtain⟨b,a,I,q⟩:=h;exact⟨b,a,I.jE,q⟩
 |ret u=>obtain⟨v,b,a,I,r,q⟩:=h;exact⟨v,b,a,I.jE,r,q⟩
end
theorem iF.vY {X:Cx}{t:TS}(h:iF X.vY a t):iF X a t:=λcv s c H D I hw =>
 Zc (h cv s c H D (I.lI _) hw) (λ_ _ q=>q.jE) λ_ _ z=>A9 z
noncomputable def AZ:TS:=λD c H=>D.nx c H
noncomputable def VE (t u:TS):TS:=λD c H=>t { D with nx:=u D } c H
def Jy {X:Cx}:iF X [] AZ:=λ_ _ c H _ I h=>aeO ⟨c,H,I,h⟩
def Fy {X:Cx}{t:TS}{u:TS}(d:PS X st t)(i:iF X a u):iF X (st::a) (VE t u):=by
 intro cv s g H D I h;refine wpAny_execs_cons (aV (d cv s g H { D with nx:=u D } I h) λf n q=>?_);cases f with
 |next =>
  obtain⟨c,rest,b,q⟩:=q;exact i cv n c rest D b q
 |ret v=>exact q|brk=>exact q|cont=>exact q
def Jz {X:Cx}{t:TS}(a:PS X st t):iF X [st] t:=by
 intro cv s c H D I h;refine wpAny_execs_cons (aV (a cv s c H D I h) λf g q=>?_);cases f with
 |next=>exact aeO q|ret v=>exact q|brk=>exact q|cont=>exact q
def JA {X:Cx}:PS X (.Pass pos) AZ:=λ_ _ c H _ I h=>wpAny_Pass ⟨c,H,I,h⟩
def mn.quiet {X:Cx}{g:mO}{H:Hp}(I:mn X cv g H c):interactive X.env=false:=by simp[interactive,I.ok.kind]
def Mi {X:Cx}{x j pos a}:PS X (.Expr (.Constant (.str x) j pos) a) AZ:=λ_ s c H _ I h=>wpAny_Expr (ag6 (show SP X _ _ .next { s with toks:=s.toks+1 } from⟨c,H,I.tok _,h⟩)) I.quiet
noncomputable def Ra (g:TE):TS:=λD c H=>g c H λ_ h=>D.nx c h
def JB {X:Cx}{g:TE}(d:PE X e g)(f:M5 e none pos.line X.env=pure false):PS X (.Expr e pos) (Ra g):=by intro cv s i H D I h;exact wpAny_Expr_any (aV (d cv s i H _ I h) λv p ⟨x,n,a,c,b⟩=>⟨i,n,a,b⟩) I.quiet f
noncomputable def VF (c:TE):TS:=λD g H=>c g H D.rt
def Mj {X:Cx}{g:TE}(d:PE X e g):PS X (.Return (some e) pos) (VF g):=by intro cv s i H D I h;exact wpAny_Return_some (aV (d cv s i H _ I h) λv p ⟨x,n,a,b,c⟩=>⟨x,i,n,a,b,c⟩)
noncomputable def VG (c:TT)(t u:TS):TS:=λD g H=>c g H λb h=>if b=true then t D g h else u D g h
def Rb {X:Cx}{t:TS}{u:TS}{b:List Stmt}{j:TT}(n:PT X e j)(o:iF X a t)(l:iF X b u):PS X (.If e a b pos) (VG j t u):=by
 intro cv s g H D I h;refine wpAny_If (aV (n cv s g H _ I h) λd p i=>?_);obtain⟨q,c,f⟩:=i;cases d with
 |true=>exact o cv p g q D c f|false=>exact l cv p g q D c f
noncomputable abbrev TG:=V->mO->Hp->(mO->Hp->Prop)->Prop
noncomputable abbrev uj:=List V->mO->Hp->(mO->Hp->Prop)->Prop
noncomputable def PG (X:Cx)(b:Expr)(t:TG):Prop :=
 ∀(cv:List (Addr×Obj)) (s:my) (g:mO) (H:Hp) (v:V) (u:Value) (Q:mO->Hp->Prop),mn X cv g H s->mI v u->t v g H Q ->
  wpAny (model X.prog X.w) X.A (Hq b X.env u) (λ_ a=>∃c h,mn X cv c h a/\Q c h) X.xe s
noncomputable def qa (X:Cx)(b:List Expr)(t:uj):Prop :=
 ∀(cv:List (Addr×Obj)) (s:my) (g:mO) (H:Hp) (h:List V) (i:List Value) (Q:mO->Hp->Prop),mn X cv g H s->Vals h i->t h g H Q ->
  wpAny (model X.prog X.w) X.A (aev ((AR b X.env).map (·.2)) i) (λ_ a=>∃c n,mn X cv c n a/\Q c n) X.xe s
noncomputable abbrev Fz:=V->V->V->Hp->(Hp->Prop)->Prop
noncomputable def FC (X:Cx)(t:Fz):Prop :=
 ∀(cv:List (Addr×Obj)) (s:my) (c:mO) (H:Hp) (o i v:V) (g iv u:Value) (Q:Hp->Prop),mn X cv c H s->mI o g->mI i iv->mI v u->t o i v H Q ->
  wpAny (model X.prog X.w) X.A (ahi g iv u) (λ_ a=>∃h,mn X cv c h a/\Q h) X.xe s
noncomputable abbrev HJ:=V->V->Hp->VK->Prop
noncomputable def HK (X:Cx)(op:U1)(t:HJ):Prop :=
 ∀(cv:List (Addr×Obj)) (s:my) (c:mO) (H:Hp) (x y:V) (v u:Value) (Q:VK),mn X cv c H s->mI x v->mI y u->t x y H Q ->
  wpAny (model X.prog X.w) X.A (inplaceOp op v u) (EP X cv c Q) X.xe s
noncomputable def HL (i:Nat):TG:=λv c H Q=>Q (c.set i (some v)) H
def JC {X:Cx}(d:X.N.Nodup)(c:X.N[n]? = some x)(f:EB X.env.scope x)(e:X.fn x=true\/X.env.scope.names.lookup x=some .local):PG X (.Name x pos) (HL n):=by intro cv s g H v u Q I r h;exact wpAny_assign_Name (fW I d c f r (λb a=>⟨_,H,a,h⟩) e)
noncomputable def VH:uj:=λa c H Q=>a = []/\Q c H
noncomputable def Rc (t:TG)(u:uj):uj:=λb g H Q=>∃v r,b=v::r/\t v g H λc a=>u r c a Q
def JD {X:Cx}:qa X [] VH:=by intro cv s c H a g Q I r h;obtain⟨e,h⟩:=h;subst e;cases r;exact afB ⟨c,H,I,h⟩
def FD {X:Cx}{t:TG}{u:uj}(o:PG X e t)(n:qa X B u)(l:(AR (e::B) X.env).map (·.2)=Hq e X.env::(AR B X.env).map (·.2)):qa X (e::B) (Rc t u):=by
 intro cv s g H j y Q I r h;obtain⟨v,i,a,h⟩:=h;subst a;cases r with
 |cons r p =>
  rw[l];refine Zt (aV (o cv s g H _ _ _ I r h) λ_ q f=>?_);obtain⟨b,x,d,c⟩:=f;exact n cv q b x _ _ Q d p c
noncomputable def VI (K:oi)(n:Nat)(t:uj):TG:=λv g H Q=>∃a c,v = .ref a/\fz K H a c/\c.length=n/\t c g H Q
def Mk {X:Cx}{t:uj}(z:X.calm=true)(h:qa X B t)(k:(AR B X.env).length=n)(A:(AR B X.env).findIdx? (·.1)=none):PG X (.Tuple B p pos) (VI X.K n t):=by
 intro cv s g H v u Q I r hw;obtain⟨a,C,i,j,l,hw⟩:=hw;subst i;cases r;obtain⟨x,c,d,y⟩:=I.tuple j;refine assign_Tuple_tuple (I.ok.hd z) d (by simp[k,<- l,c.length]) A λf q=>?_;have E:mn X cv g H { s with heap:=f }:=I.kept (t':=s.toks) λb o e=>q b o (ro (nI e)) e;exact h cv _ g H C _ Q E (by simpa using c) hw
noncomputable def VJ (c d:TE)(t:Fz):TG:=λv g H Q=>c g H λo h=>d g h λi a=>t o i v a λb=>Q g b
def Ml {X:Cx}{z A:TE}{t:Fz}(J:PE X e z)(C:PE X y A)(B:FC X t)(E:∀v,Hq (.Subscript e y pos) X.env v=(do
   let g <- HQ [v] (eval e X.env);let iv <- HQ [v,g] (eval y X.env)
   Zg pos
   HQ [v,g,iv] (ahi g iv v)
   release [v,g,iv] [])):PG X (.Subscript e y pos) (VJ z A t):=by
 intro cv s M H v u Q I r h;rw[E];refine l8 (wh (aV (J cv s M H _ I h) λg O a=>?_));obtain⟨x,R,n,i,j⟩:=a;refine l8 (wh (aV (C cv O M R _ n j) λiv U a=>?_));obtain⟨o,b,d,f,l⟩:=a;refine l8 (Y4 (l8 (wh (aV (B cv U M b x o v g iv u _ d i f r l) λ_ Y a=>?_))));obtain⟨q,c,p⟩:=a;exact wpAny_release ⟨M,q,c,p⟩
noncomputable def FF (a:TE)(g:TG):TS:=λD c H=>a c H λx h=>g x c h D.nx
def Mm {X:Cx}{f:TE}{g:TG}(j:PE X e f)(l:PG X y g)(i:UT [y] e pos.line X.env=pure false)(hw:Ql [y] e X.env=pure none)(n:(AR [y] X.env).map (·.2)= [Hq y X.env]):PS X (.Assign [y] e pos) (FF f g):=by
 intro cv s p H D I h;refine wpAny_Assign_stores (aV (j cv s p H _ I h) λv r c=>?_) i hw;obtain⟨x,u,a,b,d⟩:=c;rw[n];exact aV (l cv r p u x v _ a b d) λ_ B q=>q
def Mn {X:Cx}{l:TE}(o:X.N.Nodup)(p:X.N[n]? = some x)(u:EB X.env.scope x)(q:PE X e l)(i:M5 e (some (.Name x j)) pos.line X.env=pure false)(r:X.fn x=true\/X.env.scope.names.lookup x=some .local):
  PS X (.Assign [.Name x j] e pos) (FF l (HL n)):=by
 intro cv s g H D I h;refine wpAny_Assign_Name (aV (q cv s g H _ I h) λv C d=>?_) i;obtain⟨y,B,a,c,f⟩:=d;exact fW a o p u c (λE b=>⟨_,B,b,f⟩) r
noncomputable def VL (i j:Nat)(b:TA):TS:=λD c H=>b c H λa g=>∃v w,a = [v,w]/\D.nx ((c.set i (some v)).set j (some w)) g
def Mp {X:Cx}{a:Str}{C:TA}{pt:Pos}{kt k2 pt2}(M:X.calm=true)(K:X.N.Nodup)(R:X.N[n]? = some x)(Q:X.N[p]? = some a)(O:n≠p)(J:X.env.scope.names.lookup x=some .local)(E:X.env.scope.names.lookup a=some .local)(P:PA X [e,y] C)(hw:Ql [.Tuple [.Name x j,.Name a H] kt pt] (.Tuple [e,y] k2 pt2) X.env=pure (some [x,a]))(L:UT [.Tuple [.Name x j,.Name a H] kt pt] (.Tuple [e,y] k2 pt2) pos.line X.env=pure false):
  PS X (.Assign [.Tuple [.Name x j,.Name a H] kt pt] (.Tuple [e,y] k2 pt2) pos) (VL n p C):=by
 intro cv s Y B D I h;rw[exec_Assign_arm];refine l8 (Y4 ?_);rw[L];refine l8 (mA ?_);rw[if_neg (by decide)];refine l8 (Tuple_ (aV (P _ cv s Y B _ I h) λus g aO=>?_));obtain⟨vs,Z,I1,z,d⟩:=aO;obtain⟨v,w,e1,d⟩:=d;subst e1;obtain⟨c,U,rfl,l,r⟩:∃c U,us = [c,U]/\mI v c/\mI w U:=by
  cases z with
  |cons i q =>
   cases q with
   |cons p' q' =>
    cases q';exact⟨_,_,rfl,i,p'⟩
 refine z5 ?_ (by show 2<=m6;decide);have u:mn X cv Y Z { g with heap:=g.heap.push { cls:=.type "tuple",data:=.seq [c,U].toArray } }:=I1.kept (t':=g.toks) λy o b=>nG _ b;rw[hw];refine l8 (mA ?_);show wpAny (model X.prog X.w) X.A (do rule "assign.swapped-stores";let items <- unpackItems (.ref g.heap.objs.size) 2 none;aev [λv=>OL X.env a v,λv=>OL X.env x v] items.reverse;pure ag8) _ _ _;refine l8 (DK (l8 (unpackItems_tuple (items:=#[c,U]) (I.ok.hd M) (IsTup.new g.heap _) λh' uk=>?_)));have px:=u.kept (h':=h') (t':=g.toks) λy o b=>uk y o (ro (nI b)) b;show wpAny _ _ (aev [λv=>OL X.env a v,λv=>OL X.env x v] [U,c] >>= λ_=>pure ag8) _ _ _;refine l8 (Zt (aee (fW px K Q (.inl E) r (λs2 I4=>?_) (.inr E))));refine Zt (aee (fW I4 K R (.inl J) l (λs3 f=>afB (mA ?_)) (.inr J)));rw[aft _ _ (n7 O)]at f;exact⟨_,Z,f,d⟩
noncomputable def VM (i:Nat)(c:TE)(b:HJ):TS:=λD g H=>∃x,g[i]? = some (some x)/\c g H λy h=>b x y h λz a=>D.nx (g.set i (some z)) a
def Mq {X:Cx}{E:TE}{J:HJ}(L:X.N.Nodup)(K:X.N[n]? = some x)(C:EB X.env.scope x)(M:PE X e E)(P:HK X op J)(O:X.fn x=true\/X.env.scope.names.lookup x=some .local):
   PS X (.AugAssign (.Name x j) op e pos) (VM n E J):=by
 intro cv s g H D I h;obtain⟨v,q,h⟩:=h;obtain⟨m,p,Q⟩:=I.loc;have i:Ct X.env.scope x:=by rcases C with k|k;exact .inl k;exact .inr (.inl k)
 obtain⟨u,r,l⟩:=Q n x v K q i;refine wpAny_AugAssign_Name ?_;have go:wpAny (model X.prog X.w) X.A (eval e X.env) (λw d=>wpAny (model X.prog X.w) X.A (inplaceOp op u w) (λr s₃=>wpAny (model X.prog X.w) X.A (storeName X.env x r) (λ_=>SP X cv D .next) X.xe s₃) X.xe d) X.xe s:=by refine aV (M cv s g H _ I h) λw R a=>?_;obtain⟨y,U,Y,o,Z⟩:=a;refine aV (P cv R g U v y u w _ Y r o Z) λz s2 a=>?_;obtain⟨zv,b,B,r2,q2⟩:=a;exact fW B L K C r2 (λs3 f=>⟨_,b,f,q2⟩) O
 rcases l with⟨hk,hm⟩|⟨hk,c,hc,gm⟩
 . exact aeN I.ok.kind hk p hm go
 . rcases hk with hk|hk
   . exact aeZ I.ok.kind hk hc gm go
   . rcases C with k|k
     . have:X.env.scope.names.lookup x=some .free:=hk
       rw[k]at this;cases this
     . have:X.env.scope.names.lookup x=some .free:=hk
       rw[k]at this;cases this
noncomputable def Mr (f:Int->Int->Int):HJ:=λx y H Q=>∃i j,x = .int i/\y = .int j/\Q (.int (f i j)) H
def Ms {X:Cx}:HK X .Add (Mr λi j=>i+j):=by intro cv s g H x y v u Q I a c h;obtain⟨i,j,b,d,q⟩:=h;subst b;subst d;obtain⟨t,rfl⟩:=a;obtain⟨e,rfl⟩:=c;exact iadd_int ⟨.int _,H,I.tok _,⟨_,rfl⟩,q⟩
def Mt {X:Cx}:HK X .Sub (Mr λi j=>i-j):=by intro cv s g H x y v u Q I a c h;obtain⟨i,j,b,d,q⟩:=h;subst b;subst d;obtain⟨t,rfl⟩:=a;obtain⟨e,rfl⟩:=c;exact isub_int ⟨.int _,H,I.tok _,⟨_,rfl⟩,q⟩
noncomputable def Mu (c:TT)(tb:TS):TS:=λD g H=>∃W:Nat->mO->Hp->Prop,(∃m,W m g H) /\ ∀m g H,W m g H ->
 c g H λb i=>if b=true then ∃N:mO->Hp->Prop,(∀h n,N h n->∃p,p < m/\W p h n)/\tb { D with nx:=N,ct:=N,bk:=D.nx } g i else D.nx g i
def FH {X:Cx}{C:TT}{tb:TS}(B:ZX (model X.prog X.w) X.A X.env X.xe)(J:PT X e C)(E:iF X a tb):PS X (.While e a [] pos) (Mu C tb):=by
 intro cv s Q H D I h;obtain⟨W,⟨R,U⟩,turn⟩:=h;refine wpAny_While (codeAny_whileLoop (λn y=>∃g M,mn X cv g M y/\W n g M) ?_ R ⟨Q,H,I,U⟩);rintro n Y ⟨body,O,Z,z⟩;refine XW B (aV (J cv Y body O _ Z (turn n body O z)) λb s2 aO=>?_);obtain⟨r,u,i⟩:=aO;cases b with
 |true =>
  obtain⟨N,x,i⟩:=i;rw[if_pos rfl];refine XW B (aV (E cv s2 body r _ u i) λf s3 j=>?_);cases f with
  |next =>
   obtain⟨c,d,o,q⟩:=j;obtain⟨l,hm,p⟩:=x c d q;exact⟨l,hm,c,d,o,p⟩
  |cont =>
   obtain⟨c,d,o,q⟩:=j;obtain⟨l,hm,p⟩:=x c d q;exact⟨l,hm,c,d,o,p⟩
  |brk=>exact j|ret v=>exact j
 |false =>
  rw[if_neg L8];exact aeO ⟨body,r,u,i⟩
structure It where
 go:Nat->Hp->Prop
 yR:Nat->Hp->V->Hp->Prop
 stop:Nat->Hp->Prop
noncomputable def gI (X:Cx)(cv:List (Addr×Obj))(H:Hp)(b:Addr):Prop :=
 H b=none/\b≠X.env.locals/\b ∉ X.fs/\(b∈X.ex\/X.s₀.heap.objs.size<=b)/\(∀x c,X.env.cells.lookup x=some c->c≠b) /\ ∀p∈X.pn++cv,p.1≠b
def mn.tf {X:Cx}{g:mO}{H H':Hp}{b:Addr}(I:mn X cv g H c)(d:c.heap.objs.size<=b)(f:H' b=none):gI X cv H' b:=by
 refine⟨f,aeP (wi I.lt d),I.Vw d,.inr (rK I.sz d),λx s e z=>?_,λp a z=>?_⟩
 . obtain⟨v,q⟩:=I.cell x s e
   exact absurd (wi q.lt (by rw[z];exact d)) (GW _)
 . exact absurd (wi (nI (I.pin p a).1) (by rw[z];exact d)) (GW _)
structure Turn (P:uy)(w:World)(K:oi)(tg:Expr)(J:It)(fp:List Addr)(it:Addr)(tn:Nat->Heap->Prop):Prop where
 mem:it∈fp
 obj:∀i h,tn i h->∀b∈fp,∃o,h.get? b=some o /\ ∀v,o.data ≠ .cell v
 keep:∀i h h',tn i h->(∀b∈fp,∀o,h.get? b=some o->h'.get? b=some o)->tn i h'
 item:∀(X:Cx),X.prog=P->X.w=w->X.K=K->X.calm=true->∀(i:Nat) (cv:List (Addr×Obj)) (s:my) (σ:mO) (H:Hp) (E:Value->my->Prop),mn X cv σ H s->(∀b∈fp,gI X cv H b)->tn i s.heap->J.go i H ->
  wpAny (model P w) X.A (ES (.ref it)) (λr s1=>∃u,r=some u /\
   wpAny (model P w) X.A (agb tg (.ref it) u) (λ_ s2=>∃x H',mn X cv σ H' s2/\mI x u/\J.yR i H x H'/\tn (i+1) s2.heap /\ ∀b∈fp,H' b=none) E s1) E s
 done:∀(X:Cx),X.prog=P->X.w=w->X.K=K->X.calm=true->∀(i:Nat) (cv:List (Addr×Obj)) (s:my) (σ:mO) (H:Hp) (E:Value->my->Prop),mn X cv σ H s->(∀b∈fp,gI X cv H b)->tn i s.heap->J.stop i H ->
  wpAny (model P w) X.A (ES (.ref it)) (λr s1=>r=none/\mn X cv σ H s1) E s
 self:∀(A:qc) (i:Nat) (s:my) (Q:Value->my->Prop) (E:Value->my->Prop),tn i s.heap->Q (.ref it) s->wpAny (model P w) A (Tt (.ref it)) Q E s
noncomputable abbrev TI:=mO->Hp->(It->Hp->Prop)->Prop
noncomputable def Mv (X:Cx)(cv:List (Addr×Obj))(n:mO)(p:Expr)(R:It->Hp->Prop)(c:Value)(a:my):Prop :=
 ∃(it:Addr) (h:List Addr) (i:Nat->Heap->Prop) (J:It) (g:Hp),c = .ref it/\mn X cv n g a/\Turn X.prog X.w X.K p J h it i/\i 0 a.heap/\(∀b∈h,gI X cv g b)/\R J g
noncomputable def PI (X:Cx)(h c:Expr)(a:TI):Prop :=
 ∀(cv:List (Addr×Obj)) (s:my) (g:mO) (H:Hp) (R:It->Hp->Prop),mn X cv g H s->a g H R ->
  wpAny (model X.prog X.w) X.A (eval c X.env) (λv i=>wpAny (model X.prog X.w) X.A (Tt v) (Mv X cv g h R) X.xe i) X.xe s
def vo {s : my}{n : String}{g : Array Value}(d : s.heap.get? f = some o)(c : o.cls = .type n)(A : o.data = .fields g)(i : ["enumerate", "zip", "dict_itemiterator", "dict_reverseitemiterator", "odict_iterator", "itertools.zip_longest", "itertools.pairwise"].contains n = false)(a : z () s): wpAny v M (agb e (.ref f) T) z E s := by
 unfold agb;cases e <;> first
   |exact mA a
   | (cases T <;> first
       |exact mA a
       | (refine l8 (wpAny_load d ?_)
          rw[c, A];show wpAny v M (if (["enumerate", "zip", "dict_itemiterator", "dict_reverseitemiterator", "odict_iterator", "itertools.zip_longest", "itertools.pairwise"].contains n && g[0]? == some (wQ _))= true then _ else _) z E s;rw[if_neg (by intro h; rw[i, agp]at h; cases h)];exact mA a))
noncomputable def HM (K:oi)(a:Addr):It :=
 ⟨λi H=>∃c x,dy K H a c/\c[i]? = some x,λi H x b=>b=H /\ ∀c,dy K H a c->c[i]? = some x,λi H=>∃c,dy K H a c/\c.length<=i⟩
noncomputable def Mx (K:oi)(a:Addr):It :=
 ⟨λi H=>∃c x,fz K H a c/\c[i]? = some x,λi H x b=>b=H /\ ∀c,fz K H a c->c[i]? = some x,λi H=>∃c,fz K H a c/\c.length<=i⟩
noncomputable def Cy (b:Int)(n:Nat):It:=⟨λi _=>i<n,λi H x a=>a=H/\x = .int (b+i),λi _=>n<=i⟩
def Cz (a it:Addr):Turn q l C e (HM C a) [it] it (λi h=>h.IsListIter it a i) where
 mem:=by simp
 obj:=λi h st b f=>by
  have K:b=it:=by simpa using f
  subst K;obtain⟨o,K,c,d⟩:=st;exact⟨o,K,λv z=>by rw[d]at z;cases z⟩
 keep:=λi h j st k=>st.at λo K=>k it (by simp) o K
 item:=by intro X r hw hK hc i cv s σ H E I hf st y;subst r hw hK;obtain⟨xs,x,P,hx⟩:=y;obtain⟨aq,n,p,hz⟩:=I.list P;obtain⟨u,hu,ru⟩:=n.get hx;obtain⟨f0,f1,f2,f3,f4,w⟩:=hf it (by simp);refine wpAny_pyNext_list_item st p.isList (x:=u) (by simpa using hu) λj gP sb=>?_;have I1:mn X cv σ H { s with heap:=j }:=I.turned (t':=s.toks) (λb o f K=>(sb.2 b f).trans K) f0 f1 f3 f4 w;obtain⟨o,K,c,d⟩:=id gP;exact⟨u,rfl,vo (s:={ s with heap:=j }) K c d (by decide) ⟨x,H,I1,ru,⟨rfl,λys hy=>by rw[I.qz hy P];exact hx⟩,gP,λb f=>(hf b f).1⟩⟩
 done:=by intro X r hw hK hc i cv s σ H E I hf st y;subst r hw hK;obtain⟨xs,P,hx⟩:=y;obtain⟨aq,n,p,hz⟩:=I.list P;obtain⟨f0,f1,f2,f3,f4,w⟩:=hf it (by simp);have hl:=n.length;exact wpAny_pyNext_list_end (I.ok.hd hc) st p.isList (by simp;omega) λj eb=>⟨rfl,I.turned (t':=s.toks) (λb o f K=>eb b o f K) f0 f1 f3 f4 w⟩
 self:=λ_ _ _ _ _ st h=>wpAny_pyIter_listiter st h
def A0 (a it:Addr):Turn q l C e (Mx C a) [it] it (λi h=>h.IsTupleIter it a i) where
 mem:=by simp
 obj:=λi h st b f=>by
  have K:b=it:=by simpa using f
  subst K;obtain⟨o,K,c,d⟩:=st;exact⟨o,K,λv z=>by rw[d]at z;cases z⟩
 keep:=λi h j st k=>st.at λo K=>k it (by simp) o K
 item:=by intro X y hw hK hc i cv s σ H E I hf st hg;subst y hw hK;obtain⟨xs,x,P,hx⟩:=hg;obtain⟨w,n,p,hz⟩:=I.tuple P;obtain⟨u,hu,ru⟩:=n.get hx;obtain⟨f0,f1,f2,f3,f4,r⟩:=hf it (by simp);refine wpAny_pyNext_tuple_item st (show s.heap.IsTuple a w.toArray from p) (x:=u) (by simpa using hu) λj gP sb=>?_;have I1:mn X cv σ H { s with heap:=j }:=I.turned (t':=s.toks) (λb o f K=>(sb.2 b f).trans K) f0 f1 f3 f4 r;obtain⟨o,K,c,d⟩:=id gP;exact⟨u,rfl,vo (s:={ s with heap:=j }) K c d (by decide) ⟨x,H,I1,ru,⟨rfl,λys hy=>by rw[I.og hy P];exact hx⟩,gP,λb f=>(hf b f).1⟩⟩
 done:=by intro X y hw hK hc i cv s σ H E I hf st hg;subst y hw hK;obtain⟨xs,P,hx⟩:=hg;obtain⟨w,n,p,hz⟩:=I.tuple P;obtain⟨f0,f1,f2,f3,f4,r⟩:=hf it (by simp);have hl:=n.length;exact wpAny_pyNext_tuple_end (I.ok.hd hc) st (show s.heap.IsTuple a w.toArray from p) (by simp;omega) λj eb=>⟨rfl,I.turned (t':=s.toks) (λb o f K=>eb b o f K) f0 f1 f3 f4 r⟩
 self:=λ_ _ _ _ _ st h=>wpAny_pyIter_tupleiter st h
def A1 {w:World}(it:Addr)(A:Int)(n:Nat):Turn q w C e (Cy A n) [it] it (λi h=>IsRangeIter h it (A+(i:Nat)*1) ((n:Int)-(i:Nat)) 1) where
 mem:=by simp
 obj:=λi h st b a=>by
  have K:b=it:=by simpa using a
  subst K;exact⟨_,st,λv z=>by have y:Data.fields _=Zy v:=z;cases y⟩
 keep:=λi h c st k=>k it (by simp) _ st
 item:=by intro X j hw p d i cv s σ H E I hf st l;subst j hw p;obtain⟨f0,f1,f2,P,f4,f⟩:=hf it (by simp);have W:=Walks.range (prog:=X.prog) (w:=X.w) (I.ok.hd d) it A 1 n;refine W.item i s _ _ l st λv c r hv u kk=>?_;obtain⟨t,rfl⟩:=hv;have I1:mn X cv σ H { s with heap:=c,toks:=r }:=I.turned (λb o a K=>kk b o (by simpa using a) K) f0 f1 P f4 f;refine⟨_,rfl,vo (s:={ s with heap:=c,toks:=r }) (n:="range_iterator") u rfl rfl (by decide) ⟨.int (A+i),H,I1,⟨t,?_⟩,⟨rfl,rfl⟩,u,λb a=>(hf b a).1⟩⟩;rw[Int.mul_one]
 done:=by intro X j hw p d i cv s σ H E I hf st l;subst j hw p;obtain⟨f0,f1,f2,P,f4,f⟩:=hf it (by simp);exact wpAny_pyNext_range_end (I.ok.hd d) st (by have:n<=i:=l;omega) λc x=>⟨rfl,I.turned (t':=s.toks) (λb o a K=>x b o a K) f0 f1 P f4 f⟩
 self:=λ_ _ _ _ _ st h=>wpAny_pyIter_rangeiter st h
noncomputable def Rf (K:oi)(b:TE):TI:=λg H R=>b g H λx c=>∃a,x = .ref a/\(∃h,dy K c a h)/\R (HM K a) c
noncomputable def VN (K:oi)(b:TE):TI:=λg H R=>b g H λx c=>∃a,x = .ref a/\(∃h,fz K c a h)/\R (Mx K a) c
def yS {X:Cx}{z:TE}(A:PE X e z):PI X y e (Rf X.K z):=by
 intro cv s C H R I h;refine aV (A cv s C H _ I h) λv B j=>?_;obtain⟨x,E,c,d,i⟩:=j;obtain⟨a,g,⟨J,f⟩,q⟩:=i;subst g;cases d;obtain⟨u,r,p,l⟩:=c.list f;refine afC p.isList ?_;refine⟨B.heap.objs.size,[B.heap.objs.size],_,_,E,rfl,c.kept (t':=B.toks) λb o g=>nG _ g,Cz a _,⟨_,p9 _ rfl,rfl,rfl⟩,λb n=>?_,q⟩;have g:b=B.heap.objs.size:=by simpa using n
 subst g;exact c.tf (nc _) (c.aW.fresh (nc _))
def My {X:Cx}{z:TE}(A:PE X e z):PI X y e (VN X.K z):=by
 intro cv s C H R I h;refine aV (A cv s C H _ I h) λv g n=>?_;obtain⟨x,E,c,f,j⟩:=n;obtain⟨a,B,⟨J,i⟩,q⟩:=j;subst B;cases f;obtain⟨d,u,p,l⟩:=c.tuple i;refine wpAny_pyIter_tuple (show g.heap.IsTuple a d.toArray from p) ?_;refine⟨g.heap.objs.size,[g.heap.objs.size],_,_,E,rfl,c.kept (t':=g.toks) λb o B=>nG _ B,A0 a _,⟨_,p9 _ rfl,rfl,rfl⟩,λb r=>?_,q⟩;have B:b=g.heap.objs.size:=by simpa using r
 subst B;exact c.tf (nc _) (c.aW.fresh (nc _))
def v7 {X:Cx}{p:mO}{H:Hp}{R:It->Hp->Prop}{h:Int}{t u v:Tok}(I:mn X cv p H c)(j:-(2 ^ 62)<=i)(s:i<2 ^ 62)(l:-(2 ^ 62)<=h)(r:h<2 ^ 62)(q:R (Cy i (h-i).toNat) H):wpAny (model X.prog X.w) X.A (Tt (.ref c.heap.objs.size)) (Mv X cv p e R) E { c with heap:=c.heap.push { cls:=.type "range",data:=.fields #[.int i t,.int h u,.int 1 v] },toks:=n }:=by
 refine wpAny_pyIter_range (IsRange.new ..) (small_one j s l r) ?_;have a:mn X cv p H { c with heap:=c.heap.push { cls:=.type "range",data:=.fields #[.int i t,.int h u,.int 1 v] },toks:=n }:=I.kept λb o g=>nG _ g;refine⟨(c.heap.push { cls:=.type "range",data:=.fields #[.int i t,.int h u,.int 1 v] }).objs.size,[(c.heap.push { cls:=.type "range",data:=.fields #[.int i t,.int h u,.int 1 v] }).objs.size],_,_,H,rfl,
   a.kept (t':=n) λb o g=>nG _ g,A1 _ i (h-i).toNat,?_,λb d=>?_,q⟩
 . have x:i+((0:Nat):Int)*1=i:=by simp
   have f:(((h-i).toNat:Nat):Int)-((0:Nat):Int)=Builtin.Range.rangeSize i h 1:=by rw[rangeSize_one];split<;>omega
   show IsRangeIter _ _ (i+((0:Nat):Int)*1) ((((h-i).toNat:Nat):Int)-((0:Nat):Int)) 1;rw[x,f];exact p9 _ rfl
 . have g:b=(c.heap.push { cls:=.type "range",data:=.fields #[.int i t,.int h u,.int 1 v] }).objs.size:=by simpa using d
   subst g;exact a.tf (nc _) (a.aW.fresh (nc _))
noncomputable def Rh (b:TA):TI:=λc H R=>b c H λa g=>∃j:Int,a = [.int j] /\ -(2 ^ 62)<=j/\j<2 ^ 62/\R (Cy 0 j.toNat) g
noncomputable def Ri (b:TA):TI:=λc H R=>b c H λa g=>∃i j:Int,a = [.int i,.int j]/\(-(2 ^ 62)<=i/\i<2 ^ 62 /\ -(2 ^ 62)<=j/\j<2 ^ 62)/\R (Cy i (j-i).toNat) g
def CA {X:Cx}{o:TA}(p:Gl X "range")(v:X.mg "range" = none)(x:PA X [e] o)(u:ni [e] X.env = [(false,eval e X.env)]):PI X y (.Call (.Name "range" j) [e] [] H) (Rh o):=by
 intro cv s g B R I h;refine Call_ (iG I p v boot_range (ZV (aV (x H cv s g B _ I h) λE J i=>?_) u rfl) (by decide) (by decide));obtain⟨l,M,f,c,b⟩:=i;obtain⟨a,n,b,d,q⟩:=b;subst n;cases c with
 |cons r C =>
  cases C;obtain⟨t,rfl⟩:=r;exact call_range_1 (v7 f (by omega) (by omega) b d (by simpa using q))
def CB {X:Cx}{M:Expr}{A:TA}(J:Gl X "range")(C:X.mg "range" = none)(E:PA X [e,y] A)(B:ni [e,y] X.env = [(false,eval e X.env),(false,eval y X.env)])(z:ni [y] X.env = [(false,eval y X.env)]):
  PI X M (.Call (.Name "range" j) [e,y] [] H) (Ri A):=by
 intro cv s O p R I h;refine Call_ (iG I J C boot_range (ZV (aV (E H cv s O p _ I h) λU Y o=>?_) (by rw[B,z]) (by rw[z];rfl)) (by decide) (by decide));obtain⟨v,Z,n,d,c⟩:=o;obtain⟨i,a,b,⟨c,l,u,f⟩,q⟩:=c;subst b;cases d with
 |cons r g =>
  cases g with
  |cons Q g =>
   cases g;obtain⟨t,rfl⟩:=r;obtain⟨x,rfl⟩:=Q;exact call_range_2 (v7 n c l u f q)
noncomputable def VO (c:TI)(g:TG)(tb:TS):TS:=λD h H=>c h H λJ r=>∃W:Nat->Nat->mO->Hp->Prop,(∃m,W 0 m h r) /\ ∀i m h H,W i m h H ->
 (J.stop i H/\D.nx h H)\/(J.go i H /\ ∃N:mO->Hp->Prop,(∀n p,N n p->∃q,q < m/\W (i+1) q n p) /\ ∀x p,J.yR i H x p->g x h p λb a=>tb { D with nx:=N,ct:=N,bk:=D.nx } b a)
noncomputable def oh (c:List Addr)(h:Heap):List (Addr×Obj):=c.filterMap λb=>(h.get? b).map λo=>(b,o)
def jZ (a:f∈O)(e:I.get? f=some o):(f,o)∈oh O I:=Rx.mpr ⟨f,a,by rw[e];rfl⟩
def CC {p:Addr×Obj}(d:p∈oh O I):p.1∈O/\I.get? p.1=some p.2:=by
 obtain⟨b,c,e⟩:=Rx.mp d;cases q:I.get? b with
 |none=>rw[q]at e;cases e
 |some o =>
  rw[q]at e;have a:(b,o)=p:=DM e;subst a;exact⟨c,q⟩
def mn.pinned {X:Cx}{g:mO}{H:Hp}(I:mn X cv g H c)(h:∀b∈O,gI X cv H b)(i:∀b∈O,∃o,c.heap.get? b=some o /\ ∀v,o.data ≠ .cell v):mn X (cv++oh O c.heap) g H c :=
 I.yQ λp f=>(nQ.mp f).elim (λz=>I.pin p (N_ _ z)) λz=>by obtain⟨s,e⟩:=CC z;obtain⟨n,q,r,_⟩:=h p.1 s;obtain⟨o,a,d⟩:=i p.1 s;rw[e]at a;cases a;exact⟨e,n,q,r,d⟩
def mn.mQ {X:Cx}{g:mO}{H:Hp}(I:mn X (cv++b) g H c):mn X cv g H c:=I.yQ λp a=>I.pin p (N_ _ (ade _ a))
def Mz {X:Cx}{K:TI}{g:TG}{tb:TS}(C:ZX (model X.prog X.w) X.A X.env X.xe)(L:X.calm=true)(O:PI X y e K)(P:PG X y g)(B:iF X a tb)(M:∀x,zg e X.env x=pure x):PS X (.For y e a [] j) (VO K g tb):=by
 intro cv s σ H D I h;refine wpAny_For (aV (O cv s σ H _ I h) λv s1 h1=>aV h1 λMw s2 h2=>?_) M;obtain⟨it,z,tn,J,H2,E,I2,T,YY,f2,W,⟨m0,w0⟩,turn⟩:=h2;subst E;have qA:∀{Y:Hp},(∀b∈z,Y b=none)->∀b∈z,gI X cv Y b:=λhn b B=>⟨hn b B,(f2 b B).2⟩
 refine codeAny_forLoop_any (λn s'=>∃i R Y,mn X cv R Y s'/\tn i s'.heap/\(∀b∈z,Y b=none)/\W i n R Y) ?_ m0 ⟨0,σ,H2,I2,YY,λb B=>(f2 b B).1,w0⟩;rintro n s3 ⟨i,body,Z,I3,Tr,HN,w3⟩;rcases turn i n body Z w3 with⟨stop,qn⟩|⟨go,N,hN,step⟩
 . refine XW C (aV (T.done X rfl rfl rfl L i cv s3 body Z X.xe I3 (qA HN) Tr stop) λr s4 p=>?_)
   obtain⟨hr,I4⟩:=p;subst hr;exact aeO ⟨body,Z,I4,qn⟩
 . refine XW C (aV (T.item X rfl rfl rfl L i cv s3 body Z X.xe I3 (qA HN) Tr go) λr s4 p=>?_)
   obtain⟨u,hr,h4⟩:=p;subst hr;refine XW C (aV h4 λ_ s5 p=>?_);obtain⟨x,H5,I5,r5,y5,MA,CD⟩:=p;have ab:=I5.pinned (qA CD) (T.obj _ _ MA);refine XW C (aV (P _ s5 body H5 x u _ ab r5 (step x H5 y5)) λ_ s6 p=>?_);obtain⟨σ6,H6,I6,q6⟩:=p;refine XW C (aV (B _ s6 σ6 H6 _ I6 q6) λf s7 l=>?_);have again:∀{c:mO} {U:Hp},mn X (cv++oh z s5.heap) c U s7->N c U->∃m,m<n /\ ∃i R Y,mn X cv R Y s7/\tn i s7.heap/\(∀b∈z,Y b=none)/\W i m R Y:=fun {c U} Q q=>by obtain⟨m',hm,w7⟩:=hN c U q;refine⟨m',hm,i+1,c,U,Q.mQ,T.keep _ _ _ MA λb B o E=>(Q.pin (b,o) (N_ _ (N_ _ (jZ B E)))).1,λb B=>?_,w7⟩;obtain⟨o,E,d⟩:=T.obj _ _ MA b B;exact(Q.pin (b,o) (N_ _ (N_ _ (jZ B E)))).2.1
   cases f with
   |next=>obtain⟨c,U,Q,q⟩:=l;exact again Q q
   |cont=>obtain⟨c,U,Q,q⟩:=l;exact again Q q
   |brk=>obtain⟨c,U,Q,l⟩:=l;exact⟨c,U,Q.mQ,l⟩
   |ret v=>obtain⟨x7,c,U,Q,r7,l⟩:=l;exact⟨x7,c,U,Q.mQ,r7,l⟩
noncomputable abbrev R2:=V->V->Hp->VK->Prop
noncomputable def bJ (X:Cx)(f:Value->Value->Sem Value)(r:R2):Prop :=
 ∀(cv:List (Addr×Obj)) (s:my) (c:mO) (H:Hp) (x y:V) (v u:Value) (Q:VK),mn X cv c H s->mI x v->mI y u->r x y H Q ->
  wpAny (model X.prog X.w) X.A (f v u) (EP X cv c Q) X.xe s
noncomputable def CF (X:Cx)(f:Value->Sem Value)(r:V->Hp->VK->Prop):Prop :=
 ∀(cv:List (Addr×Obj)) (s:my) (c:mO) (H:Hp) (x:V) (v:Value) (Q:VK),mn X cv c H s->mI x v->r x H Q ->
  wpAny (model X.prog X.w) X.A (f v) (EP X cv c Q) X.xe s
noncomputable def dM (X:Cx)(f:Value)(r:List V->Hp->VK->Prop):Prop :=
 ∀(cv:List (Addr×Obj)) (s:my) (c:mO) (H:Hp) (g:List V) (h:List Value) (Q:VK),mn X cv c H s->Vals g h->r g H Q ->
  wpAny (model X.prog X.w) X.A (call f h) (EP X cv c Q) X.xe s
noncomputable def VP (X:Cx)(r:V->Hp->(Bool->Hp->Prop)->Prop):Prop :=
 ∀(cv:List (Addr×Obj)) (s:my) (c:mO) (H:Hp) (x:V) (v:Value) (Q:Bool->Hp->Prop),mn X cv c H s->mI x v->r x H Q ->
  wpAny (model X.prog X.w) X.A (truthy v) (TP X cv c Q) X.xe s
noncomputable def CG (r:R2)(b tb:TE):TE:=λc H Q=>b c H λx g=>tb c g λy a=>r x y a Q
noncomputable def YZ (r:V->Hp->VK->Prop)(a:TE):TE:=λc H Q=>a c H λx g=>r x g Q
noncomputable def rI (C:Int->Int->Prop)(g:Int->Int->V):R2:=λx y H Q=>∃i j,x = .int i/\y = .int j/\C i j/\Q (g i j) H
noncomputable def qb (g:Int->Int->V):R2:=λx y H Q=>∃i j,x = .int i/\y = .int j/\Q (g i j) H
noncomputable def rU (g:Int->V):V->Hp->VK->Prop:=λx H Q=>∃i,x = .int i/\Q (g i) H
def FJ {X:Cx}{E:TE}{tb:TE}(q:PE X e E)(p:PE X y tb){g:mO}{H:Hp}{R:V->V->Hp->Prop}(I:mn X cv g H c)(h:E g H λx C=>tb g C λs r=>R x s r)(o:∀v u B x s r,mn X cv g r B->mI x v->mI s u->R x s r->wpAny (model X.prog X.w) X.A (Y v u) Q X.xe B):
  wpAny (model X.prog X.w) X.A (eval e X.env) (λv s₁=>wpAny (model X.prog X.w) X.A (eval y X.env) (λu s₂=>wpAny (model X.prog X.w) X.A (Y v u) Q X.xe s₂) X.xe s₁) X.xe c:=by
 refine aV (q cv c g H _ I h) λv J a=>?_;obtain⟨x,C,d,i,l⟩:=a;refine aV (p cv J g C _ d l) λu B a=>?_;obtain⟨s,r,f,j,n⟩:=a;exact o v u B x s r f i j n
def Rj {X:Cx}{g:TE}{tb:TE}{r:R2}(l:bJ X (ta op) r)(j:PE X e g)(i:PE X y tb):PE X (.BinOp e op y pos) (CG r g tb):=by intro cv s n H Q I h;exact wpAny_BinOp (FJ j i I h λv u p x a c d b f q=>l cv p n c x a v u Q d b f q)
def Rk {X:Cx}{g:TE}{op:UnaryOp}{r:V->Hp->VK->Prop}(a:CF X (unaryOp op) r)(f:PE X e g):PE X (.UnaryOp op e pos) (YZ r g):=by intro cv s i H Q I h;exact UnaryOp_ (aV (f cv s i H _ I h) λv n ⟨x,p,b,c,d⟩=>a cv n i p x v Q b c d)
def HP {X:Cx}{C:Int->Int->Prop}(e:∀(i j:Int) (t u:Tok) (s:my) (Q:Value->my->Prop) (E:Value->my->Prop),C i j->Q (.int (g i j) s.toks) { s with toks:=s.toks+1 }->wpAny (model X.prog X.w) X.A (Y (.int i t) (.int j u)) Q E s):
  bJ X Y (rI C λi j=>.int (g i j)):=by
 intro cv s n H x y v u Q I b d h;obtain⟨i,j,rfl,rfl,a,q⟩:=h;obtain⟨t,rfl⟩:=b;obtain⟨c,rfl⟩:=d;exact e i j t c s _ _ a ⟨.int (g i j),H,I.tok _,⟨_,rfl⟩,q⟩
def MB {X:Cx}(d:∀(i j:Int) (t u:Tok) (s:my) (Q:Value->my->Prop) (E:Value->my->Prop),Q (.int (g i j) s.toks) { s with toks:=s.toks+1 }->wpAny (model X.prog X.w) X.A (Y (.int i t) (.int j u)) Q E s):
  bJ X Y (qb λi j=>.int (g i j)):=by
 intro cv s n H x y v u Q I a c h;obtain⟨i,j,rfl,rfl,q⟩:=h;obtain⟨t,rfl⟩:=a;obtain⟨b,rfl⟩:=c;exact d i j t b s _ _ ⟨.int (g i j),H,I.tok _,⟨_,rfl⟩,q⟩
def A2 {X:Cx}{g:Int->Int->Bool}(d:∀(i j:Int) (t u:Tok) (s:my) (Q:Value->my->Prop) (E:Value->my->Prop),Q (.bool (g i j)) s->wpAny (model X.prog X.w) X.A (Y (.int i t) (.int j u)) Q E s):
  bJ X Y (qb λi j=>.bl (g i j)):=by
 intro cv s n H x y v u Q I a c h;obtain⟨i,j,rfl,rfl,q⟩:=h;obtain⟨t,rfl⟩:=a;obtain⟨b,rfl⟩:=c;exact d i j t b s _ _ ⟨.bl (g i j),H,I,rfl,q⟩
noncomputable def VQ (i j:Int):Prop:=0<j/\j<1073741824
noncomputable def VR (i j:Int):Prop:=0<=j/\j<=1000000/\i.natAbs<2 ^ 64
noncomputable def FK (i j:Int):Prop:=(-(2 ^ 64)<i/\i<2 ^ 64)\/(-(2 ^ 64)<j/\j<2 ^ 64)
def FK.ok {j:Int}(h:FK i j):IntMulOk i j:=by
 rcases h with⟨h1,h2⟩|⟨h1,h2⟩
 . exact .of_left (intBits_le_64 h1 h2)
 . exact .of_right (intBits_le_64 h1 h2)
def MC {X:Cx}:bJ X (ta .Add) (qb λi j=>.int (i+j)):=MB λ_ _ _ _ _ _ _ q=>add_int q
def MD {X:Cx}:bJ X (ta .Sub) (qb λi j=>.int (i-j)):=MB λ_ _ _ _ _ _ _ q=>sub_int q
def ME {X:Cx}:bJ X (ta .Mult) (rI FK λi j=>.int (i*j)):=HP λ_ _ _ _ _ _ _ a q=>mul_int q a.ok
def JE {X:Cx}:bJ X (ta .FloorDiv) (rI VQ λi j=>.int (i / j)):=HP λi j _ _ _ _ _ a q=>by have b:(0:Int)<j:=a.1;have c:j<1073741824:=a.2;exact floordiv_int (by omega) (by rw[Int.fdiv_eq_ediv_of_nonneg i (by omega)];exact q) (.inl (PyProof.noPylong_small (by omega)))
def MF {X:Cx}:bJ X (ta .Mod) (rI (λ_ j=>0<j) λi j=>.int (i % j)):=HP λi j _ _ _ _ _ a q=>by have b:(0:Int)<j:=a;exact mod_int' (by omega) (by rw[Int.fmod_eq_emod_of_nonneg i (by omega)];exact q)
def MG {X:Cx}:bJ X (ta .Pow) (rI VR λi j=>.int (i ^ j.toNat)):=HP λ_ _ _ _ _ _ _ a q=>pow_int_small a.1 a.2.1 a.2.2 q
def Y0 {X:Cx}{f:Value->Sem Value}{g:Int->Int}(d:∀(i:Int) (t:Tok) (s:my) (Q:Value->my->Prop) (E:Value->my->Prop),Q (.int (g i) s.toks) { s with toks:=s.toks+1 }->wpAny (model X.prog X.w) X.A (f (.int i t)) Q E s):
  CF X f (rU λi=>.int (g i)):=by
 intro cv s c H x v Q I a h;obtain⟨i,rfl,q⟩:=h;obtain⟨t,rfl⟩:=a;exact d i t s _ _ ⟨.int (g i),H,I.tok _,⟨_,rfl⟩,q⟩
def MH {X:Cx}:CF X (unaryOp .USub) (rU λi=>.int (-i)):=Y0 λ_ _ _ _ _ q=>neg_int q
def CH {X:Cx}{g:mO}{H:Hp}{Q:VK}{d:Bool}(I:mn X cv g H c)(q:Q (.bl Z) H)(e:Z=d):EP X cv g Q (.bool d) c:=by subst e;exact⟨.bl Z,H,I,rfl,q⟩
def Rl {X:Cx}:bJ X (u3 .Lt) (qb λi j=>.bl (decide (i<j))):=A2 λ_ _ _ _ _ _ _ q=>lt_int q
def Rm {X:Cx}:bJ X (u3 .LtE) (qb λi j=>.bl (decide (i<=j))):=A2 λ_ _ _ _ _ _ _ q=>le_int q
def Rn {X:Cx}:bJ X (u3 .Gt) (qb λi j=>.bl (decide (j<i))):=A2 λ_ _ _ _ _ _ _ q=>gt_int q
def Ro {X:Cx}:bJ X (u3 .GtE) (qb λi j=>.bl (decide (j<=i))):=A2 λ_ _ _ _ _ _ _ q=>ge_int q
def MI {X:Cx}:bJ X (u3 .Is) (λx y H Q=>y = .aA/\Q (.bl (decide (x = .aA))) H):=by
 intro cv s c H x y v u Q I a b h;obtain⟨rfl,q⟩:=h;cases b;refine is_none_gen (CH I q ?_);cases x<;>first
  | (cases a;rfl)
  | (obtain⟨t,rfl⟩:=a;rfl)
def JF {X:Cx}:bJ X (u3 .IsNot) (λx y H Q=>y = .aA/\Q (.bl (!decide (x = .aA))) H):=by
 intro cv s c H x y v u Q I a b h;obtain⟨rfl,q⟩:=h;cases b;refine isnot_none_gen (CH I q ?_);cases x<;>first
  | (cases a;rfl)
  | (obtain⟨t,rfl⟩:=a;rfl)
def JG {X:Cx}{g:TE}{tb:TE}{r:R2}(n:bJ X (u3 d) r)(l:PE X e g)(j:PE X y tb)(i:aew d y=false):PE X (.Compare e [d] [y] pos) (CG r g tb):=by intro cv s p H Q I h;exact wpAny_Compare1 (FJ l j I h λv u B x op c a b f q=>n cv B p c x op v u Q a b f q) i
noncomputable def vp (t:TE):TT:=λc H Q=>t c H λx a=>∃k,x = .bl k/\Q k a
def JH {X:Cx}{J:TE}{tb:TE}{r:R2}(E:bJ X (u3 d) r)(C:PE X e J)(B:PE X y tb)(A:aew d y=false):PT X (.Compare e [d] [y] pos) (vp (CG r J tb)):=by
 intro cv s g H Q I h;refine wpAny_isTrue_Compare1 (aV (C cv s g H _ I h) λv M ⟨x,O,q,j,o⟩=>aV (B cv M g O _ q o) λu R ⟨op,a,i,n,p⟩=>
  aV (E cv R g a x op v u _ i j n p) λc Z ⟨z,U,f,l,k,b,Y⟩=>?_) A
 subst b;cases l;exact YP ⟨U,f,Y⟩
noncomputable def FL (K:oi)(x:V)(H:Hp)(k:Bool):Prop :=
 match x with
 |.aA=>k=false|.bl e=>k=e|.int i=>k=(i != 0)|.str y=>y.length<=m6/\k=((y.length:Int) != 0)|.Cq y=>y.size<=m6/\k=((y.size:Int) != 0)|.ref p=>(∃c,dy K H p c/\k = !c.isEmpty)\/(∃c,fz K H p c/\k = !c.isEmpty) \/ ∃g,H p=some (.dK g)/\k = !g.isEmpty|_=>False
def A3 {e:Type}{d:List (e×V)}{c:List (e×Value)}(r:KV d c):(!c.isEmpty)= !d.isEmpty:=by cases r<;>rfl
def rH {c:List V}(r:Vals c R):(!R.toArray.isEmpty)= !c.isEmpty:=by cases r<;>simp
def lP:(m6:Nat)<2 ^ 63:=by rw[IV];decide
def CI {X:Cx}:VP X (λx H Q=>∃k,FL X.K x H k/\Q k H):=by
 intro cv s J H x v Q I c h;obtain⟨k,e,q⟩:=h;have u:=lP;have o:m6=16777216:=IV;cases x with
 |aA =>
  cases c;have a:k=false:=e;subst a;exact truthy_none ⟨H,I,q⟩
 |bl b =>
  cases c;have a:k=b:=e;subst a;exact YP ⟨H,I,q⟩
 |int i =>
  obtain⟨t,rfl⟩:=c;have a:k=(i != 0):=e;subst a;exact PySem.P.truthy_int ⟨H,I,q⟩
 |str y =>
  obtain⟨t,rfl⟩:=c;obtain⟨n,a⟩:y.length<=m6/\k=((y.length:Int) != 0):=e;subst a;exact PySem.P.truthy_str (by omega) ⟨H,I.tok _,q⟩
 |Cq y =>
  obtain⟨t,rfl⟩:=c;obtain⟨n,a⟩:y.size<=m6/\k=((y.size:Int) != 0):=e;subst a;exact PySem.W.truthy_bytes (by omega) ⟨H,I.tok _,q⟩
 |ref p =>
  cases c;have a:(∃B,dy X.K H p B/\k = !B.isEmpty)\/(∃B,fz X.K H p B/\k = !B.isEmpty) \/ ∃C,H p=some (.dK C)/\k = !C.isEmpty:=e;rcases a with⟨B,hx,a⟩|⟨B,hx,a⟩|⟨C,hx,a⟩
  . subst a
    obtain⟨j,r,d,f⟩:=I.list hx;have g:=r.length;exact wpAny_truthy_list d.isList (by simp only[om];omega) ⟨H,I.tok _,by rw[rH r];exact q⟩
  . subst a
    obtain⟨j,r,d,f⟩:=I.tuple hx;have g:=r.length;exact truthy_tuple d (by simp only[om];omega) ⟨H,I.tok _,by rw[rH r];exact q⟩
  . subst a
    obtain⟨f,l,E,r,m⟩:C.length<=m6/\(p == M7)=false /\ ∃E,KV C E/\s.heap.DictOf (fq X.prog X.w) p E:=I.aW p _ hx;have g:C.length=E.length:=Paired.length r;exact wpAny_truthy_dict l m (by omega) ⟨H,I.tok _,by rw[A3 r];exact q⟩
 |_=>exact(show False from e).elim
def FN {X:Cx}{n:TE}(f:PE X e n)(a:∀whole,isTrue e X.env whole=(do let g <- whole;Zg e.pos;HQ [g] (truthy g))):
  PT X e (λi H Q=>n i H λx p=>∃k,FL X.K x p k/\Q k p):=by
 intro cv s i H Q I h;exact isTrue_plain (aV (f cv s i H _ I h) λg q ⟨x,r,b,c,d⟩=>CI cv q i r x g Q b c d) (a _)
def A4 {X:Cx}:bJ X (ta .Add) (λx y H Q=>∃i j,x = .str i/\y = .str j/\i.length+j.length<=m6/\Q (.str (i++j)) H):=by intro cv s g H x y v u Q I a d h;obtain⟨i,j,rfl,rfl,c,q⟩:=h;obtain⟨t,rfl⟩:=a;obtain⟨b,rfl⟩:=d;exact add_str (λb e=>⟨.str (i++j),H,I.tok _,⟨_,rfl⟩,q⟩) c
def bai {x:V}(r:Vals [x] R):∃u,R = [u]/\mI x u:=by
 cases r with
 |cons c g=>cases g;exact⟨_,rfl,c⟩
def baj {x y:V}(r:Vals [x,y] R):∃u c,R = [u,c]/\mI x u/\mI y c:=by
 cases r with
 |cons g h =>
  cases h with
  |cons i n=>cases n;exact⟨_,_,rfl,g,i⟩
def CJ {X:Cx}(e:X.calm=true):dM X (.builtin "min") (λn H Q=>∃i j,n = [.int i,.int j]/\Q (.int (if j<i then j else i)) H):=by
 intro cv s p H n v Q I r h;obtain⟨i,j,rfl,q⟩:=h;obtain⟨u,b,rfl,⟨t,rfl⟩,⟨d,rfl⟩⟩:=baj r;refine min_two_ints (I.ok.hd e) λc a k=>⟨_,H,I.kept k,?_,q⟩
 by_cases g:j<i
 . rw[if_pos g,if_pos g];exact⟨_,rfl⟩
 . rw[if_neg g,if_neg g];exact⟨_,rfl⟩
def uo {X:Cx}:dM X (.type "int") (λc H Q=>(∃i,c = [.int i]/\Q (.int i) H) \/ ∃k,c = [.bl k]/\Q (.int (if k then 1 else 0)) H):=by
 intro cv s g H c n Q I r h;rcases h with⟨i,rfl,q⟩|⟨k,rfl,q⟩
 . obtain⟨u,rfl,t,rfl⟩:=bai r
   exact call_int_int ⟨.int i,H,I,⟨_,rfl⟩,q⟩
 . obtain⟨u,rfl,a⟩:=bai r
   cases a;exact call_int_bool ⟨.int (if k then 1 else 0),H,I.tok _,⟨_,rfl⟩,q⟩
structure dA (k:Nat)(A:qc):Prop where
 hd:A.handled=none
 dp:A.depth+3*k+5<recursionLimit
 un:A.units+16*k+200<cLine
 gd:A.guards=some []
theorem dA.deeper (r:dA (n+1) M)(env:Env):dA n (M.deeper env):=
 ⟨r.hd,by have:=r.dp;show M.depth+1+3*n+5<_;omega,by have:=r.un;show M.units+3+16*n+200<_;omega,by first|exact r.gd| (simp[Around.deeper];exact r.gd)⟩
theorem dA.depth (r:dA n M):M.depth<recursionLimit:=by have:=r.dp;omega
theorem dA.units (r:dA n M):M.units+64<cLine:=by have:=r.un;omega
noncomputable def MJ:TA:=λ_ H Q=>Q [] H
noncomputable def Rp (b:TE)(tr:TA):TA:=λc H Q=>b c H λx g=>tr c g λh a=>Q (x::h) a
def lQ {X:Cx}:PA X [] MJ:=λ_ _ _ _ H Q I h=>ahm ⟨[],H,I,.nil,h⟩
def ik {X:Cx}{g:TE}{t:TA}(o:PE X e g)(p:PA X B t)(n:ni (e::B) X.env=(false,eval e X.env)::ni B X.env):PA X (e::B) (Rp g t):=by intro pos cv s q H Q I h;rw[n];show wpAny _ _ (spliced ((false,eval e X.env)::v3 pos (ni B X.env))) _ _ s;refine afi (aV (o cv s q H _ I h) λu r l=>?_);obtain⟨x,v,j,c,f⟩:=l;exact aV (p pos cv r q v _ j f) λC E ⟨y,a,b,d,i⟩=>⟨x::y,a,b,.cons c d,i⟩
noncomputable def VS (t:TA):TE:=λh H Q=>t h H λc g=>c.length<=m6 /\ ∀p,g p=none->Q (.ref p) (upd g p (.tup c))
noncomputable def VT (t:TA):TE:=λh H Q=>t h H λc g=>c.length<=m6 /\ ∀p,g p=none->Q (.ref p) (upd g p (.lst c))
def MK {X:Cx}{t:TA}{d}(h:PA X B t):PE X (.Tuple B d pos) (VS t):=by intro cv s n H Q I c;refine wpAny_Tuple_spliced (aV (h pos cv s n H _ I c) λp g ⟨v,i,a,r,z,q⟩=>⟨by rw[<- r.length];exact z,?_⟩);have hf:i g.heap.objs.size=none:=a.aW.fresh (nc _);refine⟨.ref g.heap.objs.size,upd i g.heap.objs.size (.tup v),a.laid (t':=g.toks) (λb u e=>nG _ e) (nc _) ?_,rfl,q _ hf⟩;exact⟨z,p,r,⟨_,p9 _ rfl,rfl,⟨_,rfl⟩,rfl⟩⟩
def CK {X:Cx}{t:TA}(h:PA X B t):PE X (.List B pos) (VT t):=by intro cv s n H Q I c;refine wpAny_List_spliced (aV (h pos cv s n H _ I c) λp g ⟨v,i,a,r,z,q⟩=>⟨by rw[<- r.length];exact z,?_⟩);have hf:i g.heap.objs.size=none:=a.aW.fresh (nc _);refine⟨.ref g.heap.objs.size,upd i g.heap.objs.size (.lst v),a.laid (t':=g.toks) (λb u e=>nG _ e) (nc _) ?_,rfl,q _ hf⟩;exact⟨z,p,0,r,p9 _ rfl⟩
noncomputable abbrev Sp:=List V->Hp->VK->XK->Prop
noncomputable abbrev oj:=List Env->Hp->my->XK->Value->my->Prop
structure qB (P:uy)(w:World)(K:oi)(mg:Str->Option Value)(base:Heap)(A:qc)(outer:List Env)(s:my)(H:Hp):Prop where
 frames:A.frames=some outer
 mod:bab K mg base
 bs:∀b o,base.get? b=some o->s.heap.get? b=some o/\H b=none
 n_:base.objs.size<=s.heap.objs.size
 iE:s.heap.FunFrames base outer
 rE:∀b∈kY outer,H b=none
 aW:eH P w H s.heap
 bare:SW s.gens
noncomputable def CE (a:List Env)(P:uy)(w:World)(H:Hp)(s:my)(Q:VK)(u:Value)(b:my):Prop :=
 ∃v c,b.os=s.os/\SW b.gens/\Un (kY a) [] H c s.heap b.heap/\eH P w c b.heap/\mI v u/\Q v c
noncomputable def CR (c:oj)(a:List Env)(P:uy)(w:World)(H:Hp)(s:my)(Q:VK)(E:XK)(r:Result)(b:my):Prop :=
 match r with
 |.ok (.ret u)=>CE a P w H s Q u b|.ok _=>False|.error e=>c a H s E e b
structure d9 (P:uy)(w:World)(K:oi)(mg:Str->Option Value)(base:Heap)(CX:oj)(k:Nat)(f:Addr)(fd:x3)(ps:List Str)(sp:Sp):Prop where
 len:∀vs H Q E,sp vs H Q E->vs.length=ps.length
 run:∀(A:qc) (outer:List Env) (s:my) (H:Hp) (args:Args) (us:List Value) (vs:List V) (Q:VK) (E:XK),dA k A->qB P w K mg base A outer s H->ahj s fd args (ps.zip us)->Vals vs us->sp vs H Q E ->
  PL (model P w) A (.call (.ref f) args) (CR CX outer P w H s Q E) s
def d9.imp {i:oj}{p r:Sp}(F:d9 q l C A I i n f w K p)(h:∀g H Q E,r g H Q E->p g H Q E):d9 q l C A I i n f w K r :=
 ⟨λg H Q E mg=>F.len g H Q E (h _ _ _ _ mg),λP outer s H args u g Q E d v b a c=>F.run P outer s H args u g Q E d v b a (h _ _ _ _ c)⟩
def mn.FP {X:Cx}{g:mO}{H:Hp}(I:mn X cv g H c):qB X.prog X.w X.K X.mg X.base X.A X.stack c H :=
 ⟨I.ok.frames,I.ok.mod,I.bs,rK I.ok.n_ I.sz,I.stack,I.yP,I.aW,I.bare⟩
def mn.after {X:Cx}{i:mO}{H:Hp}{Q:VK}(I:mn X cv i H c)(u:CE X.stack X.prog X.w H c Q T h):EP X cv i Q T h:=by obtain⟨v,a,os,bare,un,e,r,q⟩:=u;obtain⟨f,g,d,t,s⟩:=h;obtain rfl:s=c.os:=os;exact⟨v,a,I.call (h':=f) (g':=g) (d':=d) (t':=t) (ch:=[]) un e bare (λb z=>absurd z (by simp)),r,q⟩
noncomputable def vq (c:Sp)(b:List V)(E:XK)(t:TA):TE:=λg H Q=>t g H λa h=>c (a++b) h Q E
noncomputable def L5 (K:oi)(fd:x3)(ps:List Str)(ds:List Value):Prop :=
 ∀(s:my) (c:List Value),K.In s.heap->(c++ds).length=ps.length->ahj s fd ⟨c,[]⟩ (ps.zip (c++ds))
def L5.all (h:∀c:List Value,c.length=K.length->WU w ⟨c,[]⟩=pure (K.zip c)):L5 C w K []:=λs c _ a=>by rw[wz]at a ⊢;exact .of_eq (h c a)
noncomputable def Passes (g:oj)(X:Cx)(E:XK):Prop:=∀(cv:List (Addr×Obj)) (h:mO) (H:Hp) (s:my) (e:Value) (c:my),mn X cv h H s->g X.stack H s E e c->X.xe e c
def v9 {X:Cx}{v:oj}{x:Sp}{g:List V}{E:XK}{q:mO}{H:Hp}{Q:VK}{us:List Value}{p:List V}(F:d9 X.prog X.w X.K X.mg X.base v n f w K x)(j:dA n X.A)(i:L5 X.K w K R)(l:Vals g R)(k:Passes v X E)(I:mn X cv q H c)(r:Vals p us)(h:x (p++g) H Q E):wpAny (model X.prog X.w) X.A (call (.ref f) us) (EP X cv q Q) X.xe c:=by
 have b:Vals (p++g) (us++R):=r.append l;have d:(us++R).length=K.length:=by rw[<- b.length];exact F.len _ _ _ _ h
 refine agE (U7 (F.run X.A X.stack c H ⟨us,[]⟩ (us++R) (p++g) Q E j I.FP (i c us I.gO d) b h) λr s a=>?_);cases r with
 |error e=>exact k cv q H c e s I a
 |ok fl =>
  cases fl with
  |ret u=>exact I.after a|next=>exact A9 a|brk=>exact A9 a|cont=>exact A9 a
def JI {X:Cx}{g:oj}{p:Sp}{C:List V}{E:XK}{t:TA}(F:d9 X.prog X.w X.K X.mg X.base g n f w K p)(i:dA n X.A)(y:Gl X x)(c:X.mg x=some (.ref f))(ps:Ou X.K (.ref f)=true)(d:L5 X.K w K R)(fd:Vals C R)(z:Passes g X E)(v:PA X (e::B) t)(k:(x == ("__debug__":Str))=false)(u:ni (e::B) X.env=(false,eval e X.env)::ni B X.env)(l:(v3 pos (ni B X.env)).any (·.1)=false):
  PE X (.Call (.Name x j) (e::B) [] pos) (vq p C E t):=by
 intro cv s J H Q I h;refine Tb (pq I y c ?_ k);refine afj (h₀:=X.base) I.ok.mod.rD ps (aV (v pos cv s J H _ I h) λM O ⟨b,U,a,r,q⟩=>⟨a.gO,?_⟩) u l;exact v9 F i d fd z a r q
def FQ {X:Cx}{g:oj}{p:Sp}{q:List V}{E:XK}(F:d9 X.prog X.w X.K X.mg X.base g n f w K p)(c:dA n X.A)(k:Gl X x)(a:X.mg x=some (.ref f))(fd:Ou X.K (.ref f)=true)(b:L5 X.K w K R)(i:Vals q R)(l:Passes g X E)(d:(x == ("__debug__":Str))=false):PE X (.Call (.Name x j) [] [] pos) (vq p q E MJ):=by
 intro cv s r H Q I h;refine Tb (pq I k a ?_ d);exact PySem.W.callWith_K0 I.gO fd (v9 (us:=[]) F c b i l I .nil h)
structure ke (N P:List Str)(sc:Scope):Prop where
 kind:sc.kind = .function
 co:sc.isCoroutine=false
 gen:sc.isGenerator=false
 nd:N.Nodup
 pre:N.take P.length=P
 par:∀x∈P,sc.names.lookup x=some .local\/sc.names.lookup x=some .cell
 ML:∀y∈sc.names,y.2 ≠ .free
theorem uq {a:Str->Option Dc}{x:Str}:∀{binds:List (Str×Value)} {m:Str->Option Value},(∀v,(x,v) ∉ binds)->bindL a binds m x=m x
 | [],_,_=>rfl
 | (n,v)::r,m,h=>by
  unfold bindL;rw[uq λw hw=>h w (p8 _ hw)];split
  . have:x≠n:=by rintro rfl;exact h v sv
    simp[this]
  . rfl
theorem uu {a:Str->Option Dc}{x:Str}:∀{binds:List (Str×Value)} {m:Str->Option Value},(∀v,(x,v) ∉ binds)->bindC a binds m x=m x
 | [],_,_=>rfl
 | (n,v)::r,m,h=>by
  unfold bindC;rw[uu λw hw=>h w (p8 _ hw)];split
  . rfl
  . have:x≠n:=by rintro rfl;exact h v sv
    simp[this]
theorem uw {b:Str->Option Dc}{x:Str}{v:Value}:∀{P:List Str} {c:List Value} {i:Nat} {m:Str->Option Value},P.Nodup->P[i]? = some x->c[i]? = some v->b x=some .local ->
  bindL b (P.zip c) m x=some v
 | [],_,_,_,_,h,_,_=>by simp at h|_::_,[],_,_,_,_,h,_=>by simp at h|p::P,w::c,0,m,nd,h1,h2,hk=>by simp at h1 h2;subst h1;subst h2;show bindL b ((p,w)::P.zip c) m p=_;unfold bindL;rw[uq λv a=>(Dy.mp nd).1 (T3 a).1,if_pos hk];simp|p::P,w::c,i+1,m,nd,h1,h2,hk=>by show bindL b ((p,w)::P.zip c) m x=_;unfold bindL;exact uw (i:=i) (Dy.mp nd).2 (by simpa using h1) (by simpa using h2) hk
theorem ux {b:Str->Option Dc}{x:Str}{v:Value}:∀{P:List Str} {c:List Value} {i:Nat} {m:Str->Option Value},P.Nodup->P[i]? = some x->c[i]? = some v->b x≠some .local ->
  bindC b (P.zip c) m x=some v
 | [],_,_,_,_,h,_,_=>by simp at h|_::_,[],_,_,_,_,h,_=>by simp at h|p::P,w::c,0,m,nd,h1,h2,hk=>by simp at h1 h2;subst h1;subst h2;show bindC b ((p,w)::P.zip c) m p=_;unfold bindC;rw[uu λv a=>(Dy.mp nd).1 (T3 a).1,if_neg hk];simp|p::P,w::c,i+1,m,nd,h1,h2,hk=>by show bindC b ((p,w)::P.zip c) m x=_;unfold bindC;exact ux (i:=i) (Dy.mp nd).2 (by simpa using h1) (by simpa using h2) hk
noncomputable def wm (N:List Str)(c:List V):mO:=c.map some++nN (N.length-c.length) none
noncomputable def mR (lx:Lx)(CX:oj)(P:uy)(w:World)(K:oi)(mg:Str->Option Value)(base:Heap)(N:List Str)(d:Str)(scope:Scope)(f:Addr)(h:Value)(A:qc)(outer:List Env)(s:my)(H:Hp)(E:XK):Cx where
 prog:=P
 w:=w
 K:=K
 mg:=mg
 base:=base
 A:=A.deeper (Ox d scope s.heap.objs.size f h)
 N:=N
 s₀:=s
 H₀:=H
 env:=Ox d scope s.heap.objs.size f h
 outer:=outer
 stack:=Ox d scope s.heap.objs.size f h::outer
 ex:=[]
 calm:=true
 fn:=λ_=>true
 pn:=[]
 lx:=lx
 xe:=λe b=>wpAny (model P w) (A.deeper (Ox d scope s.heap.objs.size f h)) (leaving (Ox d scope s.heap.objs.size f h) e) (λ_ a=>CX outer H s E e a) (λc a=>CX outer H s E c a) b
def wa (h:J.names.lookup x=some .cell):∃c,(wN n J.names []).lookup x=some c:=by have q:=agg J.names n [] (.inl h);exact ad4.mp q
def CM {lx:Lx}{U:oj}{ps:List Str}{B:List Env}{H:Hp}{E:XK}{O:List V}(S:ke K ps J)(L:M.handled=none)(g:qB q l C A I M B c H)(mg:O.length=ps.length)(r:Vals O R)(s:InCallC c c.heap.objs.size (bindL (Ox x J c.heap.objs.size f T).kindOf (ps.zip R) λ_=>none) (wN (c.heap.objs.size+1) J.names []) (bindC (Ox x J c.heap.objs.size f T).kindOf (ps.zip R) λ_=>none) h):
   mn (mR lx U q l C A I K x J f T M B c H E) [] (wm K O) H h:=by
 have fX:ps.length<=K.length:=by have:=congrArg afc S.pre;rw[Cu]at this;omega
 obtain⟨h1,tk,rfl,hk⟩:=s.done;have Q:∀b:Addr,b ∉ (mR lx U q l C A I K x J f T M B c H E).ex:=λb z=>absurd (show b∈([]:List Addr) from z) (by simp);refine⟨⟨g.mod,S.kind,rfl,rfl,nc _,λy z w h1 d=>?_,λy j=>?_,λy w _ base=>?_,λ_=>L,agF g.frames,.inr ⟨rfl,rfl⟩,λb z=>absurd z (Q b),g.bs,g.n_,λb _ _=>Q b,λb z=>absurd z (Q b),g.iE,g.rE⟩,
   rfl,g.bare,Un.kept hk,⟨_,s.toInCall.ns,λi y v h1 d h3=>?_⟩,λy w base=>⟨_,s.cell y w base⟩,g.aW.fresh (nc _),λy w base=>?_,λp P=>absurd (show p∈([]:List (Addr×Obj)) from P) (by simp),g.aW.kept hk,?_⟩
 . exact name_of_addr s.apart (zS h1) (zS d)
 . have j:J.names.lookup y=some .cell\/J.names.lookup y=some .free:=j
   rcases j with j|j
   . exact wa j
   . exact absurd rfl (S.ML _ (zS j))
 . exact Vd (s.above y w (zS base))
 . have o:i<O.length:=by
     unfold wm at d;by_cases o:i<O.length
     . exact o
     . rw[Fq (by simpa using o)]at d
       rw[af8]at d;split at d<;>cases d
   have Y:O[i]? = some v:=by
     unfold wm at d;rw[r_ (by simpa using o),qd]at d;cases e:O[i]? with
     |none=>rw[e]at d;cases d|some a=>rw[e]at d;cases d;rfl
   obtain⟨u,hu,Z⟩:=r.get Y;have P:ps[i]? = some y:=by rw[<- S.pre,C8 (by omega)];exact h1
   have X:ps.Nodup:=by rw[<- S.pre];exact S.nd.sublist (afD _ _)
   refine⟨u,Z,?_⟩;rcases S.par y (sZ P)with k|k
   . exact .inl ⟨k,uw X P hu k⟩
   . obtain⟨w,e⟩:=wa (n:=c.heap.objs.size+1) k
     refine .inr ⟨.inl k,w,e,?_⟩;have N:=s.cell y w e;rw[ux X P hu (by show J.names.lookup y≠_;rw[k];decide)]at N;exact N
 . exact g.aW.fresh (Vd (s.above y w (zS base)))
 . unfold wm
   show _=K.length;rw[nv,qV,List.length_replicate];omega
def Rq {lx:Lx}{CX:oj}{B:Str}{k:TH}{O kV M L ct Y:Value}{R U:Option Addr}{wb:Array (Option Value)}{ps:List Str}{sp:Sp}(X:C.lookup f=some ⟨Y,U,.func (Oc x B k a J O kV M T R L ct),wb⟩)(Z:aeg C L B=true)(S:ke K ps J)(len:∀vs H Q E,sp vs H Q E->vs.length=ps.length)(A5:∀(mg:qc) (outer:List Env) (s:my) (H:Hp) (vs:List V) (Q:VK) (E:XK),dA n (mg.deeper (Ox B J s.heap.objs.size f L))->sp vs H Q E ->
    ∃t,iF (mR lx CX q l C A I K B J f L mg outer s H E) a t/\t { nx:=λ_ H'=>Q .aA H',rt:=Q } (wm K vs) H):
  d9 q l C A I CX (n+1) f (Oc x B k a J O kV M T R L ct) ps sp:=by
 refine⟨len,λmg outer s H args us vs Q E i c hb r j=>?_⟩;have hl:=len _ _ _ _ j;have P:C.In s.heap:=c.mod.rD.keeps λb o e=>(c.bs b o e).1;have lim:s.heap.NoLimit:=c.mod.nolimit.keeps λb o e=>(c.bs b o e).1;have vt:∀y∈ps.zip us,J.names.lookup y.1=some .local\/(J.names.lookup y.1=some .cell/\((wN (s.heap.objs.size+1) J.names []).lookup y.1).isSome=true):=λ⟨w,v⟩ hy=>by
  rcases S.par w (T3 hy).1 with base|base
  . exact .inl base
  . exact .inr ⟨base,agg _ _ _ (.inl base)⟩
 refine codeAny_call_function i.depth (P _ _ X) rfl S.co S.gen rfl (PySem.W.codeRec_of P Z) (hb _ _ _ _ ?_);refine wpAny_newFunctionEnv_cells S.kind vt λenv he s1 g=>?_;subst he;refine⟨lim.keeps g.toInCall.keep,codeAny_func ?_⟩;obtain⟨t,p,hq⟩:=A5 mg outer s H vs Q E (i.deeper _) j;have name:mn (mR lx CX q l C A I K B J f L mg outer s H E) [] (wm K vs) H s1:=CM S i.hd c hl r g;refine Zc (p [] s1 (wm K vs) H _ name hq) (λz s' N=>?_) λe s' N=>N;have fin:∀{d:mO} {H':Hp} {v:V} {u:Value},mn (mR lx CX q l C A I K B J f L mg outer s H E) [] d H' s'->mI v u->Q v H'->CE outer q l H s Q u s' :=
  fun {d H' v u} body h base=>⟨v,H',body.os,body.bare,body.base,body.aW,h,base⟩
 cases z with
 |ret u =>
  obtain⟨v,d,H',body,h,base⟩:=N;exact fin body h base
 |next =>
  obtain⟨d,H',body,base⟩:=N;exact fin (v:=V.aA) (u:=Ad) body rfl base
 |brk =>
  obtain⟨_,_,_,base⟩:=N;exact A9 base
 |cont =>
  obtain⟨_,_,_,base⟩:=N;exact A9 base
noncomputable def Tu (r:List V->Hp->VK->Prop)(t:TA):TE:=λc H Q=>t c H λa g=>r a g Q
def wc {X:Cx}{t:TA}{r:List V->Hp->VK->Prop}(i:dM X (.builtin u) r)(q:Gl X x)(f:X.mg x=none)(y:L0 x=some (.builtin u))(o:PA X (e::B) t)(v:x ≠ "__name__":=by decide)(p:(x == ("__debug__":Str))=false:=by decide)(n:ni (e::B) X.env=(false,eval e X.env)::ni B X.env:=by rfl)(l:(v3 pos (ni B X.env)).any (·.1)=false:=by rfl):PE X (.Call (.Name x j) (e::B) [] pos) (Tu r t):=by
 intro cv s g H Q I h;refine Tb (iG I q f y ?_ v p);exact aeR (aV (o pos cv s g H _ I h) λC E ⟨c,J,a,b,d⟩=>i cv E g J c C Q a b d) n l
def CN {X:Cx}{t:TA}{r:List V->Hp->VK->Prop}(i:dM X (.type u) r)(q:Gl X x)(f:X.mg x=none)(y:L0 x=some (.type u))(o:PA X (e::B) t)(v:x ≠ "__name__":=by decide)(p:(x == ("__debug__":Str))=false:=by decide)(n:ni (e::B) X.env=(false,eval e X.env)::ni B X.env:=by rfl)(l:(v3 pos (ni B X.env)).any (·.1)=false:=by rfl):PE X (.Call (.Name x j) (e::B) [] pos) (Tu r t):=by
 intro cv s g H Q I h;refine Tb (iG I q f y ?_ v p);exact ZV (aV (o pos cv s g H _ I h) λC E ⟨c,J,a,b,d⟩=>i cv E g J c C Q a b d) n l
end
variable {X:Cx}{H:Hp}{r:mO}{U:List V}
section
open PyProof.Rows
variable {Z I:TE}{Y:Option Expr}{O K:String}{J:Pos}{o w:Option Int}{C:Array Value}{A:List V}{z v:V}{u:V->Option Int->Option Int->Hp->VK->Prop}{t:R2}
section
open PySem.SeqAt
open PySem.AutoSeq1 (wpAny_loadPart')
open PySem.MeetsSeq PySem.MeetsSeq2 PySem.MeetsSeq3
end
def JJ {b:Addr}{prog:List Value}(z:IsTup c.heap f R.toArray)(v:IsTup c.heap b prog.toArray)(r:R ≠ [])(y:prog = []->Q (.ref f) c)(u:prog ≠ []->Q (.ref c.heap.objs.size) { c with heap:=c.heap.push { cls:=.type "tuple",data:=.seq (R++prog).toArray } })(x:R.length+prog.length<=m6):wpAny (model q l) M (ta .Add (.ref f) (.ref b)) Q E c:=by
 obtain⟨⟨cls,o,data,j⟩,B,w,n,hd⟩:=id z;obtain⟨⟨p,d,data2,h⟩,a,i,t,g⟩:=id v;simp only at w hd i g;subst w hd i g;have e:R.toArray++prog.toArray=(R++prog).toArray:=by simp
 by_cases hw:prog = []
 . exact afX ⟨_,B,rfl⟩ ⟨_,a,rfl⟩ afY agP aeq aem (ad5 _ _)
    (tuple_addW1 f b R.toArray prog.toArray n t o d j h (by simpa using r) (by simp[hw])) ⟨B,a,y hw⟩
 . refine afX ⟨_,B,rfl⟩ ⟨_,a,rfl⟩ afY agP aeq aem (ad5 _ _)
    (tuple_addW2 f b R.toArray prog.toArray n t o d j h (by simpa using r) (by simpa using hw) (by rw[om,om];exact x)) ⟨B,a,?_⟩
   rw[e];exact u hw
noncomputable def bo (n d:Nat):Option Int->Nat
 |none=>d|some v=>if v<0 then(v+(n:Int)).toNat else min v.toNat n
def we (n d:Nat):bo n d none=d:=rfl
def yT (n d k:Nat):bo n d (some (k:Int))=min k n:=by show(if(k:Int)<0 then((k:Int)+(n:Int)).toNat else min (k:Int).toNat n)=min k n;rw[if_neg (by omega),Nc]
def MM (n d:Nat)(a:d<=n)(o:Option Int):bo n d o<=n:=by
 cases o with
 |none=>exact a
 |some v =>
  show(if v<0 then(v+(n:Int)).toNat else min v.toNat n)<=n;by_cases c:v<0
  . rw[if_pos c];omega
  . rw[if_neg c];exact Nat.min_le_right _ _
def yU (v:Int)(n d:Nat):(if v<0 then max (v+(n:Int)) 0 else min v (n:Int))=((bo n d (some v):Nat):Int):=by
 show(if v<0 then max (v+(n:Int)) 0 else min v (n:Int))=(((if v<0 then(v+(n:Int)).toNat else min v.toNat n):Nat):Int);by_cases c:v<0
 . simp only[if_pos c];omega
 . simp only[if_neg c];omega
def A6 (c b:Option Int)(n:Nat):TL c b 1 (n:Int)=(((bo n 0 c:Nat):Int),((bo n n b:Nat):Int)):=by
 have a:¬((1:Int)<0):=by omega
 unfold TL;simp only[a,if_false];refine Prod.ext ?_ ?_
 . cases c with
   |none=>rfl|some v=>exact yU v n 0
 . cases b with
   |none=>rfl|some v=>exact yU v n n
def A7 (i j:Nat):XP (i:Int) (j:Int) 1=j-i:=by
 unfold XP;have a:(1:Int)>0:=by omega
 simp only[a,if_true,Int.ediv_one];split<;>omega
def iH {Q:Option Int->my->Prop}(p:CV T o)(h:Q o c):wpAny (model q l) M (Builtin.Slice.slicePartIndex T) Q E c:=by
 cases p with
 |none=>exact slicePart_none h|int i t=>exact slicePart_int h
def ky {i:Value}{Q:Int×Int×Nat->my->Prop}(j:c.heap.IsSliceOf f T i .none)(e:CV T o)(p:CV i w)(h:Q (((bo n 0 o:Nat):Int),1,bo n n w-bo n 0 o) c):wpAny (model q l) M (ac8 (.ref f) (pure (n:Int))) Q E c:=by
 obtain⟨os,b,d,a⟩:=id j;unfold ac8 afK;refine l8 (l8 (Ft b a (x:=T) rfl (l8 (Ft b a (x:=i) rfl (l8 (Ft b a (x:=.none) rfl (mA ?_)))))));refine l8 (slicePart_none ?_);show wpAny _ _ (if((1:Int)== 0)=true then _ else _) _ _ c;rw[if_neg (by decide)];refine l8 (iH e (l8 (iH p (l8 (mA ?_)))));show wpAny _ _ (match TL o w 1 (n:Int)with| (o,w)=>pure (o,(1:Int),XP o w 1)) _ _ c;rw[A6 o w n];show wpAny _ _ (pure (((bo n 0 o:Nat):Int),(1:Int),XP ((bo n 0 o:Nat):Int) ((bo n n w:Nat):Int) 1)) _ _ c;rw[A7];exact mA h
def FU (c:Array Value)(i k:Nat):((r6 k).filterMap λ(m:Nat)=>c[((i:Int)+(m:Int)*1).toNat]?).toArray=((c.toList.drop i).take k).toArray:=by
 have e:(λ(m:Nat)=>c[((i:Int)+(m:Int)*1).toNat]?)=λm=>c[i+m]?:=by
  funext m;have:((i:Int)+(m:Int)*1).toNat=i+m:=by omega
  rw[this]
 rw[e];have:=pick_run c i k;rw[ag_]at this;have a:((λx=>c[x]?) ∘ λx=>i+x)=λm=>c[i+m]?:=rfl;rw[a]at this;rw[this]
def pX {r:Addr}{x:Value}(p:IsTup c.heap f C)(u:c.heap.IsSliceOf r T x .none)(y:CV T w)(z:CV x o)(hw:¬(bo C.size 0 w=0/\bo C.size C.size o=C.size))(h:Q (.ref c.heap.objs.size) { c with heap:=c.heap.push { cls:=.type "tuple",data:=.seq ((C.toList.drop (bo C.size 0 w)).take (bo C.size C.size o-bo C.size 0 w)).toArray } })(B:C.size<=m6):wpAny (model q l) M (Pd (.ref f) (.ref r)) Q E c:=by
 have a:sizeOk (.seq ((C.toList.drop (bo C.size 0 w)).take (bo C.size C.size o-bo C.size 0 w)).toArray):=by show((C.toList.drop (bo C.size 0 w)).take (bo C.size C.size o-bo C.size 0 w)).toArray.size<=m6;rw[om,Cu,aez,ad0];omega
 have n:bo C.size C.size o<=C.size:=MM _ _ (nc _) o;obtain⟨os,g,e,i⟩:=id u;have b:c.TypeIs (.ref r) "slice":=⟨os,g,e⟩
 unfold Pd;try with_reducible refine wh ?_
 first|refine l8 (mA ?_)|skip
 refine l8 (adA p.typeIs (by decide) ?_);refine l8 (HX (name:=vx "__getitem__") p.typeIs PF
  (yc PF p.typeIs ae0 ?_ (afk _ _)))
 show wpAny _ _ (ac9 (.ref f) >>= _) _ _ c;refine l8 (agQ p ?_);refine l8 (YX b ?_);rw[if_pos (by decide)];refine l8 (ky u y z ?_);have d:¬((((bo C.size 0 w:Nat):Int)== 0&&(1:Int)== 1&&(bo C.size C.size o-bo C.size 0 w)== C.size)=true):=by intro v;rw[mS,mS]at v;have t:((bo C.size 0 w:Nat):Int)=0:=eq_of_beq v.1.1;have j:bo C.size C.size o-bo C.size 0 w=C.size:=eq_of_beq v.2;exact hw ⟨by omega,by omega⟩
 show wpAny _ _ (if(((bo C.size 0 w:Nat):Int)== 0&&(1:Int)== 1&&(bo C.size C.size o-bo C.size 0 w)== C.size)=true then _ else _) _ _ c;rw[if_neg d,FU];first
  |exact l8 (m:=UY _) (z5 (mA ⟨_,rfl,mA h⟩) a)
  |exact l8 (m:=UY _) (z5 (l8 (mA (mA ⟨_,rfl,mA h⟩))) a)
  |exact l8 (l8 (m:=UY _) (z5 (mA (mA ⟨_,rfl,mA h⟩)) a))
  |exact l8 (l8 (m:=UY _) (z5 (mA ⟨_,rfl,mA h⟩) a))
noncomputable abbrev TO:=mO->Hp->(Option Int->Hp->Prop)->Prop
noncomputable def PO (X:Cx)(e:Option Expr)(t:TO):Prop :=
 ∀(g:List (Addr×Obj)) (s:my) (c:mO) (H:Hp) (Q:Option Int->Hp->Prop),mn X g c H s->t c H Q ->
  wpAny (model X.prog X.w) X.A (evalPart e X.env) (λu a=>∃o h,mn X g c h a/\CV u o/\Q o h) X.xe s
noncomputable def JK:TO:=λ_ H Q=>Q none H
noncomputable def Rt (t:TE):TO:=λc H Q=>t c H λx g=>∃i,x = .int i/\Q (some i) g
def JL:PO X none JK:=by intro c s g H Q I h;rw[evalPart_none];exact mA ⟨none,H,I,.none,h⟩
def JM (h:PE X e Z):PO X (some e) (Rt Z):=by intro g s n H Q I hw;rw[evalPart_some];refine aV (h g s n H _ I hw) λu r d=>?_;obtain⟨x,p,c,a,b⟩:=d;obtain⟨i,rfl,q⟩:=b;obtain⟨t,rfl⟩:=a;exact⟨some i,p,c,.int i t,q⟩
noncomputable def qf (X:Cx)(r:V->Option Int->Option Int->Hp->VK->Prop):Prop :=
 ∀(c:List (Addr×Obj)) (s:my) (g:mO) (H:Hp) (x:V) (v h i:Value) (n p:Option Int) (sl:Addr) (Q:VK),mn X c g H s->mI x v->s.heap.IsSliceOf sl h i .none->CV h n->CV i p->r x n p H Q ->
  ∃T id,typeLookup (.type T) "__getitem__" = pure (some (.builtin id))/\s.TypeIs v T/\wpAny (model X.prog X.w) X.A (Pd v (.ref sl)) (EP X c g Q) X.xe s
def qf.or {i:V->Option Int->Option Int->Hp->VK->Prop}(h:qf X u)(y:qf X i):qf X (λx g n H Q=>u x g n H Q\/i x g n H Q):=by
 intro p s r H x v b c g n e Q I a f d pu q;rcases q with q|q
 . exact h p s r H x v b c g n e Q I a f d pu q
 . exact y p s r H x v b c g n e Q I a f d pu q
noncomputable def Y1 (r:V->Option Int->Option Int->Hp->VK->Prop)(g:TE)(h i:TO):TE:=λc H Q=>g c H λx n=>h c n λl a=>i c a λu b=>r x l u b Q
def FV {R:Option Expr}{U:TO}{th:TO}(B:qf X u)(C:PE X e Z)(E:PO X Y U)(hu:PO X R th):PE X (.Subscript e (.Slice Y R none J) j) (Y1 u Z U th):=by intro M s O H Q I h;refine Subscript_ (aV (C M s O H _ I h) λv s1 d=>?_);obtain⟨x,H1,I1,y,q1⟩:=d;refine wpAny_Slice (aV (E M s1 O H1 _ I1 q1) λc s2 ⟨l,i,p,o,q2⟩=>aV (hu M s2 O i _ p q2) λa g d=>?_);obtain⟨te,f,r,pu,q3⟩:=d;rw[evalPart_none];refine mA ?_;have z:mn X M O f { g with heap:=g.heap.push { cls:=.type "slice",data:=.fields #[c,a,.none] } }:=r.kept (t':=g.toks) λb ob q=>nG _ q;obtain⟨T,id,hT,n,hg⟩:=B M { g with heap:=g.heap.push { cls:=.type "slice",data:=.fields #[c,a,.none] } } O f x v c a l te g.heap.objs.size Q z y (aha ..) o pu q3;show wpAny (model X.prog X.w) X.A (agR e (.Slice Y R none J) v (.ref g.heap.objs.size)) (EP X M O Q) X.xe { g with heap:=g.heap.push { cls:=.type "slice",data:=.fields #[c,a,.none] } };exact tail_any (ops:=[.ref g.heap.objs.size,v]) n hT hg (by with_unfolding_all rfl)
noncomputable def oo (c:List V)(g h:Option Int):List V:=(c.drop (bo c.length 0 g)).take (bo c.length c.length h-bo c.length 0 g)
def qg (c:List V)(g h:Option Int):(oo c g h).length<=c.length:=by unfold oo;rw[Cu,aez];omega
noncomputable def MO (K:oi):V->Option Int->Option Int->Hp->VK->Prop:=λx g b H Q=>∃a c,x = .ref a/\fz K H a c /\
 ¬(bo c.length 0 g=0/\bo c.length c.length b=c.length) /\ ∀p,H p=none->Q (.ref p) (upd H p (.tup (oo c g b)))
def MP:qf X (MO X.K):=by
 intro E s J H x v z p C c u Q I j l i pu h;obtain⟨a,B,rfl,n,hw,q⟩:=h;cases j;obtain⟨f,r,d,e⟩:=I.tuple n;have g:f.toArray.size=B.length:=by rw[om];exact r.length.symm
 refine⟨"tuple",_,PF.lookup,d.typeIs,?_⟩;refine pX d l i pu (by rw[g];exact hw) ?_ (by rw[g];exact e);rw[g];refine⟨.ref s.heap.objs.size,_,I.laid (t':=s.toks) (o:=.tup (oo B C c)) (λb y q=>nG _ q) (nc _) ?_,rfl,q _ (I.aW.fresh (nc _))⟩;exact⟨rK (qg B C c) e,_,(r.drop (bo B.length 0 C)).take (bo B.length B.length c-bo B.length 0 C),fV.new _ _⟩
noncomputable def Ru (K:oi):R2:=λx y H Q=>∃a b g c,x = .ref a/\y = .ref b/\fz K H a g/\fz K H b c/\g ≠ []/\g.length+c.length<=m6 /\
 (c = []->Q (.ref a) H)/\(c ≠ []->∀p,H p=none->Q (.ref p) (upd H p (.tup (g++c))))
def Vals.tv (r:Vals U R):R = []↔ U = []:=by
 cases r with
 |nil=>simp|cons _ _=>simp
def JN:bJ X (ta .Add) (Ru X.K):=by intro C s E H x y v u Q I j g h;obtain⟨a,b,B,p,rfl,rfl,f,hb,r,e,l,n⟩:=h;cases j;cases g;obtain⟨J,d,p1,_⟩:=I.tuple f;obtain⟨M,c,i,_⟩:=I.tuple hb;refine JJ p1 i (λz=>r (d.tv.mp z)) (λz=>⟨.ref a,H,I,rfl,l (c.tv.mp z)⟩) (λz=>?_) (by rw[<- d.length,<- c.length];exact e);refine⟨.ref s.heap.objs.size,_,I.laid (t':=s.toks) (o:=.tup (B++p)) (λb O q=>nG _ q) (nc _) ?_,rfl,n (λw=>z (c.tv.mpr w)) _ (I.aW.fresh (nc _))⟩;exact⟨by rw[nv];exact e,_,d.append c,fV.new _ _⟩
noncomputable def lR (n:Nat)(i:Int):Option Nat:=if 0<=i then(if i<n then some i.toNat else none)else if -(n:Int)<=i then some (i+n).toNat else none
noncomputable def eI {c:Type}(g:List c)(i:Int):Option c:=(lR g.length i).bind λj=>g[j]?
def yV (h:lR n i=some p):seqIndex? i n=some p/\p<n /\ -(n:Int)<=i/\i<n:=by
 unfold lR at h;by_cases c:0<=i
 . rw[if_pos c]at h
   by_cases h1:i<n
   . rw[if_pos h1]at h
     have e:i.toNat=p:=DM h;exact⟨by rw[ahw c h1,e],by omega,by omega,h1⟩
   . rw[if_neg h1]at h;cases h
 . rw[if_neg c]at h
   by_cases h1:-(n:Int)<=i
   . rw[if_pos h1]at h
     have e:(i+n).toNat=p:=DM h;exact⟨by rw[seqIndex_neg (by omega) h1,e],by omega,h1,by omega⟩
   . rw[if_neg h1]at h;cases h
def tw {f:Type}{g:List f}{v:f}(h:eI g i=some v):∃j,seqIndex? i g.length=some j/\g[j]? = some v/\j<g.length /\ -(g.length:Int)<=i/\i<g.length:=by
 unfold eI at h;cases e:lR g.length i with
 |none=>rw[e]at h;cases h
 |some j =>
  rw[e]at h;obtain⟨b,d,a,c⟩:=yV e;exact⟨j,b,h,d,a,c⟩
def gp {b:Type}{c:List b}{v:b}(h:c[n]? = some v):eI c (n:Int)=some v:=by
 have a:n<c.length:=(mT.mp h).1;have e:lR c.length (n:Int)=some n:=by unfold lR;rw[if_pos (by omega),if_pos (by omega)];simp
 unfold eI;rw[e];exact h
def FW {b:Type}(c:List b)(v:b):eI (c ++ [v]) (-1)=some v:=by
 have a:(c ++ [v]).length=c.length+1:=by simp
 have e:lR (c ++ [v]).length (-1)=some c.length:=by unfold lR;rw[a,if_neg (by decide),if_pos (by omega)];congr 1;omega
 unfold eI;rw[e];show(c ++ [v])[c.length]? = some v;simp
noncomputable def pA (b:Expr):Prop:=∀o i,subscripted b false o i=operate [o,i] (Pd o i)
noncomputable def nK (X:Cx)(r:R2):Prop :=
 ∀(value slice:Expr) (c:List (Addr×Obj)) (s:my) (g:mO) (H:Hp) (x y:V) (v u:Value) (Q:VK),mn X c g H s->mI x v->mI y u->r x y H Q ->
  subscripted slice false v u=operate [v,u] (Pd v u)->wpAny (model X.prog X.w) X.A (agR value slice v u) (EP X c g Q) X.xe s
noncomputable def MQ (X:Cx)(id:String)(r:V->List V->Hp->VK->Prop):Prop :=
 ∀(c:List (Addr×Obj)) (s:my) (g:mO) (H:Hp) (x:V) (h:List V) (v:Value) (i:List Value) (Q:VK),mn X c g H s->mI x v->Vals h i->r x h H Q ->
  wpAny (model X.prog X.w) X.A (call (.builtin id) (v::i)) (EP X c g Q) X.xe s
def nK.or {d:R2}(h:nK X t)(n:nK X d):nK X (λx y H Q=>t x y H Q\/d x y H Q):=by
 intro value slice g s i H x y v u Q I a c q b;rcases q with q|q
 . exact h value slice g s i H x y v u Q I a c q b
 . exact n value slice g s i H x y v u Q I a c q b
def HR (l:nK X t)(n:PE X e Z)(r:PE X y I)(i:pA y):PE X (.Subscript e y j) (CG t Z I):=by intro g s p H Q B h;exact Subscript_ (FJ n r B h λv u C x a c d b f q=>l e y g C p c x a v u Q d b f q (i _ _))
noncomputable def MS (K:oi):R2:=λx y H Q=>∃p c i v,x = .ref p/\y = .int i/\dy K H p c/\eI c i=some v/\Q v H
noncomputable def MT (K:oi):R2:=λx y H Q=>∃p c i v,x = .ref p/\y = .int i/\fz K H p c/\eI c i=some v/\Q v H
noncomputable def MU:R2:=λx y H Q=>∃z i c,x = .str z/\y = .int i/\z.length<=m6/\eI z.cps.toList i=some c/\Q (.str ⟨#[c]⟩) H
def JO:nK X (MS X.K):=by
 intro value slice g s B H x y v u Q I E J h e;obtain⟨p,U,i,z,rfl,rfl,hq,M,q⟩:=h;cases E;obtain⟨t,rfl⟩:=J;obtain⟨l,r,c,hz⟩:=I.list hq;obtain⟨j,a,h2,Y,O,o⟩:=tw M;obtain⟨w,d,n⟩:=r.get h2;have R:=r.length;have Z:=lP;have fin:EP X g B Q w s:=⟨z,H,I,n,q⟩
 by_cases C:0<=i
 . have b:i.toNat=j:=by
    rw[ahw C o]at a;exact DM a
   exact item_listR c.isList C (by omega) (by rw[b];simpa using d) fin e
 . have b:(i+(l.toArray.size:Int)).toNat=j:=by
    rw[seqIndex_neg (by omega) O]at a;rw[om,<- R];exact DM a
   exact adx (x:=w) c.isList.typeIs slot_list_getitem.lookup
    (wpAny_getItem_list_neg (Q:=λr f=>r=w/\EP X g B Q r f) c.isList (by omega) (by rw[om]<;>omega) (by omega) (by rw[b];simpa using d) ⟨rfl,fin⟩) e
def MV:nK X (MT X.K):=by
 intro value slice g s B H x y v u Q I e C h n;obtain⟨p,J,i,z,rfl,rfl,l,E,q⟩:=h;cases e;obtain⟨t,rfl⟩:=C;obtain⟨M,r,a,hz⟩:=I.tuple l;obtain⟨j,h1,d,O,R,U⟩:=tw E;obtain⟨w,f,c⟩:=r.get d;have o:=r.length;have Y:=lP;have fin:EP X g B Q w s:=⟨z,H,I,c,q⟩
 exact adx (x:=w) a.typeIs PF.lookup
  (getItem_tuple (j:=j) (Q:=λr b=>r=w/\EP X g B Q r b) a (by omega) (by omega) (by rw[om,<- o];exact h1) (by simpa using f) ⟨rfl,fin⟩) n
def MW:nK X MU:=by
 intro value slice B s C H x y v u Q I f r h n;obtain⟨z,i,c,rfl,rfl,hz,g,q⟩:=h;obtain⟨t,rfl⟩:=f;obtain⟨E,rfl⟩:=r;obtain⟨j,a,d,J,l,b⟩:=tw g;have p:z.cps.toList.length=z.length:=by simp[Str.length]
 rw[p]at a l b;have M:=lP;exact tail_any (typeIs_str s z t) slot_str_getitem.lookup (getItem_str (c:=c) (by have e:decide (i < -(2 ^ 63:Int))=false:=decide_eq_false (by omega);have o:decide (i>=2 ^ 63)=false:=decide_eq_false (by omega);rw[e,o,afu]) (by rw[a];simpa using d) ⟨.str ⟨#[c]⟩,H,I.tok _,⟨_,rfl⟩,q⟩) n
noncomputable def Y2 (K:oi):R2:=λx y H Q=>MS K x y H Q\/MT K x y H Q\/MU x y H Q
def CP:nK X (Y2 X.K):=JO.or (MV.or MW)
def A8 (c:List Value)(n j:Nat)(u:Value):HG (·.setIfInBounds j u) { cls:=.type "list",data:=.seq c.toArray n }={ cls:=.type "list",data:=.seq (c.set j u).toArray n }:=by simp[HG]
theorem mn.lst (I:mn X b r H c)(h:H f=some (.lst U)):
  ∃(g:List Value) (n:Nat),Vals U g/\c.heap.get? f=some { cls:=.type "list",data:=.seq g.toArray n }/\U.length<=m6:=by
 obtain⟨z,g,n,i,e⟩:=I.aW f _ h;exact⟨g,n,i,e,z⟩
def mn.MX {its':List Value}{s:Obj->Obj}(I:mn X b r H c)(h:H f=some (.lst U))(j:c.heap.get? f=some { cls:=.type "list",data:=.seq R.toArray n })(i:s { cls:=.type "list",data:=.seq R.toArray n }={ cls:=.type "list",data:=.seq its'.toArray p })(g:Vals A its')(hz:A.length<=m6)(t:Nat):
  mn X b r (upd H f (.lst A)) { c with heap:=c.heap.update f s,toks:=t }:=by
 have e:(c.heap.update f s).get? f=some { cls:=.type "list",data:=.seq its'.toArray p }:=by rw[NU s j (by rw[i]<;>rfl),i]
 refine I.write (x:=f) (e:=f) (by rw[h];trivial) (.inl rfl) (λv u a q=>(Y6 _ _ (n7 a)).trans q) ⟨_,e⟩ ?_;exact⟨hz,its',p,g,e⟩
noncomputable def Rv:V->V->V->Hp->(Hp->Prop)->Prop:=λo i v H Q=>∃p c k j,o = .ref p/\i = .int k/\H p=some (.lst c)/\lR c.length k=some j/\Q (upd H p (.lst (c.set j v)))
def set_list:FC X Rv:=by
 intro B s C H o i v O iv u Q I E ri z h;obtain⟨p,J,k,j,rfl,rfl,e,M,q⟩:=h;cases E;obtain⟨t,rfl⟩:=ri;obtain⟨x,n,r,c,hz⟩:=I.lst e;obtain⟨a,h2,f,y⟩:=yV M;have d:=r.length;have R:=lP
 have l:mn X B C (upd H p (.lst (J.set j v))) { s with heap:=s.heap.update p (HG (·.setIfInBounds j u)) }:=
   I.MX e c (A8 x n j u) (r.set z j) (by rw[QJ];exact hz) s.toks
 by_cases g:0<=k
 . have b:k.toNat=j:=by
    rw[ahw g y]at a;exact DM a
   exact PySem.W.ki_setAt c g (by omega) (by rw[om,<- d];exact y) (by rw[b];exact⟨_,l,q⟩)
 . have b:(k+(x.toArray.size:Int)).toNat=j:=by
    rw[seqIndex_neg (by omega) f]at a;rw[om,<- d];exact DM a
   exact PySem.W.ki_setBack c (by omega) (by rw[om,<- d];exact f) (by omega) (by rw[b];exact⟨_,l,q⟩)
def wg (d c:Option Int)(n:Nat):(WV d c none n).1=((bo n 0 d:Nat):Int)/\(WV d c none n).2.1=((bo n n c:Nat):Int)/\(WV d c none n).2.2=1:=by
 refine⟨?_,?_,rfl⟩
 . cases d with
   |none=>simp[WV,bo]
   |some i =>
    simp only[WV,bo,ahH,show(1:Int)>0 by decide,if_true];by_cases h:i<0
    . simp only[h,if_true]<;>omega
    . simp only[h,if_false]<;>omega
 . cases c with
   |none=>simp[WV,bo]
   |some i =>
    simp only[WV,bo,ahH,show(1:Int)>0 by decide,if_true];by_cases h:i<0
    . simp only[h,if_true]<;>omega
    . simp only[h,if_false]<;>omega
def vf (d:List Value)(e f:Option Int):slicePick d.toArray e f none=((d.drop (bo d.length 0 e)).take (bo d.length d.length f-bo d.length 0 e)).toArray:=by obtain⟨b,c,a⟩:=wg e f d.toArray.size;unfold slicePick;rw[b,c,a];simp only[sliceRange_one,pick_run,om]<;>rfl
noncomputable def MY (K:oi):V->Option Int->Option Int->Hp->VK->Prop:=λx g b H Q=>∃a c,x = .ref a/\dy K H a c /\ ∀p,H p=none->Q (.ref p) (upd H p (.lst (oo c g b)))
def JP:qf X (MY X.K):=by intro E s J H x v z n C c p Q I f i e pu h;obtain⟨a,g,rfl,j,q⟩:=h;cases f;obtain⟨u,r,d,l⟩:=I.list j;have B:=r.length;refine⟨"list",_,slot_list_getitem.lookup,d.isList.typeIs,?_⟩;refine wpAny_getItem_list_slice d.isList i e pu .none (by simp) ?_ (by rw[om]<;>omega);rw[vf,<- B];refine⟨.ref s.heap.objs.size,_,I.laid (t':=s.toks) (o:=.lst (oo g C c)) (λb y q=>nG _ q) (nc _) ?_,rfl,q _ (I.aW.fresh (nc _))⟩;exact⟨rK (qg g C c) l,_,0,(r.drop (bo g.length 0 C)).take (bo g.length g.length c-bo g.length 0 C),p9 _ rfl⟩
noncomputable def j2:V->Bool
 |.aA=>true|.bl _=>true|.int _=>true|.str _=>true|_=>false
noncomputable def uA:V->V->Bool
 |.aA,d=>match d with|.aA=>true|_=>false
 |.bl e,d=>match d with|.bl y=>e == y|.int y=>(if e then 1 else 0)== y|_=>false
 |.int e,d=>match d with|.bl y=>e == (if y then 1 else 0)|.int y=>e == y|_=>false
 |.str e,d=>match d with|.str y=>e == y|_=>false
 |_,_=>false
def MZ {s:Value}(e:mI z T)(d:mI v s)(h:j2 z=true)(f:j2 v=true):SeqAt.EqAt M c T s (uA z v):=by
 cases z with
 |aA =>
  cases e;cases v with
  |aA=>cases d;exact SeqAt.EqAt.same _|bl b=>cases d;exact SeqAt.EqAt.none_bool b|int b=>obtain⟨t,rfl⟩:=d;exact SeqAt.EqAt.none_int b t
  |str b=>obtain⟨t,rfl⟩:=d;exact SeqAt.EqAt.none_str b t
  |_=>exact absurd (show false=true from f) L8
 |bl a =>
  cases e;cases v with
  |aA=>cases d;exact SeqAt.EqAt.bool_none a|bl b=>cases d;exact SeqAt.EqAt.bool_bool a b|int b=>obtain⟨t,rfl⟩:=d;exact SeqAt.EqAt.bool_int a b t
  |str b=>obtain⟨t,rfl⟩:=d;exact SeqAt.EqAt.bool_str a b t
  |_=>exact absurd (show false=true from f) L8
 |int a =>
  obtain⟨A,rfl⟩:=e;cases v with
  |aA=>cases d;exact SeqAt.EqAt.int_none a A|bl b=>cases d;exact SeqAt.EqAt.int_bool a A b|int b=>obtain⟨t,rfl⟩:=d;exact SeqAt.EqAt.int_int a A b t
  |str b=>obtain⟨t,rfl⟩:=d;exact ag3 a A b t
  |_=>exact absurd (show false=true from f) L8
 |str a =>
  obtain⟨A,rfl⟩:=e;cases v with
  |aA=>cases d;exact SeqAt.EqAt.str_none a A|bl b=>cases d;exact SeqAt.EqAt.str_bool a A b|int b=>obtain⟨t,rfl⟩:=d;exact ag4 a A b t
  |str b=>obtain⟨t,rfl⟩:=d;exact SeqAt.EqAt.str_str a A b t
  |_=>exact absurd (show false=true from f) L8
 |_=>exact absurd (show false=true from h) L8
noncomputable def HS (x:V)(u:Value):Bool:=match u with
 |.none=>uA .aA x|.bool e=>uA (.bl e) x|.int i _=>uA (.int i) x|.str z _=>uA (.str z) x|_=>false
def CQ (r:mI v T)(f:j2 v=true):HS z T=uA v z:=by
 cases v with
 |aA=>cases r;rfl|bl b=>cases r;rfl|int i=>obtain⟨t,rfl⟩:=r;rfl
 |str x=>obtain⟨t,rfl⟩:=r;rfl
 |_=>exact absurd (show false=true from f) L8
theorem wj {A:qc}{s:my}{x:V}{v:Value}(d:mI x v)(c:j2 x=true):∀{g:List V} {h:List Value},Vals g h->g.all j2=true->∀u∈h,SeqAt.EqAt A s u v (HS x u)
 |_,_,.nil,_=>λu hu=>by cases hu
 |y::g,u::h,.cons r t,f=>λa hu=>by
  rw[Z_,mS]at f;rcases nF.mp hu with rfl|hu
  . rw[CQ r f.1];exact MZ r d f.1 c
  . exact wj d c t f.2 a hu
def wk:dM X (.builtin "len") (λv H Q=>∃p n,v = [.ref p]/\(dy X.K H p n\/fz X.K H p n)/\Q (.int n.length) H):=by
 intro x s y H v B Q I r h;obtain⟨p,n,rfl,a,q⟩:=h;obtain⟨u,rfl,e⟩:=bai r;cases e;have i:=lP;rcases a with a|a
 . obtain⟨d,c,b,f⟩:=I.list a
   have g:=c.length;exact Calls.call_len_list b.isList (by simp only[om]<;>omega) ⟨.int n.length,H,I.tok _,⟨s.toks+1,by rw[om,g]⟩,q⟩
 . obtain⟨d,c,b,f⟩:=I.tuple a
   have g:=c.length;exact len_tuple b (by simp only[om]<;>omega) ⟨.int n.length,H,I.tok _,⟨s.toks+1,by rw[om,g]⟩,q⟩
def nL:dM X (.type "tuple") (λy H Q=>∃p g,y = [.ref p]/\((dy X.K H p g /\ ∀l,H l=none->Q (.ref l) (upd H l (.tup g)))\/(fz X.K H p g/\Q (.ref p) H))):=by
 intro B s C H y J Q I r h;obtain⟨p,g,rfl,h⟩:=h;obtain⟨u,rfl,x⟩:=bai r;cases x;rcases h with⟨hq,q⟩|⟨hq,q⟩
 . obtain⟨c,f,d,j⟩:=I.list hq
   have E:=f.length;refine call_tuple_list d.isList (λa n=>?_) (by simp only[om]<;>omega);have i:mn X B C H { s with heap:=a }:=I.kept (t':=s.toks) n;have v:mn X B C (upd H a.objs.size (.tup g)) { s with heap:=a.push { cls:=.type "tuple",data:=.seq c.toArray } }:=
    i.laid (t':=s.toks) (λb o e=>nG _ e) (nc _) (show dJ X.prog X.w _ _ _ (.tup g) from⟨j,c,f,fV.new _ _⟩)
   exact⟨.ref a.objs.size,_,v,rfl,q _ (i.aW.fresh (nc _))⟩
 . obtain⟨c,f,d,j⟩:=I.tuple hq
   exact call_tuple_same d ⟨.ref p,H,I,rfl,q⟩
noncomputable def Tv (K:oi)(T:String)(x:V)(H:Hp):Prop:=match x with
 |.str _=>T = "str"|.int _=>T = "int"
 |.ref p=>(T = "list" /\ ∃g,dy K H p g)\/(T = "tuple" /\ ∃o,K.lookup p=some o/\o.cls = .type "tuple" /\ o.dict=none) \/
  (T = "dict" /\ ((∃c,H p=some (.dK c)) \/ ∃c,H p=some (.dT c)))\/(T = "set" /\ ∃S n,H p=some (.set S n))
 |_=>False
def CS (I:mn X b r H c)(g:mI z T)(h:Tv X.K O z H):
  c.TypeIs T O /\ ∀a,T = .ref a->∃u,c.heap.get? a=some u/\u.dict=none:=by
 cases z with
 |str q =>
  obtain⟨t,rfl⟩:=g;cases (show O = "str" from h);exact⟨typeIs_str c q t,λ_ e=>nomatch e⟩
 |int i =>
  obtain⟨t,rfl⟩:=g;cases (show O = "int" from h);exact⟨afL c i t,λ_ e=>nomatch e⟩
 |ref p =>
  cases g;rcases h with⟨rfl,xs,hq⟩|⟨rfl,o,hk,hc,hd⟩|⟨rfl,hk⟩|⟨rfl,S,n,hk⟩
  . obtain⟨f,_,d,_⟩:=I.list hq
    refine⟨d.isList.typeIs,λa e=>?_⟩;cases e;obtain⟨o,n,e,x,hd,_⟩:=d;exact⟨o,e,hd⟩
  . refine⟨⟨o,I.gO p o hk,hc⟩,λa e=>?_⟩
    cases e;exact⟨o,I.gO _ o hk,hd⟩
  . have q:∃o,c.heap.get? p=some o/\o.ExactDict:=by
     rcases hk with⟨eF,hk⟩|⟨eF,hk⟩
     . obtain⟨_,_,_,_,o,_,_,e,ex,_⟩:=I.aW p _ hk
       exact⟨o,e,ex⟩
     . obtain⟨_,_,_,_,o,_,_,e,ex,_⟩:=I.aW p _ hk
       exact⟨o,e,ex⟩
    obtain⟨o,e,ex⟩:=q;refine⟨⟨o,e,ex.1⟩,λa s=>?_⟩;cases s;exact⟨o,e,ex.2.1⟩
  . obtain⟨o,_,_,_,e,ex,_⟩:=I.aW p _ hk
    refine⟨⟨o,e,ex.1⟩,λa s=>?_⟩;cases s;exact⟨o,e,ex.2.1⟩
 |_=>exact A9 h
noncomputable def Y3 (K:oi)(T:String)(r:V->List V->Hp->VK->Prop)(c:TE)(t:TA):TE:=λg H Q=>c g H λx h=>Tv K T x h/\t g h λi a=>r x i a Q
def Rw {t:TA}{r:V->List V->Hp->VK->Prop}(z:PlainAttrs O)(slot:Slot O x K)(M:typeOf (.builtin K)=pure (.type "method_descriptor"))(A:MQ X K r)(N:PE X y Z)(L:PA X (e::B) t)(C:aex y x X.env (eval y X.env)=eval y X.env)(apos:((v3 J (ni (e::B) X.env)).all (λname=>!name.1)&&(backToKw J (ahx [] X.env)).all (λname=>name.1.isSome)
   && decide ((e::B).length+([]:List UD).length+(if([]:List UD).isEmpty then 0 else 1)<30))=true)(E:(j.endLine == J.line)=true)(U:ni (e::B) X.env=(false,eval e X.env)::ni B X.env)(to:(v3 J (ni B X.env)).any (·.1)=false):
  PE X (.Call (.Attribute y x j) (e::B) [] J) (Y3 X.K O r Z t):=by
 intro g s R H Q I h;refine agh C apos E rfl (aV (N g s R H _ I h) λv Y u=>?_);obtain⟨name,H1,c,a,ty,n⟩:=u;obtain⟨q,o⟩:=CS c a ty;refine⟨O,K,z,slot,M,q,o,?_⟩;have b:=L J g Y R H1 _ c n;rw[U]at b ⊢
 refine aer (by show(false||(v3 J (ni B X.env)).any (·.1))=false;rw[to]<;>rfl) (agG ?_)
 exact aV b λus s2 ⟨f,d,i,l,p⟩=>A g s2 R d name f v us Q i a l p
noncomputable def Tw (X:Cx)(id:String)(r:V->List V->Hp->VK->Prop):Prop :=
 ∀(c:List (Addr×Obj)) (s:my) (g:mO) (H:Hp) (x:V) (h:List V) (v:Value) (i:List Value) (Q:VK),mn X c g H s->mI x v->Vals h i->r x h H Q ->
  wpAny (model X.prog X.w) X.A (call (.builtin id) (v::i)) (EP X c g Q) X.xe s
def Vals.one:∀{x:V} {c:List Value},Vals [x] c->∃u,c = [u]/\mI x u
 |_,_,.cons r .nil=>⟨_,rfl,r⟩
theorem Vals.rep {c:List V}{g:List Value}(h:Vals c g):∀k:Nat,Vals (nN k c).flatten (nN k g).flatten
 | 0=>.nil|k+1=>by rw[UQ,UQ,PK,PK];exact Vals.append h (Vals.rep h k)
theorem bam (b:List Value):∀(k:Nat) (c:List Value),
  agH (λg h=>g++h) c.toArray (nN k b.toArray)=(c++(nN k b).flatten).toArray
 | 0,c=>by simp
 |k+1,c=>by
  have e:c.toArray++b.toArray=(c++b).toArray:=by simp
  have a:(c++b)++(nN k b).flatten=c++(nN (k+1) b).flatten:=by rw[UQ,PK,Fm]
  rw[<- a,<- bam b k (c++b),<- e,UQ,List.foldl_cons]
def mn.M0 {its':List Value}{g:Array Value->Array Value}(I:mn X b r H c)(h:H f=some (.lst U))(e:c.heap.get? f=some { cls:=.type "list",data:=.seq R.toArray n })(d:g R.toArray=its'.toArray)(i:Vals A its')(hz:A.length<=m6):
  mn X b r (upd H f (.lst A)) { c with heap:=c.heap.update f (HG g),toks:=p }:=by
 have q:=PySem.IsL.update e g;rw[d]at q;refine I.write (x:=f) (e:=f) (by rw[h];exact trivial) (.inl rfl) (λv u a hu=>(Y6 c.heap (HG g) (n7 a)).trans hu) ⟨_,q⟩ ?_;exact⟨hz,its',_,i,q⟩
def mn.VU {t':Nat}(I:mn X b r H c)(a:Vals U R)(hz:U.length<=m6):
  mn X b r (upd H c.heap.objs.size (.lst U)) { c with heap:=c.heap.push { cls:=.type "list",data:=.seq R.toArray },toks:=t' }:=
 I.laid (λ_ _ q=>nG _ q) (nc _) ⟨hz,R,0,a,p9 _ rfl⟩
theorem mn.fresh (I:mn X b r H c):H c.heap.objs.size=none:=I.aW.fresh (nc _)
def mn.M1 (I:mn X b r H c)(a:H f=some (.lst U)):U.length<=m6 /\ ∃(g:List Value) (n:Nat),Vals U g/\U.length=g.length/\c.heap.get? f=some { cls:=.type "list",data:=.seq g.toArray n }:=by obtain⟨z,g,n,h,e⟩:=I.aW f _ a;exact⟨z,g,n,h,h.length,e⟩
def wq (h:n<=m6):acm n=false:=by unfold acm;exact decide_eq_false (by omega)
noncomputable def JQ:V->List V->Hp->VK->Prop:=λx a H Q=>∃l c y,x = .ref l/\a = [y]/\H l=some (.lst c)/\c.length<m6/\Q .aA (upd H l (.lst (c ++ [y])))
def uB:Tw X "list.append" JQ:=by intro g s p H x i v B Q I f d h;obtain⟨l,C,y,rfl,rfl,b,o,q⟩:=h;cases f;obtain⟨u,rfl,c⟩:=d.one;obtain⟨z,a,n,r,j,e⟩:=I.M1 b;refine SJ F.slot_list_append ⟨_,e,rfl⟩ F.entry_list_append (F.args_list_append_2 _ _) (PySem.list_append l a.toArray n u (by rw[om];omega)) ⟨e,?_⟩;refine⟨.aA,_,I.M0 (its':=a ++ [u]) b e (by simp) (r.append (.cons c .nil)) ?_,rfl,q⟩;rw[nv,L3];omega
def len_rep {a:Type}(c:List a)(k:Nat):(nN k c).flatten.length=k*c.length:=by
 induction k with
 |zero=>simp|succ k g=>rw[UQ,PK,nv,g,Nat.succ_mul,Nat.add_comm]
end
section
open PySem.W PySem.Calls PyProof.Rows
variable {Z:Params}{l:Zh}
def rM:∀(c:List Int) (g:List Value),WellAll Z I g (c.map WData.int)->Bb g c:=by
 intro c;induction c with
 |nil =>
  intro g w;rw[ahb]at w;cases w;exact .nil
 |cons n c h =>
  intro g w;rw[yp]at w;cases w with
  |cons a b =>
   cases a;exact .cons _ _ (h _ b)
def CT (x:l.most=some n){args:List WData}(u:l.row.toRowW.claim.pre args=true)(v:WellAll Z I R args):
  ∃a y g,R = [FX a]/\args = [WData.list (g.map WData.int)]/\I.get? a=some { cls:=.type "list",data:=.seq y.toArray }/\Bb y g/\g.length<=n:=by
 have j:WShape.hasAll [] args [.list .int]=true:=(pre_splitW u).1;have e:l.pre.holds [] { args:=args }=true:=(pre_splitW u).2;obtain⟨d,r,rfl,i,p⟩:=hasAllW_cons j;obtain rfl:=hasAllW_nil p;obtain⟨H,rfl,f⟩:=hasW_list i;obtain⟨g,rfl⟩:=items_int f;have h:g.length<=n:=by
  unfold OpenLaw.pre at e;have b:(WTm.not (.lt (.lit (.int (n:Int))) (.len (.arg 0)))).holds [] { args:=[.list (g.map .int)] }=true:=by have b:=(holds_andW e).1;rw[x]at b;exact b
  have c:=condW_of b (w_not (w_lt w_lit (w_len_list (w_arg rfl))));rw[qV]at c;refine Nat.le_of_not_lt λq=>?_;have o:(n:Int)<((g.length:Nat):Int):=by omega
  first
   | (rw[decide_eq_true o]at c;exact absurd c (by decide))
   | (simp at c;omega)
 cases v with
 |cons B C =>
  cases C;cases B with
  |list ho E=>exact⟨_,_,g,rfl,rfl,ho,rM g _ E,h⟩
def CU (l:Zh)(args:List WData):l.row.toRowW.claim.post args (.bool true) args=true :=
 postW_of (r:=l.row.toRowW) (X:=(true == true))
  (show WShape.has [] (.bool true) .bool=true by first|rfl|decide|simp[WShape.has,WShape.arms,WShape.armsAll])
  (show(WTm.eq .res (.lit (.bool true))).value [] { args:=args,res:=some (.bool true),after:=args }=some (.bool (true == true)) from w_eq_bool (w_res rfl) w_lit) rfl
def yE {B:(Str->Option Value)->Heap->Prop}{C:World->Heap->Prop}{d:DefRec}(H:l.most=some n)(E:d.params.defaults = [])(call:∀(w:World) (s₀ s₁:my) (mg R:Str->Option Value) (fa:Addr) (o:Obj) (U M g:Value) (a:Addr) (I:List Value) (O:List Int),
   Ground q K [] B w s₀ mg R s₁.heap->C w s₁.heap ->
   s₁.heap.get? fa=some o->o.data = .func (docDef d.name d.params d.body d.scope U M g)->s₁.heap.CodeRec M d.name->mg d.name=some (.ref fa) ->
   s₁.heap.get? a=some { cls:=.type "list",data:=.seq I.toArray }->Bb I O->O.length<=n->s₁.gens = #[] ->
   PL (model l.prog w) Uv (.call (.ref fa) ⟨[.ref a],[]⟩) (λr Q=>r = .ok (.ret (.bool true))/\OldK s₁.heap Q.heap/\Q.os=s₁.os/\SW Q.gens) s₁):
  WalkO q K B C l.row.toRowW d [] (λf I=>agI f I):=by
 intro w s₀ s₁ mg R G Y fa o U M g y kV v hd x hD i p args vals X z b Z e Tx;obtain rfl:y = .none:=Dflts.none hD E;obtain rfl:kV = .none:=Dflts.noKw hD;obtain⟨a,I,O,rfl,rfl,h,hints,J⟩:=CT H z e;refine enter_call (U7 (call w s₀ s₁ mg R fa o U M g a I O G Y v (fd_plain hd) x i h hints J p) λr Q u=>?_);obtain⟨rfl,j,c,s⟩:=u;exact⟨.inl ⟨.bool true,.bool true,[],rfl,λ_=>rfl,.bool true,CU l _,λ_=>⟨aho,λ_ hm=>(nomatch hm)⟩⟩,j,c,s⟩
end
section
open PyProof.Rows
variable {Z:Array (Int×Value)}{t:T1}{Y:Option (Value×Nat)->my->Prop}{U:Option Value->my->Prop}{J:Nat->Nat->Prop}{H:oi}{a:Addr}{C:x3}{B:Sp}{A:Lx}{b:Stmt}{y:Str->Option Value}{w:Value}
theorem jH:∀{c:List Value} {g:List Int},Bb c g->Vals (g.map V.int) c
 |_,_,.nil=>.nil|_,_,.cons n t h=>.cons ⟨t,rfl⟩ (jH h)
noncomputable def VV (H:Hp):Prop:=∀b,H b=none\/(∃o c,H b=some (.nH o (.lst c))) \/ ∃p q,H b=some (.cp p q)
structure TabsOk (K:oi)(ts:List Addr)(lx:Lx):Prop where
 hd:∀q∈lx.tb,∃c,adP K c q.1=true
 out:∀q∈lx.tb,K.lookup q.1=none
 mem:∀q∈lx.tb,q.1∈ts
 nd:(lx.tb.map (·.1)).Nodup
noncomputable def lS (l:List (Addr×Pos×Str)):Hp:=λb=>(l.lookup b).map λq=>.cp q.1 q.2
theorem tx:∀{l:List (Addr×Pos×Str)} {q:Addr×Pos×Str},(l.map (·.1)).Nodup->q∈l->lS l q.1=some (.cp q.2.1 q.2.2)
 |x::l,q,nd,h=>by
  unfold lS;rw[zr];rw[yp,Dy]at nd;rcases nF.mp h with rfl|h
  . simp
  . rw[show(q.1 == x.1)=false from beq_eq_false_iff_ne.mpr λe=>nd.1 (by rw[<- e];exact M4 h)]
    exact tx nd.2 h
theorem oq:∀{l:List (Addr×Pos×Str)} {b:Addr} {u:HO},lS l b=some u->∃q∈l,q.1=b/\u = .cp q.2.1 q.2.2
 | [],b,u,h=>by cases h
 |x::l,b,u,h=>by
  unfold lS at h;rw[zr]at h;split at h
  . rename_i e
    cases h;exact⟨x,sv,(eq_of_beq e).symm,rfl⟩
  . obtain⟨q,m,r⟩:=oq (l:=l) h
    exact⟨q,p8 _ m,r⟩
def FY {I:Str->Option Value}{CX:oj}(L:H.In c.heap)(Q:c.heap.Ns tA y)(J:c.heap.Ns afJ I)(W:∀x:Str,x ≠ "__name__"->I x=L0 x)(Z:c.heap.NoLimit)(s₁:∃bm ob,BMod c.heap tA y bm ob)(T:c.gens = #[])(E:c.heap.get? a=some { cls:=.type "list",data:=.seq R.toArray })(ns:Bb R z)(M:z.length<=m6)(sp:dA n Uv)(TO:TabsOk H O A)(U:∀q∈O,c.heap.get? q=some (Um #[]))(F:∀base:Heap,H.In base->base.Ns tA y->d9 q l H y base CX n f C [x] B)(X:∀(s:my) (u:Value),ahj s C ⟨[u],[]⟩ [(x,u)])(Y:∀N:Hp,dy H N a (z.map V.int)->(∀fd∈A.tb,N fd.1=some (.cp fd.2.1 fd.2.2))->B [.ref a] N (λv _=>v = .bl true) λ_ _ _=>False)(S:∀N e g,CX [] N c (λ_ _ _=>False) e g->False):
  PL (model q l) Uv (.call (.ref f) ⟨[.ref a],[]⟩) (λr g=>r = .ok (.ret (.bool true))/\OldK c.heap g.heap/\g.os=c.os/\SW g.gens) c:=by
 have rv:=jH ns;have VY:=ns.length;have tabs:∀fd∈A.tb,c.heap.get? fd.1=some (Um #[]):=λfd i=>U _ (TO.mem fd i);have core:∀N:Hp,VV N->dy H N a (z.map V.int)->eH q l N c.heap->(∀b,N b≠none->b=a \/ ∃fd∈A.tb,fd.1=b)->(N a≠none->H.lookup a=none)->(∀fd∈A.tb,N fd.1=some (.cp fd.2.1 fd.2.2)) ->
    PL (model q l) Uv (.call (.ref f) ⟨[.ref a],[]⟩) (λr g=>r = .ok (.ret (.bool true))/\OldK c.heap g.heap/\g.os=c.os/\SW g.gens) c:=by
  intro N hO hS aW hA hK Y7;have vs:∀{b:Addr} {o:Obj},c.heap.get? b=some o->N b=none->(mP c.heap N).get? b=some o:=λe k=>Fw e k;have Tz:∀{b:Addr} {o:Obj},c.heap.get? b=some o->o≠{ cls:=.type "list",data:=.seq R.toArray }->o≠Um #[]->N b=none:=fun {b o} e d1 d2=>by
    cases fd:N b with
    |none=>rfl
    |some u =>
      rcases hA b (by rw[fd];simp)with e'|⟨r,sp,e'⟩
      . subst e';rw[E]at e;exact absurd (DM e).symm d1
      . have:=tabs r sp;rw[e',e]at this;exact absurd (DM this) d2
  have rJ:∀{b:Addr} {o:Obj} {es:Array qt} {ep:Nat},c.heap.get? b=some o->o.data = .dict es ep->N b=none:=fun {b o es ep} e d=>Tz e (λw=>by rw[w]at d;cases d) λw=>by rw[w]at d;cases d
  have P:∀{b:Addr} {m:Str->Option Value},c.heap.Ns b m->(mP c.heap N).Ns b m:=fun {b m} ⟨o,es,ep,e,d,r⟩=>⟨o,es,ep,vs e (rJ e d),d,r⟩
  have TB:H.In (mP c.heap N):=λb o e=>vs (L b o e) (by
    cases fd:N b with
    |none=>rfl
    |some u =>
      rcases hA b (by rw[fd];simp)with e'|⟨r,sp,e'⟩
      . subst e'
        rw[hK (by rw[fd];simp)]at e;cases e
      . have:=TO.out r sp;rw[e',e]at this;cases this)
  have hM:bab H y (mP c.heap N):=⟨TB,P Q,⟨I,P J,W⟩,let⟨mc,h1,h2⟩:=Z;⟨mc,P h1,h2⟩,let⟨bm,ob,lx⟩:=s₁
    ⟨bm,ob,P lx.ns,lx.name,lx.ne,vs lx.obj (Tz lx.obj (λw=>by have:=lx.cls;rw[w]at this;have this:wo "list" = .type "module":=this;exact absurd this (by decide)) λw=>by have:=lx.cls;rw[w]at this;exact absurd this (by decide)),lx.cls,lx.dict,lx.data⟩⟩
  have e0:qB q l H y (mP c.heap N) Uv [] c N:=⟨rfl,hM,λb o e=>Ju e,aeS (Cr _ _),trivial,λb J=>absurd (show b∈([]:List Addr) from J) (by simp),aW,.of_eq T⟩
  refine U7 ((F _ TB (P Q)).run Uv [] c N ⟨[.ref a],[]⟩ [.ref a] [.ref a] _ _ sp e0 (X c (.ref a)) (.cons rfl .nil) (Y N hS Y7)) λr g h=>?_;cases r with
  |error e=>exact(S N e g h).elim
  |ok fl =>
    cases fl with
    |next=>exact A9 h|brk=>exact A9 h|cont=>exact A9 h
    |ret u =>
      obtain⟨v,H',os,bare,un,M6,r',fd⟩:=h;have q':v = .bl true:=fd;subst q';obtain rfl:u=afI true:=r';have key:∀b o,c.heap.get? b=some o->g.heap.get? b=some o\/(∃r∈A.tb,r.1=b) /\ ∃j,g.heap.get? b=some (Um j):=λb o e=>by
        cases fd:N b with
        |none=>exact .inl (un.keep b o e fd (by intro w;exact absurd (show b∈([]:List Addr) from w) (by simp)) (by simp))
        |some u =>
          rcases hO b with w|⟨ob,xs,w⟩|⟨p,q',w⟩
          . rw[fd]at w;cases w
          . have z2:=un.km b ob _ w
            obtain⟨K,_⟩:=aW b _ w;obtain⟨e2,_⟩:=M6 b _ z2;rw[e]at K;cases K;exact .inl e2
          . have z2:=un.ko b _ rfl w
            obtain⟨j,e2,_⟩:=M6 b _ z2;rcases hA b (by rw[fd];simp)with e'|sp
            . subst e'
              obtain⟨_,K,_⟩:=aW b _ w;rw[E]at K;cases K
            . exact .inr ⟨sp,j,e2⟩
      refine⟨rfl,⟨λb o e=>?_,λb o e=>?_⟩,os,bare⟩
      . rcases key b o e with n|⟨⟨r,sp,e'⟩,j,n⟩
        . exact .inl n
        . obtain⟨mg,hc⟩:=TO.hd r sp
          have hP:=tabs r sp;have hC:=(agW L hc).tab hP;rw[e']at hP hC;rw[e]at hP;cases hP;exact .inr (.inl ⟨hC.isCodeTable,rfl,#[],j,rfl,by rw[Array.empty_append];exact n⟩)
      . rcases key b o e with n|⟨_,j,n⟩
        . exact⟨_,n⟩
        . exact⟨_,n⟩
 have TC:∀fd∈A.tb,fd.1≠a:=λfd i w=>by have:=tabs fd i;rw[w,E]at this;cases this
 have VZ:eH q l (lS A.tb) c.heap:=λb u w=>by obtain⟨fd,i,rfl,rfl⟩:=oq w;exact⟨#[],tabs fd i,trivial,.inl rfl⟩
 have HY:∀b,lS A.tb b=none\/(∃o xs,lS A.tb b=some (.nH o (.lst xs))) \/ ∃p fd,lS A.tb b=some (.cp p fd):=λb=>by
  cases w:lS A.tb b with
  |none=>exact .inl rfl
  |some u =>
    obtain⟨fd,_,_,rfl⟩:=oq w;exact .inr (.inr ⟨_,_,rfl⟩)
 have FZ:∀b,lS A.tb b≠none->∃fd∈A.tb,fd.1=b:=λb w=>by
  cases e:lS A.tb b with
  |none=>exact absurd e w|some u=>obtain⟨fd,h1,h2,_⟩:=oq e;exact⟨fd,h1,h2⟩
 cases hk:H.lookup a with
 |some o =>
  have e:=L a o hk;rw[E]at e;cases e;refine core (lS A.tb) HY (.inr ⟨_,R.toArray,_,hk,rfl,rfl,rfl,by rw[om,VY];exact M,by simpa using rv⟩) VZ (λb w=>.inr (FZ b w)) (λw=>?_) λfd i=>tx TO.nd i;obtain⟨fd,i,e⟩:=FZ a w;exact absurd e (TC fd i)
 |none =>
  refine core (upd (lS A.tb) a (.nH { cls:=.type "list",data:=.seq R.toArray } (.lst (z.map V.int)))) (λb=>?_) (.inl (.inr ⟨{ cls:=.type "list",data:=.seq R.toArray },aR⟩)) (λb u w=>?_) (λb w=>?_) (λ_=>hk) λfd i=>by rw[aD (TC fd i)];exact tx TO.nd i
  . by_cases J:b=a
    . subst J;exact .inr (.inl ⟨_,_,aR⟩)
    . rw[aD J];exact HY b
  . by_cases J:b=a
    . subst J
      rw[aR]at w;cases w;exact⟨E,by rw[qV];exact M,R,_,rv,E⟩
    . rw[aD J]at w
      obtain⟨fd,i,rfl,rfl⟩:=oq w;exact⟨#[],tabs fd i,trivial,.inl rfl⟩
  . by_cases J:b=a
    . exact .inl J
    . rw[aD J]at w;exact .inr (FZ b w)
def JR {l:Zh}{k:Nat}{N:(Str->Option Value)->Heap->Prop}{C:World->Heap->Prop}{d:DefRec}{A:Params->oi}{CX:World->oj}{sp:World->Lx->Sp}(M:l.most=some n)(L:n<=m6)(I:d.params.defaults = [])(B:dA k Uv)(E:∀(w:World) (h:Heap),C w h->(A w.params).In h /\ ∀P∈O,h.get? P=some (Um #[]))(F:∀(w:World) (mg:Str->Option Value) (fa:Addr) (h:Heap),(A w.params).In h->h.Ns tA mg->mg d.name=some (.ref fa) ->
   ∃(fd:x3) (lx:Lx),TabsOk (A w.params) O lx/\(∀(s:my) (u:Value),ahj s fd ⟨[u],[]⟩ [(x,u)]) /\
    ∀base:Heap,(A w.params).In base->base.Ns tA mg->d9 l.prog w (A w.params) mg base (CX w) k fa fd [x] (sp w lx))(Q:∀(w:World) (lx:Lx) (H:Hp) (a:Addr) (U:List Int),U.length<=n->dy (A w.params) H a (U.map V.int)->(∀q∈lx.tb,H q.1=some (.cp q.2.1 q.2.2))->sp w lx [.ref a] H (λv _=>v = .bl true) λ_ _ _=>False)(J:∀(w:World) (H:Hp) (s:my) (e:Value) (X:my),CX w [] H s (λ_ _ _=>False) e X->False):
  agS q K N C l.row.toRowW d [] (λf Z=>agI f Z):=by
 refine yE M I λw s₀ i mg mb fa o pm cd doc a Z U G Y ho hd jT M3 y hints R hg=>?_;obtain⟨c,j⟩:=E w _ Y;obtain⟨fd,lx,TO,hb,hF⟩:=F w mg fa _ c G.T.g M3;obtain⟨bm,p,b1,b2,r,b4,b5,b6⟩:=G.T.bmain;exact FY c G.T.g G.T.b G.T.builtins G.T.nolimit ⟨bm,p,G.T.g,b1,b2,r,b4,b5,b6⟩ hg y hints (rK R L) B TO j hF hb (λH z hT=>Q w lx H a U R z hT) λH e X=>J w H i e X
noncomputable def gq (s:Stmt):TH:=match s with
 |.FunctionDef _ a _ _ _ _ _ _ _ _=>a|_=>{ posonlyargs:=[],args:=[],vararg:=none,kwonlyargs:=[],kw_defaults:=[],kwarg:=none,defaults:=[] }
noncomputable def d6 (s:Stmt):List Stmt:=match s with
 |.FunctionDef _ _ b _ _ _ _ _ _ _=>b|_=>[]
noncomputable def aX (s:Stmt):Scope:=match s with
 |.FunctionDef _ _ _ _ _ _ sc _ _ _=>sc|_=>{ kind:=.function,names:=[],isGenerator:=false,isCoroutine:=false }
noncomputable abbrev iI:oj:=λ_ _ _ _ _ _=>False
noncomputable abbrev E0:XK:=λ_ _ _=>False
def A_:Passes iI X E0:=λ_ _ _ _ _ _ _ h=>h.elim
structure yW (K:oi)(x qual:Str)(st:Stmt)(f:Addr)(fd:x3):Prop where
 ex:∃(oc:Value) (od:Option Addr) (kV doc pm:Value) (an:Option Addr) (dn ct:Value) (wb:Array (Option Value)),
  fd=Oc x qual (gq st) (d6 st) (aX st) .none kV doc pm an dn ct/\K.lookup f=some ⟨oc,od,.func fd,wb⟩/\aeg K dn qual=true
 kp:Ou K (.ref f)=true
def yW.ok {lx:Lx}{N:Str}{ps:List Str}(F:yW H x N b f C)(S:ke K ps (aX b))(len:∀g r Q E,B g r Q E->g.length=ps.length)(p:∀(u:Value) (A:qc) (outer:List Env) (s:my) (r:Hp) (g:List V) (Q:VK) (E:XK),C.code=u->dA n (A.deeper (Ox N (aX b) s.heap.objs.size f u))->B g r Q E ->
   ∃t,iF (mR lx iI q l H y I K N (aX b) f u A outer s r E).vY (d6 b) t/\t { nx:=λ_ v=>Q .aA v,rt:=Q } (wm K g) r):d9 q l H y I iI (n+1) f C ps B:=by
 obtain⟨i,fd,kV,J,M,O,u,j,e,rfl,a,d⟩:=F.ex;refine Rq (lx:=lx) a d S len λA outer s r g Q E c o=>?_;obtain⟨t,h,k⟩:=p u A outer s r g Q E rfl c o;exact⟨t,h.vY,k⟩
def CW {a:Str}{o h:Option Addr}{j:Array (Option Value)}{d i e ct:Value}(l:H.lookup f=some ⟨T,o,.func (Oc x a (gq b) (d6 b) (aX b) .none w d i h e ct),j⟩)(c:aeg H e a=true)(k:Ou H (.ref f)=true):yW H x a b f (Oc x a (gq b) (d6 b) (aX b) .none w d i h e ct):=⟨⟨T,o,w,d,i,h,e,ct,j,rfl,l,c⟩,k⟩
def kg:Slot "set_iterator" "__next__" "set_iterator.__next__" :=
 .of (owner:="set_iterator") (n:="__next__") (by rw[agc,aeH];kernel_rfl) (by decide +kernel) (by decide +kernel) (by decide +kernel)
  (by first|exact .inl (by decide +kernel)|exact .inr (by decide +kernel)) (by rw[isSubtype_type];kernel_rfl)
def yX:entryFor table "set_iterator.__next__" = some um.«set_iterator.__next__»:=entryFor_of_tree (by kernel_rfl)
def yY (a:Value):Wm "set_iterator.__next__" ⟨[a],[]⟩:=by unfold Wm;kernel_rfl
def JS:entryFor table "set.__iter__" = some um.«frozenset.__iter__» :=
 entryFor_alias (id':="frozenset.__iter__") (by kernel_rfl) rfl (by decide +kernel) (by kernel_rfl)
noncomputable def Qg (slot i:Nat)(a:Addr)(n b:Nat):Obj:={ cls:=.type "set_iterator",data:=.fields #[wQ slot,wQ i,.ref a,wQ n,wQ b] }
noncomputable def iY (c:Array (Int×Value))(a:Nat)(t:T1):Obj:={ cls:=.type "set",data:=.set c a t }
def wx {slot':Nat}{hh:Int}(f:c.heap.get? a=some (iY Z n t))(Q:t.fits Z.size=true)(e:l.params.followText "set-order" = false)(w:t.led=true)(h:t.plain=true)(d:Y (match Z[qr t.place p]?,t.place[qr t.place p]? with|some (_,g),some v=>some (g,v+1)|_,_=>none) c):wpAny (model q l) M (P8 a p o n) Y E c:=by
 unfold P8;refine l8 (adB f rfl Q ?_);dsimp only;unfold agJ;refine l8 (l8 (ZP (mA ?_)));have b:(aia ⟨(model q l).prog,(model q l).w.params⟩).followText "set-order" = false:=e;rw[b];simp only[rk,if_false];have dr:¬(!t.plain&&decide (Z.size>1))=true:=by simp[h]
 show wpAny _ _ (if(!t.plain&&decide (Z.size>1))=true then _ else _) _ _ c;rw[if_neg dr];have prog:¬(!t.led && !Z.isEmpty)=true:=by simp[w]
 show wpAny _ _ ((if(!t.led && !Z.isEmpty)=true then unsupported "set:maker-not-led" else pure ()) >>= _) _ _ c;rw[if_neg prog];exact l8 (mA (mA d))
def uD (d:c.heap.get? a=some (iY Z n t))(f:t.fits Z.size=true)(j:l.params.followText "set-order" = true)(h:Y (((Uw (l.params.setOrder a n) Z)[o]?).map λe=>(e.2,p)) c):wpAny (model q l) M (P8 a p o n) Y E c:=by
 have b:(aia ⟨(model q l).prog,(model q l).w.params⟩).followText "set-order" = true:=j;unfold P8;refine l8 (adB d rfl f ?_);dsimp only;unfold agJ;refine l8 (l8 (ZP (mA ?_)));rw[b];have Q:(n != n)=false:=by simp
 simp only[if_true,Q,rk,if_false];refine l8 ?_;unfold setWalk agJ;refine l8 (adB d rfl f ?_);dsimp only;refine l8 (l8 (ZP (mA ?_)));rw[b];simp only[if_true];refine l8 (ZP ?_);exact mA (mA h)
def CY (prog:c.heap.get? f=some (Qg o s a Z.size p))(j:c.heap.get? a=some (iY Z p t))(x:t.fits Z.size=true)(Q:∀(M:qc) (E:Value->my->Prop) (U:Option (Value×Nat)->my->Prop),U (some (T,n)) c->wpAny (model q l) M (P8 a o s p) U E c)(h:∀g,g.get? f=some (Qg n (s+1) a Z.size p)->M9 f c.heap g->U (some T) { c with heap:=g }):wpAny (model q l) M (ES (.ref f)) U E c:=by
 have b:c.TypeIs (.ref f) "set_iterator":=⟨_,prog,rfl⟩
 unfold ES;refine l8 (aey (HX (name:=vx "__next__") b kg (yc kg b yX ?bd (yY _))));unfold um.«set_iterator.__next__»;refine l8 (mA ?_);refine l8 (ae6 prog rfl ?_);show wpAny _ _ (setEntries a >>= _) _ _ c;refine l8 (ae1 j rfl x ?_);have d:(((Z.size:Nat):Int) != ((Z.size:Nat):Int))=false:=by simp
 dsimp only;rw[d];simp only[rk,if_false];show wpAny _ _ (P8 a (U8 (o:Int)) (U8 (s:Int)) (U8 (p:Int)) >>= _) _ _ c;rw[Nc,Nc,Nc];refine l8 (Q _ _ _ ?_);dsimp only;refine l8 (WT prog rfl (by simp) ?_)
 have e:=NU (afv (·.setIfInBounds 0 (wQ (n:Int)))) prog (by rfl)
 refine l8 (WT e (vs:=#[wQ (n:Int),wQ s,.ref a,wQ Z.size,wQ p]) (by rfl) (by simp) ?_);refine mA ⟨T,rfl,mA (h _ ?_ ?_)⟩
 . exact(NU (afv (·.setIfInBounds 1 (wQ ((s:Int)+1)))) e (by rfl)).trans rfl
 . exact(NT ..).trans (NT ..)
def CZ (i:M.handled=none)(e:c.heap.get? f=some (Qg p o a Z.size n))(h:c.heap.get? a=some (iY Z n t))(j:t.fits Z.size=true)(Q:∀(M:qc) (E:Value->my->Prop) (U:Option (Value×Nat)->my->Prop),U none c->wpAny (model q l) M (P8 a p o n) U E c)(w:∀g,agi f c.heap g->U none { c with heap:=g }):wpAny (model q l) M (ES (.ref f)) U E c:=by
 have prog:c.TypeIs (.ref f) "set_iterator":=⟨_,e,rfl⟩
 unfold ES;refine l8 (aey (HX (name:=vx "__next__") prog kg (yc kg prog yX ?bd (yY _))));unfold um.«set_iterator.__next__»;refine l8 (mA ?_);refine l8 (ae6 e rfl ?_);show wpAny _ _ (setEntries a >>= _) _ _ c;refine l8 (ae1 h rfl j ?_);have d:(((Z.size:Nat):Int) != ((Z.size:Nat):Int))=false:=by simp
 dsimp only;rw[d];simp only[rk,if_false];show wpAny _ _ (P8 a (U8 (p:Int)) (U8 (o:Int)) (U8 (n:Int)) >>= _) _ _ c;rw[Nc,Nc,Nc];refine l8 (Q _ _ _ ?_);dsimp only;refine l8 (WT e rfl (by simp) ?_);refine l8 ?_;simp only[newExc,newTuple];refine l8 (z5 ?_ (by size_fits));refine l8 (m:=ae7 _ _) (ahy (a:=Ad) (by first|rfl| (simp only[ae7];rfl)) ?_);refine z5 ?_ (by size_fits);simp only[raiseNew];refine l8 (agT ?_);rw[show M.in1.handled=none from i];refine l8 (mA (ahz ?_));refine l8 (adQ (T:="StopIteration") (b:=true) ⟨_,p9 _ rfl,rfl⟩ agr ?_);exact mA (w _ (((NT ..).extBut.push _).push _))
def yZ:Slot "set_iterator" "__iter__" "set_iterator.__iter__" :=
 .of (owner:="set_iterator") (n:="__iter__") (by rw[agc,aeH];kernel_rfl) (by decide +kernel) (by decide +kernel) (by decide +kernel)
  (by first|exact .inl (by decide +kernel)|exact .inr (by decide +kernel)) (by rw[isSubtype_type];kernel_rfl)
def JT:entryFor table "set_iterator.__iter__" = some um.«dict_keyiterator.__iter__» :=
 entryFor_alias (id':="dict_keyiterator.__iter__") (by kernel_rfl) rfl (by decide +kernel) (by kernel_rfl)
def JU (a:Value):Wm "set_iterator.__iter__" ⟨[a],[]⟩:=by unfold Wm;kernel_rfl
section
variable {prog:uy}{w:World}{A:qc}{E:Value->my->Prop}{s:my}{I a:Addr}{es:Array (Int×Value)}{ep:Nat}{t:T1}{slot i:Nat}
def C0 (c:s.heap.get? I=some (Qg slot i a es.size ep))(h:Q (.ref I) s):wpAny (model prog w) A (Tt (.ref I)) Q E s:=by
 have b:s.TypeIs (.ref I) "set_iterator":=⟨_,c,rfl⟩
 refine afE b yZ (yc yZ b JT ?_ (JU _));show wpAny _ _ (ret (.ref I)) _ _ s;exact mA ⟨_,rfl,"set_iterator",_,b,kg.lookup,h⟩
structure Way (prog:uy)(w:World)(a:Addr)(es:Array (Int×Value))(ep:Nat)(t:T1)(ord:List Value)(ok:Nat->Nat->Prop):Prop where
 fit:t.fits es.size=true
 len:ord.length=es.size
 zero:ok 0 0
 step:∀i slot,i<es.size->ok i slot->∃x oa,ord[i]? = some x/\ok (i+1) oa /\ ∀(s:my) (A:qc) (E:Value->my->Prop) (Q:Option (Value×Nat)->my->Prop),s.heap.get? a=some (iY es ep t)->Q (some (x,oa)) s->wpAny (model prog w) A (P8 a slot i ep) Q E s
 stop:∀slot,ok es.size slot->∀(s:my) (A:qc) (E:Value->my->Prop) (Q:Option (Value×Nat)->my->Prop),s.heap.get? a=some (iY es ep t)->Q none s->wpAny (model prog w) A (P8 a slot es.size ep) Q E s
def walks (W:Way prog w a es ep t R J)(hh:A.handled=none)(C:a≠I):
  Walks prog w A I [I,a] [I] es.size (λi v=>R[i]? = some v) (λi h=>(∃slot,J i slot/\h.get? I=some (Qg slot i a es.size ep))/\h.get? a=some (iY es ep t)) where
 sub:=λb f=>by simp at f;simp[f]
 frame:=λ_ _ _ st n=>⟨let⟨d,q,e⟩:=st.1;⟨d,q,n I (by simp) _ e⟩,n a (by simp) _ st.2⟩
 item:=λi s Q E y st j=>by obtain⟨⟨d,q,e⟩,c⟩:=st;obtain⟨x,r,hx,z,u⟩:=W.step i d y q;refine CY e c W.fit (λA E Q h=>u s A E Q c h) λl Y9 p=>?_;exact j _ l s.toks hx ⟨⟨r,z,Y9⟩,p.extBut a _ C c⟩ λb o f e=>p.extBut b o (λh=>f (by simp[h])) e
 done:=λs Q E st j=>by obtain⟨⟨d,q,e⟩,c⟩:=st;exact CZ hh e c W.fit (λA E Q h=>W.stop d q s A E Q c h) λl he=>j l s.toks λb o f e=>he b o (λh=>f (by simp[h])) e
 self:=λi s Q E st j=>by obtain⟨⟨d,q,e⟩,c⟩:=st;exact C0 e j
theorem y9 {b:Type}:∀(l:List b) (i:Nat) (h:i<l.length),(l[i]::l.eraseIdx i).Perm l
 |x::l,0,h=>by simp|x::l,i+1,h=>by have:=y9 l i (by simpa using h);simp only[List.getElem_cons_succ,List.eraseIdx_cons_succ];exact(aib _ _ _).trans (this.cons x)
theorem y_ {b:Type}(f:Nat->Nat):∀(n k:Nat) (l:List b) (out:Array b),n=l.length->(ahc f n k l out).toList.Perm (out.toList++l)
 | 0,k,l,out,h=>by have:l = []:=ZW.mp h.symm;subst this;simp[ahc]
 |n+1,k,l,out,h=>by
  have a:0<l.length:=by omega
  have hm:=Nat.mod_lt (f k) a;rw[ahc,nz hm];dsimp only;refine(y_ f n (k+1) _ _ (by rw[List.length_eraseIdx_of_lt hm];omega)).trans ?_;rw[Array.toList_push,Fm,ags];exact List.Perm.append_left _ (y9 l _ hm)
def uE {b:Type}(f:Nat->Nat)(c:Array b):(Uw f c).toList.Perm c.toList:=by have:=y_ f c.size 0 c.toList #[] (by simp);simpa[Uw]using this
def V7 (j:t.fits es.size=true)(l:w.params.followText "set-order" = true):Way prog w a es ep t ((Uw (w.params.setOrder a ep) es).toList.map (·.2)) (λ_ slot=>slot=0):=by
 have e:(Uw (w.params.setOrder a ep) es).toList.length=es.toList.length:=(uE _ es).length_eq;have f:(Uw (w.params.setOrder a ep) es).size=es.size:=by simpa using e
 refine⟨j,by simp[f],rfl,λi slot h g=>?_,λslot g s A E Q b c=>?_⟩
 . subst g
   have d:i<(Uw (w.params.setOrder a ep) es).size:=by omega
   refine⟨(Uw (w.params.setOrder a ep) es)[i].2,0,by simp[d],rfl,λs A E Q b c=>?_⟩;refine uD b j l ?_;rw[Oa d];exact c
 . subst g
   refine uD b j l ?_;rw[ady (by omega)];exact c
def V8 (f:t.fits es.size=true)(l:w.params.followText "set-order" = false)(o:t.led=true)(n:t.plain=true)(q:t.place.size=es.size)(p:qr t.place 0=0)
   (hw:∀i j,t.place[i]? = some j->qr t.place (j+1)=i+1):Way prog w a es ep t (es.toList.map (·.2)) (λi slot=>qr t.place slot=i):=by
 refine⟨f,by simp,p,λi slot e h=>?_,λslot h s A E Q b c=>?_⟩
 . have d:i<t.place.size:=by omega
   refine⟨es[i].2,t.place[i]+1,by simp[e],hw i _ (Oa d),λs A E Q b c=>?_⟩;refine wx (slot':=0) (hh:=0) b f l o n ?_;rw[h,Oa e,Oa d];exact c
 . refine wx (slot':=0) (hh:=0) b f l o n ?_
   rw[h,ady (by omega)];exact c
end
def F0:typeLookup (.type "set") "__len__" = pure (some (.builtin "set.__len__")):=by rw[agc,aeH];kernel_rfl
section
def C2 {Q:Bool->my->Prop}(d:c.heap.get? a=some (iY Z n t))(f:t.fits Z.size=true)(prog:l.params.followText "set-order" = true\/t.plain=true)(b:Q false c):wpAny (model q l) M (setDrawn a) Q E c:=by
 unfold setDrawn;refine l8 (adB d rfl f ?_);dsimp only;unfold agJ;refine l8 (l8 (ZP (mA ?_)));have e:(!l.params.followText "set-order" && (!t.plain&&decide (Z.size>1)))=false:=by rcases prog with h|h<;>simp[h]
 refine mA ?_;show Q (!l.params.followText "set-order" && (!t.plain&&decide (Z.size>1))) c;rw[e];exact b
def F1 (prog:c.heap.get? a=some (iY Z n t))(d:t.fits Z.size=true)(f:l.params.followText "set-order" = true\/t.plain=true)(e:Q (.ref c.heap.objs.size) { c with heap:=c.heap.push (Qg 0 0 a Z.size n) }):wpAny (model q l) M (Tt (.ref a)) Q E c:=by
 have b:c.TypeIs (.ref a) "set":=⟨_,prog,rfl⟩
 refine afE b F.slot_set_iter (yc F.slot_set_iter b JS ?_ (F.args_set_iter_1 _));unfold um.«frozenset.__iter__» ajt slotArgs;simp only[List.isEmpty_nil,Zx,rk,↓reduceIte,bind_assoc,List.length_nil,bne_self_eq_false];unfold ai6 ai7;refine l8 (mA ?_);try dsimp only
 refine l8 (mA ?_);refine l8 (l8 (ae1 prog rfl d (mA ?_)));refine l8 (C2 prog d f ?_);simp only[rk,if_false];refine l8 (mA ?_);refine l8 (wpAny_setEpoch_of prog rfl d ?_);refine l8 (m:=newFields _ _) (z5 ?_);exact mA ⟨_,rfl,"set_iterator",_,⟨_,p9 _ rfl,rfl⟩,kg.lookup,e⟩
set_option maxHeartbeats 4000000 in
def yF {A:qc}{Q:List Value->my->Prop}(W:Way q l a Z n t R J)(hh:A.handled=none)(B:c.heap.get? a=some (iY Z n t))(s:l.params.followText "set-order" = true\/t.plain=true)(K:Z.size<=m6)(C:∀(g:Heap) (tk:Nat),c.heap.objs.size<g.objs.size->(∀b o,c.heap.get? b=some o->g.get? b=some o)->Q R { c with heap:=g,toks:=tk }):wpAny (model q l) A (Dw (.ref a)) Q E c:=by
 have O:a<c.heap.objs.size:=nI B;have w:c.heap.objs.size≠a:=λe=>GW _ (e ▸ O);unfold Dw;refine l8 (wpAny_runValue (Ze F.entry_proto_collect ?_));rw[adf F.plain_proto_collect _];show wpAny _ A.in1 (newList [] >>= λM=>again (.builtin "list.__iadd__" ⟨[M,.ref a],[]⟩)) _ _ c;refine l8 (z5 ?_);refine mA ⟨afw F.plain_list_iadd _,Ze F.entry_list_iadd ?_⟩;rw[adf F.plain_list_iadd _];show wpAny _ A.in1 (afl (.ref c.heap.objs.size) (.ref a) (.ref c.heap.objs.size)) _ _ _;unfold afl;have prog:(c.heap.push { cls:=.type "list",data:=.seq ([]:List Value).toArray }).get? a=some (iY Z n t):=nG _ B;refine l8 (YX (T:="set") ⟨_,prog,rfl⟩ ?_);have h1:afZ (.ref c.heap.objs.size) (.ref a)=false:=by simp[afZ,w]
 have h2:(wo "set" == wo "list")=false:=by decide
 have h3:(wo "set" == wo "tuple")=false:=by decide
 simp only[h1,h2,h3,afu,rk,if_false];refine l8 (F1 prog W.fit s ?_);refine l8 (wh ?_);generalize f:c.heap.push { cls:=.type "list",data:=.seq ([]:List Value).toArray }=H at *;have p:H.objs.size=c.heap.objs.size+1:=by rw[<- f,M8]
 have ok:(H.push (Qg 0 0 a Z.size n)).get? a=some (iY Z n t):=nG _ prog;unfold Builtin.List.listLengthHint;refine l8 (agd (T:="set") ⟨_,ok,rfl⟩ F0 ?_)
 wp_delta
 refine l8 (adQ (T:="set") (v:=.ref a) (b:=true) ⟨_,ok,rfl⟩ sub_set_self ?_);show wpAny _ A.in1 (typeOf (FX a) >>= _) _ _ _;refine l8 (YX (T:="set") (v:=.ref a) ⟨_,ok,rfl⟩ ?_);refine mA ?_;show wpAny _ A.in1 (rule "list.extend.makes-room" >>= λ_=>Builtin.List.listTouch (.ref c.heap.objs.size) >>= λ_ =>
   again (.builtin "list.extend.loop" ⟨[.ref c.heap.objs.size,.ref H.objs.size,.ref c.heap.objs.size],[]⟩)) _ _ _
 refine l8 (DK ?_);have U:(H.push (Qg 0 0 a Z.size n)).get? c.heap.objs.size=some { cls:=.type "list",data:=.seq ([]:List Value).toArray }:=nG _ (f ▸ p9 _ rfl);refine l8 ?_
 show wpAny _ A.in1 (updateSeq c.heap.objs.size (·.push .none) >>= λ_=>updateSeq c.heap.objs.size (·.pop)) _ _ _
 refine l8 (aeT U rfl ?_)
 have x:=NU (HG (·.push Ad)) U rfl
 refine aeT x rfl ?_
 have Y_:=NU (HG (·.pop)) x rfl
 have b_:∀b o,b≠c.heap.objs.size->(H.push (Qg 0 0 a Z.size n)).get? b=some o ->
     (((H.push (Qg 0 0 a Z.size n)).update c.heap.objs.size (HG (·.push Ad))).update c.heap.objs.size (HG (·.pop))).get? b=some o :=
   λb o d e=>(Y6 _ _ (n7 d)).trans ((Y6 _ _ (n7 d)).trans e)
 have Za:a≠H.objs.size:=by rw[p];exact ro (Oy O)
 have X:H.objs.size≠c.heap.objs.size:=by rw[p];exact Nat.succ_ne_self _
 have ze:c.heap.objs.size ∉ [H.objs.size,a]:=by simp only[nF,x5,or_false,not_or];exact⟨n7 X,w⟩
 refine mA ⟨afw F.plain_extend_loop _,codeAny_extend_loopS (walks W (I:=H.objs.size) (A:=A.in1) (by simp[hh]) Za).toS K _ ze _ Z.size 0 _ _ _ rfl (tc _)
   ⟨⟨0,W.zero,b_ _ _ X (p9 _ rfl)⟩,b_ _ _ (n7 w) ok⟩ Y_ (ItemsOf.nil _) λr i c' hm u z=>?_⟩
 show wpAny _ A (load c.heap.objs.size >>= _) _ _ r;refine l8 (wpAny_load u ?_);have V9:i.toList=R:=by
   apply Ws;intro j;by_cases Y:j<i.size
   . have:=z.2 j i[j] (Oa Y)
     rw[this,adH,Oa Y]
   . have e1:=z.1
     rw[zH (by simp;omega),zH (by rw[W.len];omega)]
 refine mA ?_;rw[V9];obtain⟨g,g',d',C3,CL⟩:=r;have eg:g'=c.gens:=hm.gens;have ed:d'=c.drawn:=hm.drawn;have eo:CL=c.os:=hm.os;subst eg;subst ed;subst eo;refine C g C3 (nI u) λb o e=>?_;have y:=nI e;have nb:b≠c.heap.objs.size:=ro y;have Zb:b≠H.objs.size:=by rw[p];exact ro (Oy y)
 refine hm.heap b o (λd=>?_) (b_ b o nb (nG _ (f ▸ nG _ e)));rcases nF.mp d with h|h
 . exact nb h
 . exact Zb (afm.mp h)
end
noncomputable def tb (P:List Nat)(led:Bool):T1:={ mask:=7,place:=P.toArray,dummies:=#[],finger:=0,led:=led,moves:=0,plain:=true }
end
section
variable {Z:Array Nat}
noncomputable def rN (c:Array Nat):Prop:=c.toList.Pairwise (· < ·)
def rO (h:rN Z)(a:p<Z.size)(b:n<p):Z[n]'(by omega)<Z[p]:=by have:=(List.pairwise_iff_getElem.mp h) n p (by simpa using af0 b a) (by simpa using a) b;simpa using this
theorem qC {r:Array Nat}(h:rN r){j:Nat}:∀(g q p:Nat),q<=p->p<=r.size->p-q<=g->(∀i (hz:i<r.size),i<q->r[i]< j)->(∀i (hz:i<r.size),p<=i->j<=r[i]) ->
  q<=adC r j g q p/\adC r j g q p<=p/\(∀i (hz:i<r.size),i<adC r j g q p->r[i]< j)/\(∀i (hz:i<r.size),adC r j g q p<=i->j<=r[i])
 | 0,q,p,h1,h2,y,u,v=>by
  have:q=p:=by omega
  subst this;exact⟨nc _,nc _,u,v⟩
 |g+1,q,p,h1,h2,y,u,v=>by
  unfold adC;by_cases x:q<p
  . rw[if_pos x]
    dsimp only;have hm:(q+p) / 2<r.size:=by omega
    have n:r.getD ((q+p) / 2) j=r[(q+p) / 2]:=by simp[hm]
    rw[n];split
    . rename_i f
      obtain⟨a,b,c,d⟩:=qC h g ((q+p) / 2+1) p (by omega) h2 (by omega) (λi l o=>by
       by_cases e:i=(q+p) / 2
       . subst e;exact f
       . exact af0 (rO h hm (by omega)) f) v
      exact⟨by omega,b,c,d⟩
    . rename_i f
      obtain⟨a,b,c,d⟩:=qC h g q ((q+p) / 2) (by omega) (by omega) (by omega) u (λi l B=>by
       by_cases e:i=(q+p) / 2
       . subst e;omega
       . have:=rO h l (show(q+p) / 2<i by omega)
         omega)
      exact⟨a,by omega,c,d⟩
  . rw[if_neg x]
    have:q=p:=by omega
    subst this;exact⟨nc _,nc _,u,v⟩
def mU (h:rN Z)(j:Nat):qr Z j<=Z.size/\(∀i (g:i<Z.size),i<qr Z j->Z[i]< j)/\(∀i (p:i<Z.size),qr Z j<=i->j<=Z[i]):=by obtain⟨_,a,b,c⟩:=qC h (j:=j) Z.size 0 Z.size (tc _) (nc _) (by omega) (λi g d=>by omega) (λi g n=>by omega);exact⟨a,b,c⟩
def C4 (h:rN Z)(j:Nat):(Z[qr Z j]? == some j)=true ↔ j∈Z:=by
 obtain⟨a,b,c⟩:=mU h j;rw[beq_iff_eq];constructor
 . intro e
   exact aeJ e
 . intro hm
   obtain⟨i,f,e⟩:=Array.mem_iff_getElem.mp hm;have o:¬i<qr Z j:=λd=>by have:=b i f d;omega
   have p:¬qr Z j<i:=λd=>by
    have n:qr Z j<Z.size:=by omega
    have:=c _ n (nc _);have:=rO h f d;omega
   have l:qr Z j=i:=by omega
   rw[l,Oa f,e]
structure mV (t:T1)(n:Nat):Prop where
 dm:t.dummies = #[]
 pl:t.plain=true
 sz:t.place.size=n
 ri:rN t.place
 le:∀j∈t.place,j<=t.mask
 mx:t.mask=7
 n4:n<=4
theorem mV.fits (h:mV t v):t.fits v=true:=by
 have hd:t.dummies.size=0:=by rw[h.dm];rfl
 have a:=h.sz;have hm:=h.mx;have b:=h.n4;unfold aiA agU;simp only[mS,beq_iff_eq,decide_eq_true_eq];exact⟨a,by omega⟩
theorem mV.slot (h:mV t v)(j:Nat):(j ∉ t.place->t.slot j = .empty)/\(j∈t.place->∃i,t.slot j = .live i):=by
 have a:=C4 h.ri j;unfold SetTable.slot;dsimp only;constructor
 . intro c
   have:(t.place[qr t.place j]? == some j)=false:=by
    cases e:(t.place[qr t.place j]? == some j)with
    |false=>rfl|true=>exact absurd (a.mp e) c
   rw[this,h.dm];have b:af1 #[] j=false:=by simp[af1]
   rw[b];rfl
 . intro hm
   rw[a.mpr hm];exact⟨_,rfl⟩
def JV (T:mV t h)(f:n<=7)(e:n ∉ t.place):t.freeSlot (n:Int)=some (n,false):=by
 have b:∀n:Nat,n<=7->aiB (n:Int) % 8=n:=by decide
 have a:(t.probeStart (n:Int)).j=n:=by show aiB (n:Int) % (t.mask+1)=n;rw[T.mx];exact b n f
 have d:(t.probeStart (n:Int)).dummy=none:=rfl;have c:10*agt t.mask=10*agt t.mask-1+1:=by unfold agt;omega
 unfold SetTable.freeSlot SetTable.probe;rw[c];unfold SetTable.probe.go;rw[a,(T.slot n).1 e];dsimp only;rw[d];rfl
def wy {a:Type}(c:Array a)(p:Nat)(x:a):(UR c p x).toList=c.toList.take p++x::c.toList.drop p:=by unfold UR;simp;exact Vu (by simp)
def kA {a:Type}(c:Array a)(p:Nat)(x:a):(UR c p x).toList.Perm (x::c.toList):=by rw[wy];refine List.perm_middle.trans ?_;rw[agu]
def JW (h:rN Z)(q:n ∉ Z):rN (UR Z (qr Z n) n):=by
 obtain⟨a,b,c⟩:=mU h n;unfold rN;rw[wy,List.pairwise_append];have g:∀x∈Z.toList.take (qr Z n),x<n:=λx f=>by obtain⟨i,d,e⟩:=OX.mp f;rw[Cu]at d;rw[ahp]at e;have:=b i (by simp at d;omega) (by omega);rw[<- e];simpa using this
 have d:∀x∈Z.toList.drop (qr Z n),n<x:=λx f=>by
   obtain⟨i,d,e⟩:=OX.mp f;rw[aez]at d;rw[List.getElem_drop]at e;have r:qr Z n+i<Z.size:=by simp at d;omega
   have p:=c _ r (by omega);have o:Z[qr Z n+i]=x:=by simpa using e
   have:x≠n:=λz=>q (by rw[<- z,<- o];exact afF r);omega
 refine⟨h.sublist (afD _ _),List.pairwise_cons.mpr ⟨d,h.sublist (List.drop_sublist _ _)⟩,λx f y l=>?_⟩;rcases nF.mp l with rfl|l
 . exact g x f
 . exact af0 (g x f) (d y l)
structure Ba (t:T1)(n:Nat):Prop where
 dm:t.dummies = #[]
 pl:t.plain=true
 sz:t.place.size=n
 ri:rN t.place
 le:∀j∈t.place,j<=t.mask
theorem Ba.fits (h:Ba t v)(b:v<=t.mask):t.fits v=true:=by
 have hd:t.dummies.size=0:=by rw[h.dm];rfl
 have a:=h.sz;unfold aiA agU;simp only[mS,beq_iff_eq,decide_eq_true_eq];exact⟨a,by omega⟩
def M_ (T:mV t v){es:Array (Int×Value)}(h:es.size=v)(d:n<=7)(f:n ∉ t.place)(x:Value):∃p g,layNew t es (n:Int) x=(p,g,false,false)/\Ba g (v+1)/\g.mask=t.mask/\g.led=t.led/\p.toList.Perm (((n:Int),x)::es.toList)/\p.size=v+1 /\ ∀i∈g.place,i=n\/i∈t.place:=by
 have e:=JV T d f;have hm:n<=t.mask:=by rw[T.mx];exact d
 have hd:af1 #[] n=false:=by simp[af1]
 have a:(UR es (qr t.place n) ((n:Int),x)).size=v+1:=by have:=(kA es (qr t.place n) ((n:Int),x)).length_eq;simp at this;omega
 have P:Ba { t with place:=UR t.place (qr t.place n) n,dummies:=t.dummies } (v+1):=by
  refine⟨T.dm,T.pl,?_,JW T.ri f,λk d=>?_⟩
  . have:=(kA t.place (qr t.place n) n).length_eq
    have:=T.sz;simp at *;omega
  . have:=(kA t.place (qr t.place n) n).mem_iff.mp (by simpa using d)
    rcases nF.mp this with rfl|h'
    . exact hm
    . exact T.le k (by simpa using h')
 have b:t.put n=({ t with place:=UR t.place (qr t.place n) n,dummies:=t.dummies },qr t.place n):=by unfold SetTable.put;dsimp only;rw[T.dm,hd];rfl
 have hf:=P.fits (by show v+1<=t.mask;have:=T.mx;have:=T.n4;omega)
 refine⟨UR es (qr t.place n) ((n:Int),x),_,?_,P,rfl,rfl,kA _ _ _,a,λi c=>nF.mp ((kA t.place (qr t.place n) n).mem_iff.mp (by simpa using c)) |>.imp id (by simp)⟩;unfold layNew;rw[e];dsimp only;rw[b];dsimp only;rw[a,hf];unfold SetTable.orStandIn;rw[hf];rfl
end
section
open PyProof.Rows
variable {Y:Expr}{A t:Pos}{a:List Stmt}{C:Env}{w:Value->Value->Sem Value}{v:Bool->Hp->Prop}{s:Stmt}{o:List (Str×Addr)}{m:VK}{k:Int->Int->Bool}{h:x3}{g:HO}{d:V}{op:CmpOp}{t':TE}{use:Option (Value->Sem Unit)}
noncomputable def ou (p:Int×Nat):Int×Value:=(ahh p.1,.int p.1 p.2)
noncomputable def jg (h:Heap)(a:Addr)(c:Bool)(i:List Int):Prop :=
 ∃(g:Array (Int×Value)) (n:Nat) (t:T1) (l:List (Int×Nat)),h.get? a=some (iY g n t)/\mV t g.size/\t.led=c/\g.toList.Perm (l.map ou)/\l.map (·.1)=i /\ ∀j∈t.place,((j:Nat):Int)∈i
noncomputable def kB (c:List Int)(k:Int):List Int:=if k∈c then c else c ++ [k]
section
def elems {prog:uy}{w:World}{c:Array (Int×Value)}{l:List (Int×Nat)}(b:c.toList.Perm (l.map ou)):ElemsOf (Ol prog w) c.toList:=by intro e g;have:=b.mem_iff.mp g;rw[nP]at this;obtain⟨p,hm,rfl⟩:=this;exact⟨⟨p.1,by simp[ou,Ol,afb],rfl⟩,rfl⟩
set_option maxHeartbeats 2000000 in
def JX {prog:uy}{w:World}{s:my}{a:Addr}{k:Int}{Q:Bool->my->Prop}(C:jg s.heap a Z z)(I:z.length<=3\/k∈z)(H:0<=k/\k<=7)(B:∀b U,M9 a s.heap U->jg U a Z (kB z k)->Q b { s with heap:=U }):wpAny (model prog w) M (setAddHashed a (.int k n) (ahh k)) Q E s:=by
 obtain⟨es,tok,t,l,J,T,tE,u,O,Y⟩:=id C;have TK:=elems (prog:=prog) (w:=w) u;have hf:t.fits es.size=true:=T.fits;have Na:es.size<=4:=T.n4;have hb:es.size<scanBound:=by unfold scanBound;omega
 have V_:(Ol prog w).is k (.int k n)=true:=by simp[Ol,afb]
 unfold setAddHashed setAddHashedIn;refine wh (l8 (adB J rfl hf ?_));dsimp only;rw[byScan_of (knd:=Ol prog w) (x:=.int k n) rfl hb TK];simp only[↓reduceIte];unfold setAddByScan;refine l8 ?_;refine l8 (DK ?_);refine l8 (wpAny_setScan_of (knd:=Ol prog w) (k:=k) V_ J rfl hf TK ?_);cases hr:List.findIdx? (λe=>(Ol prog w).is k e.2) es.toList with
 |some j =>
  dsimp only;obtain⟨hj,y,_⟩:=aes.mp hr;have v:k∈z:=by
    have:=u.mem_iff.mp (Cv hj);rw[nP]at this;obtain⟨p,hm,e⟩:=this;rw[<- e]at y;have zh:k=p.1:=by simp[ou,Ol,afb]at y;first|exact y|exact y.symm
    rw[zh,<- O];exact M4 hm
  refine mA (mA ?_);have hd:kB z k=z:=by unfold kB;rw[if_pos v]
  have e:s={ s with heap:=s.heap }:=by cases s;rfl
  rw[e];exact B _ s.heap (Heap.SameBut.refl a s.heap) (by rw[hd];exact C)
 |none =>
  dsimp only;have R:¬k∈z:=by intro v;rw[<- O,nP]at v;obtain⟨p,hm,e⟩:=v;have rP:=u.mem_iff.mpr (M4 (f:=ou) hm);have:=List.findIdx?_eq_none_iff.mp hr _ rP;subst e;simp[ou,Ol,afb]at this
  have Nb:es.size<=3:=by
    have g:=u.length_eq;rcases I with h|h
    . have:l.length=z.length:=by rw[<- O];simp
      simp at g;omega
    . exact absurd h R
  obtain⟨c,rfl⟩:∃A:Nat,k=A:=⟨k.toNat,(ZU H.1).symm⟩
  have hh:∀A:Nat,A<=7->ahh (A:Int)=A:=by decide
  have X:c<=7:=by omega
  obtain⟨r,d,e1,P,lT,gQ,zi,Nd,Wa⟩:=M_ T (es:=es) rfl X (λq=>R (Y c q)) (.int (c:Int) n);rw[hh c X,e1];dsimp only;refine l8 (mA ?_);rw[P.pl];simp only[if_true];refine l8 ?_;rw[hashByValue_scannable 8 (x:=.int (c:Int) n) rfl];refine mA ?_;refine l8 (wpAny_storeSet_of J rfl ?_ (fits_of_scanBound (by unfold scanBound;omega)));have hg:(s.heap.update a (Obj.putSet r d)).get? a=some (iY r (tok+1) d):=by have:=NU (Obj.putSet r d) J (by rw[putSet_of r d (o:=iY es tok t) rfl];rfl);rw[putSet_of r d (o:=iY es tok t) rfl]at this;exact this
  have Ia:plainKind (.int (c:Int) n)=true:=rfl;have Wb:r.toList.Perm ((l ++ [((c:Int),n)]).map ou):=by
    rw[UA];have:ou ((c:Int),n)=((c:Int),.int (c:Int) n):=by unfold ou;rw[hh c X]
    rw[List.map_singleton,this];refine zi.trans ((u.cons _).trans ?_);exact(List.perm_append_singleton _ _).symm
  have Wc:(l ++ [((c:Int),n)]).map (·.1)=kB z (c:Int):=by unfold kB;rw[if_neg R,<- O];simp
  have uG:d.fill=es.size+1:=by unfold agU;rw[P.sz,P.dm];rfl
  have Zd:d.tooFull=false:=decide_eq_false (by rw[uG,lT];have:=T.mx;omega)
  simp only[Ia,if_true,agv,afx,Zd,rk,if_false];refine mA (mA (B true _ (NT s.heap a _) ?_));refine⟨r,tok+1,d,l ++ [((c:Int),n)],hg,⟨P.dm,P.pl,by rw[P.sz,Nd],P.ri,P.le,lT.trans T.mx,by omega⟩,by rw[gQ,tE],Wb,Wc,λi hi=>?_⟩;unfold kB;rw[if_neg R,nQ];rcases Wa i hi with rfl|h
  . exact .inr sv
  . exact .inl (Y i h)
end
noncomputable def emp (c:Bool):Obj:=iY #[] 0 (tb [] c)
def JY (a:Value){Q₁:Value->my->Prop}(h:Q₁ (.ref c.heap.objs.size) { c with heap:=c.heap.push (emp (!l.params.followText "set-order")) }):
  PL (model q l) M (.call (.builtin "set.__new__") ⟨[.type "set",a],[]⟩) (wants Q₁ E) c:=by
 refine codeAny_of_tree ?_;show wpAny _ M.in1 (do af2 "set.__new__" ⟨[.type "set",a],[]⟩;again (.builtin "set.__new__" ⟨[.type "set",a],[]⟩)) _ _ c;refine l8 (ahy (F.newCall_set_1 a) (mA ⟨afw F.plain_set_new _,Ze F.entry_set_new ?_⟩));rw[adf F.plain_set_new _];unfold um.«set.__new__» aiD;have e:=sub_set_self;obtain⟨b,g,d,prog,os⟩:=c;dsimp only
 wp_walk
 refine ZP (mA ?_);dsimp only;simp only[newObj];refine l8 (agj (mA ?_));exact mA h
noncomputable def zs (c:List Nat):List Int:=c.map λ(k:Nat)=>(k:Int)
def uH {p:List Value}(f:R.Perm p):∀{g:List Int},Bb p g->∃i,Bb R i/\i.Perm g:=by
 induction f with
 |nil=>intro g h;exact⟨g,h,aid _⟩
 |cons x _ q =>
  intro g h;cases h with
  |cons n t hr =>
   obtain⟨i,a,b⟩:=q hr;exact⟨n::i,.cons _ _ a,b.cons n⟩
 |swap x y l =>
  intro g h;cases h with
  |cons n t hr =>
   cases hr with
   |cons m u r=>exact⟨m::n::_,.cons _ _ (.cons _ _ r),aib _ _ _⟩
 |trans _ _ v B =>
  intro g h;obtain⟨i,a,b⟩:=B h;obtain⟨e,c,d⟩:=v a;exact⟨e,c,d.trans b⟩
set_option genInjectivity true in
inductive D where
 |aA|bl (b:Bool)|int (i:Int)|str (x:Str)|tup (xs:List D)|lst (xs:List D)|dI|ref (n:Nat)|az (n:Nat)|fn (x:Str) (ds:List D)
structure KW where
 fr:oi
 w:World
 mg:Str->Option Value
 lx:Lx
instance:Coe KW oi:=⟨KW.fr⟩
noncomputable abbrev Cx.kw (X:Cx):KW:=⟨X.K,X.w,X.mg,X.lx⟩
noncomputable abbrev G:=List (List D)
noncomputable abbrev Sg:=List (Option D)
structure Ix where
 ix:List Addr
 hd:List Addr
 kd:Nat->Nat
noncomputable def kb:Nat->Bool
 | 0=>false|_+1=>true
noncomputable def dU (c:Ix)(n:Nat)(a:Addr)(b:Bool):Prop:=c.ix[n]? = some a/\kb (c.kd n)=b
noncomputable def Ix.more (c:Ix)(p:Addr)(b:Nat):Ix:=⟨c.ix ++ [p],c.hd,λi=>if i=c.ix.length then b else c.kd i⟩
mutual
noncomputable def aU:Nat->D->Bool
 |_,.aA=>true|_,.int _=>true|_,.str _=>true|n+1,.tup c=>kC n c|_,_=>false
noncomputable def kC:Nat->List D->Bool
 |_,[]=>true|n,d::ds=>aU n d&&kC n ds
end
mutual
noncomputable def hD (w:World):D->Int
 |.int i=>ahh i|.str x=>hashStr w x|.aA=>reduceHash 0xFCA86420|.tup c=>reduceHash (afM (C6 w c))|_=>0
noncomputable def C6 (w:World):List D->List Int
 | []=>[]|d::ds=>hD w d::C6 w ds
end
noncomputable def dO (a:Addr)(g:List qt)(c:Nat):HO:=.ext λh=>h.get? a=some { cls:=.type "dict",data:=.dict g.toArray (g.length-c) }
noncomputable def j3:List qt->List Value
 | []=>[]|e::c=>e.key::e.val::j3 c
noncomputable def aK:List D->List D
 |k::_::r=>k::aK r|_=>[]
inductive kD (w:World):List D->List qt->Prop
 |nil:kD w [] []
 |cons {k v:D} {r:List D} {e:qt} {es:List qt}:aU 6 k=true->e.hash=hD w k->kD w r es->kD w (k::v::r) (e::es)
inductive OV (K:KW)(a:Addr)(xs:List D):Nat->HO->List V->Prop
 |l (vs:List V):OV K a xs 0 (.lst vs) vs
 |d (c:Nat) (es:List qt) (vs:List V):c<=es.length->Vals vs (j3 es)->kD K.w xs es->(aK xs).Nodup->(a == M7)=false->es.length<=m6->OV K a xs (c+1) (dO a es c) vs
noncomputable def qh (K:KW)(H:Hp)(g:Ix)(a:Addr)(h:List V):Prop :=
 (Rd H a (.lst h)/\a ∉ g.ix/\a ∉ g.hd) \/
  ∃(o:Obj) (c:Array Value) (n:Nat),K.fr.lookup a=some o/\o.cls = .type "list" /\ o.dict=none/\o.data = .seq c n/\c.size<=m6/\Vals h c.toList
def qh.sq {K H ι a xs}(h:qh K H ι a xs):dy K H a xs:=by
 rcases h with⟨h,_⟩|h
 . exact .inl h
 . exact .inr h
noncomputable def qi (K:KW)(H:Hp)(h:Ix)(a:Addr)(g:List V):Prop :=
 (Rd H a (.tup g)/\a ∉ h.ix) \/
  ∃(o:Obj) (c:Array Value) (n:Nat),K.fr.lookup a=some o/\o.cls = .type "tuple" /\ o.dict=none/\o.data = .seq c n/\c.size<=m6/\Vals g c.toList
def qi.sq {K H ι a xs}(h:qi K H ι a xs):fz K H a xs:=by
 rcases h with⟨h,_⟩|h
 . exact .inl h
 . exact .inr h
noncomputable def TM:HO->Bool
 |.ext _=>true|_=>false
noncomputable def Xo (H:Hp)(c:Ix)(a:Addr)(u:HO):Prop:=H a=some u/\a ∉ c.ix/\(TM u=true->a ∉ c.hd)
noncomputable def Ng:HO->Bool
 |.ext _=>true|.iX _=>true|_=>false
noncomputable abbrev oK (a:Addr)(o:Obj):HO:=.ext λh=>h.get? a=some o
inductive cH (H:Hp)(ι:Ix):List (Str×Addr)->List V->Prop
 |nil:cH H ι [] []
 |cons {y:Str} {c:Addr} {o:Obj} {u:Value} {v:V} {cl:List (Str×Addr)} {vs:List V} (x:Xo H ι c (oK c o)) (d:o.data = .cell (some u)) (r:mI v u) (t:cH H ι cl vs):cH H ι ((y,c)::cl) (v::vs)
inductive C7 (K:KW)(H:Hp)(ι:Ix)(x:Str)(a:Addr)(vs:List V):Prop
 |mk (l:d7) (c:Addr) (fY pm:Value) (cl:List (Str×Addr)) (hl:K.lx.lm x=some l) (hf:Xo H ι a (oK a (aeU "<lambda>" l.qual l.ar l.bd l.sc cl pm c fY))) (hc:Xo H ι c (.iX l.qual)) (hn:cl.map (·.1)=l.fv) (hd:(cl.map (·.2)).Nodup) (hv:cH H ι cl vs):C7 K H ι x a vs
noncomputable def Ib (K:KW)(H:Hp)(g:Ix)(x:Str)(a:Addr)(c:List V):Prop:=(c = []/\K.lx.lm x=none/\K.mg x=some (.ref a))\/C7 K H g x a c
theorem cH.mono {H ι b a}(t:∀c u,Ng u=true->Xo H ι c u->Xo b a c u):∀{cl g},cH H ι cl g->cH b a cl g
 |_,_,.nil=>.nil|_,_,.cons x d r q=>.cons (t _ _ rfl x) d r (cH.mono t q)
theorem Ib.mono {K H ι d b x a vs}(h:Ib K H ι x a vs)(t:∀c u,Ng u=true->Xo H ι c u->Xo d b c u):Ib K d b x a vs:=by
 rcases h with h|⟨l,c,fY,pm,cl,hl,hf,hc,hn,hd,hv⟩
 . exact .inl h
 . exact .inr ⟨l,c,fY,pm,cl,hl,t _ _ rfl hf,t _ _ rfl hc,hn,hd,hv.mono t⟩
mutual
noncomputable def Rel (K:KW)(H:Hp)(c:Ix):D->V->Prop
 |.aA,v=>v = .aA|.bl b,v=>v = .bl b|.int i,v=>v = .int i|.str x,v=>v = .str x|.tup h,v=>∃a g,v = .ref a/\qi K H c a g/\ai K H c h g|.lst h,v=>∃a g,v = .ref a/\qh K H c a g/\ai K H c h g|.dI,v=>∃a,v = .ref a/\H a=some (.dK [])/\a ∉ c.ix|.ref n,v=>∃a,v = .ref a/\dU c n a false|.az n,v=>∃a,v = .ref a/\dU c n a true|.fn x ds,v=>∃a g,v = .ref a/\Ib K H c x a g/\ai K H c ds g
noncomputable def ai (K:KW)(H:Hp)(c:Ix):List D->List V->Prop
 | [],g=>g = []|x::h,g=>∃v p,g=v::p/\Rel K H c x v/\ai K H c h p
end
structure Ext (H:Hp)(ι:Ix)(H':Hp)(ι':Ix):Prop where
 same:∀a o,H a=some o->a ∉ ι.ix->H' a=some o
 there:∀a,H a≠none->H' a≠none
 more:∃m,ι'.ix=ι.ix++m /\ ∀a∈m,H a=none
 cF:ι'.hd=ι.hd
 lV:∀i,i < ι.ix.length->ι'.kd i=ι.kd i
structure au (K:KW)(H:Hp)(ι:Ix)(g:G):Prop where
 nd:ι.ix.Nodup
 len:ι.ix.length=g.length
 cF:∀b∈ι.hd,b ∉ ι.ix/\H b≠none
 at_:∀(i:Nat) xs,g[i]? = some xs->∃a o vs,ι.ix[i]? = some a/\H a=some o/\OV K a xs (ι.kd i) o vs/\ai K H ι xs vs
 tb:∀q∈K.lx.tb,H q.1=some (.cp q.2.1 q.2.2)/\q.1 ∉ ι.ix
noncomputable def bC (K:KW)(H:Hp)(g:Ix)(a:Sg)(c:mO):Prop :=
 a.length=c.length /\ ∀(i:Nat) d,a[i]? = some (some d)->∃v,c[i]? = some (some v)/\Rel K H g d v
def Ext.refl {H ι}:Ext H ι H ι:=⟨λ_ _ h _=>h,λ_ h=>h,⟨[],by simp,λ_ h=>by simp at h⟩,rfl,λ_ _=>rfl⟩
def Ext.old {H ι c e}(a:Ext H ι c e)(h:H f=some g)(n:f ∉ ι.ix):f ∉ e.ix:=λz=>by
 obtain⟨d,b,i⟩:=a.more;rw[b]at z;rcases nQ.mp z with z|z
 . exact n z
 . rw[i f z]at h;cases h
theorem Ext.trans {H ι r p s ι2}(a:Ext H ι r p)(b:Ext r p s ι2):Ext H ι s ι2:=by
 obtain⟨j,d,g⟩:=a.more;obtain⟨f,l,u⟩:=b.more;refine⟨λc o h n=>b.same c o (a.same c o h n) (a.old h n),λc h=>b.there c (a.there c h),⟨j++f,by rw[l,d,Fm],λc z=>?_⟩,b.cF.trans a.cF,λi e=>(b.lV i (by rw[d,nv];omega)).trans (a.lV i e)⟩;rcases nQ.mp z with z|z
 . exact g c z
 . cases q:H c with
   |none=>rfl|some o=>exact absurd (u c z) (a.there c (by rw[q];simp))
def Ext.at {H ι l j}(a:Ext H ι l j){i:Nat}(h:dU ι i f Z):dU j i f Z:=by obtain⟨c,e,_⟩:=a.more;have d:=(mT.mp h.1).1;refine⟨?_,by rw[a.lV i d];exact h.2⟩;rw[e,r_ d];exact h.1
def qh.ext {K H ι c b a xs}(e:Ext H ι c b)(h:qh K H ι a xs):qh K c b a xs:=by
 rcases h with⟨h|⟨o,h⟩,n,k⟩|h
 . exact .inl ⟨.inl (e.same _ _ h n),e.old h n,by rw[e.cF];exact k⟩
 . exact .inl ⟨.inr ⟨o,e.same _ _ h n⟩,e.old h n,by rw[e.cF];exact k⟩
 . exact .inr h
def Xo.ext {H ι b a c u}(e:Ext H ι b a)(h:Xo H ι c u):Xo b a c u:=⟨e.same _ _ h.1 h.2.1,e.old h.1 h.2.1,λy=>by rw[e.cF];exact h.2.2 y⟩
def qi.ext {K H ι c b a xs}(e:Ext H ι c b)(h:qi K H ι a xs):qi K c b a xs:=by
 rcases h with⟨h|⟨o,h⟩,n⟩|h
 . exact .inl ⟨.inl (e.same _ _ h n),e.old h n⟩
 . exact .inl ⟨.inr ⟨o,e.same _ _ h n⟩,e.old h n⟩
 . exact .inr h
mutual
theorem Rel.ext {K H ι o l}(e:Ext H ι o l):∀(d:D) {v:V},Rel K H ι d v->Rel K o l d v
 |.aA,v,h=>h|.bl _,v,h=>h|.int _,v,h=>h|.str _,v,h=>h|.tup p,v,h=>by simp only[Rel]at h ⊢;obtain⟨a,j,f,b,i⟩:=h;exact⟨a,j,f,b.ext e,ai.ext e p i⟩
 |.lst p,v,h=>by simp only[Rel]at h ⊢;obtain⟨a,j,f,b,i⟩:=h;exact⟨a,j,f,b.ext e,ai.ext e p i⟩
 |.dI,v,h=>by simp only[Rel]at h ⊢;obtain⟨a,f,b,i⟩:=h;exact⟨a,f,e.same _ _ b i,e.old b i⟩
 |.ref n,v,h=>by simp only[Rel]at h ⊢;obtain⟨a,f,b⟩:=h;exact⟨a,f,e.at b⟩
 |.az n,v,h=>by simp only[Rel]at h ⊢;obtain⟨a,f,b⟩:=h;exact⟨a,f,e.at b⟩
 |.fn x ds,v,h=>by simp only[Rel]at h ⊢;obtain⟨a,j,f,b,i⟩:=h;exact⟨a,j,f,b.mono λc u z q=>q.ext e,ai.ext e ds i⟩
theorem ai.ext {K H ι j i}(e:Ext H ι j i):∀(ds:List D) {g:List V},ai K H ι ds g->ai K j i ds g
 | [],g,h=>h|d::ds,g,h=>by simp only[ai]at h ⊢;obtain⟨v,a,f,b,c⟩:=h;exact⟨v,a,f,Rel.ext e d b,ai.ext e ds c⟩
end
theorem bC.ext {K H ι j c f σ}(e:Ext H ι j c)(h:bC K H ι f σ):bC K j c f σ :=
 ⟨h.1,λi d q=>let⟨v,a,b⟩:=h.2 i d q;⟨v,a,Rel.ext e d b⟩⟩
theorem ai.length {K H ι}:∀{ds:List D} {c:List V},ai K H ι ds c->ds.length=c.length
 | [],c,h=>by cases h;rfl|d::ds,c,h=>by obtain⟨v,b,rfl,_,a⟩:=h;simp[ai.length a]
theorem ai.append {K H ι}:∀{ds g:List D} {i n:List V},ai K H ι ds i->ai K H ι g n->ai K H ι (ds++g) (i++n)
 | [],g,i,n,h,k=>by cases h;exact k|d::ds,g,i,n,h,k=>by obtain⟨v,c,rfl,b,a⟩:=h;simp only[aeA,ai];exact⟨v,_,rfl,b,ai.append a k⟩
theorem ai.get {K H ι}:∀{ds:List D} {g:List V} {i:Nat} {d:D},ai K H ι ds g->ds[i]? = some d->∃v,g[i]? = some v/\Rel K H ι d v
 | [],_,_,_,_,e=>by simp at e|x::ds,g,0,d,h,e=>by obtain⟨v,c,rfl,b,a⟩:=h;simp at e;subst e;exact⟨v,rfl,b⟩
 |x::ds,g,i+1,d,h,e=>by obtain⟨v,c,rfl,b,a⟩:=h;obtain⟨u,f,j⟩:=ai.get (i:=i) a (by simpa using e);exact⟨u,by simpa using f,j⟩
theorem ai.set {K H ι d v}(c:Rel K H ι d v):∀{ds:List D} {g:List V} (i:Nat),ai K H ι ds g->ai K H ι (ds.set i d) (g.set i v)
 | [],_,_,h=>by cases h;simp[ai]|x::ds,g,0,h=>by obtain⟨u,b,rfl,hu,a⟩:=h;simp only[ahd,ai];exact⟨v,b,rfl,c,a⟩
 |x::ds,g,i+1,h=>by obtain⟨u,b,rfl,hu,a⟩:=h;simp only[List.set_cons_succ,ai];exact⟨u,_,rfl,hu,ai.set c i a⟩
theorem ai.take {K H ι}:∀{ds:List D} {c:List V} (n:Nat),ai K H ι ds c->ai K H ι (ds.take n) (c.take n)
 |_,_,0,_=>by simp[ai]| [],_,n+1,h=>by cases h;simp[ai]|x::ds,c,n+1,h=>by obtain⟨u,b,rfl,hu,a⟩:=h;simp only[List.take_succ_cons,ai];exact⟨u,_,rfl,hu,ai.take n a⟩
theorem ai.drop {K H ι}:∀{ds:List D} {c:List V} (n:Nat),ai K H ι ds c->ai K H ι (ds.drop n) (c.drop n)
 |_,_,0,h=>h| [],_,n+1,h=>by cases h;simp[ai]|x::ds,c,n+1,h=>by obtain⟨u,b,rfl,hu,a⟩:=h;simp only[List.drop_succ_cons];exact ai.drop n a
theorem au.at {K H q g}(h:au K H q g){n:Nat}{u:List D}{a:Addr}(e:g[n]? = some u)(p:dU q n a false):∃r,H a=some (.lst r)/\ai K H q u r:=by
 obtain⟨b,o,r,c,i,f,j⟩:=h.at_ n u e;rw[p.1]at c;cases c;have c:=p.2;generalize q.kd n=k at f c;cases f with
 |l=>exact⟨r,i,j⟩|d=>cases c
def au.rQ {K H u g}(h:au K H u g){v:List D}(e:g[n]? = some v)(q:dU u n f true):
  ∃r x c,H f=some (dO f r c)/\u.kd n=c+1/\c<=r.length/\Vals x (j3 r)/\kD K.w v r/\(aK v).Nodup/\(f == M7)=false/\r.length<=m6/\ai K H u v x:=by
 obtain⟨b,o,x,a,j,i,p⟩:=h.at_ n v e;rw[q.1]at a;cases a;have a:=q.2;generalize u.kd n=k at i a;cases i with
 |l=>cases a|d c r x y B C E I J=>exact⟨r,x,c,j,rfl,y,B,C,E,I,J,p⟩
def au.kX {K H ι g}(h:au K H ι g)(n:f∈ι.ix):H f≠none:=by
 obtain⟨i,c,e⟩:=OX.mp n;have a:i<g.length:=by rw[<- h.len];exact c
 obtain⟨b,_,l,d,j,_⟩:=h.at_ i _ (nz a);rw[nz c,e]at d;cases d;rw[j];simp
def Ext.lay {H ι p o}(b:H p=none):Ext H ι (upd H p o) ι :=
 ⟨λa u h _=>by rw[aD (aM h b)];exact h,λa h=>by
  by_cases e:a=p
  . subst e;exact absurd b h
  . rw[aD e];exact h,⟨[],by simp,λ_ h=>by simp at h⟩,rfl,λ_ _=>rfl⟩
theorem au.ext {K H u g r}(h:au K H u g)(e:Ext H u r u)(k:∀a∈u.ix,r a=H a):au K r u g :=
 ⟨h.nd,h.len,λb f=>⟨(h.cF b f).1,e.there b (h.cF b f).2⟩,λi v q=>by obtain⟨a,o,n,d,p,l,j⟩:=h.at_ i v q;exact⟨a,o,n,d,by rw[k a (sZ d)];exact p,l,ai.ext e v j⟩,λq c=>⟨e.same _ _ (h.tb q c).1 (h.tb q c).2,(h.tb q c).2⟩⟩
theorem au.lay {K H ι g p o}(h:au K H ι g)(c:H p=none):au K (upd H p o) ι g :=
 h.ext (Ext.lay c) λa b=>aD λe=>by subst e;exact h.kX b c
def au.fresh {K H ι g p}(h:au K H ι g)(b:H p=none):p ∉ ι.ix:=λa=>h.kX a b
def au.iK {K H ι g p}(h:au K H ι g)(b:H p=none):p ∉ ι.hd:=λa=>(h.cF p a).2 b
def Ext.jw {H ι p o b}(f:H p=none):Ext H ι (upd H p o) (ι.more p b):=by have e:=Ext.lay (ι:=ι) (o:=o) f;refine⟨e.same,e.there,⟨[p],rfl,λa c=>by simp at c;subst c;exact f⟩,rfl,λi d=>?_⟩;show(if i=ι.ix.length then b else ι.kd i)=ι.kd i;rw[if_neg (by omega)]
def Ext.push {H ι p o}(a:H p=none):Ext H ι (upd H p o) (ι.more p 0):=Ext.jw a
theorem au.jw {K H ι g p o xs vs b}(h:au K H ι g)(A:H p=none)(B:OV K p xs b o vs)(r:ai K H ι xs vs):au K (upd H p o) (ι.more p b) (g ++ [xs]):=by
 have u:=h.fresh A;refine⟨?_,by simp[Ix.more,h.len],λb c=>⟨λz=>?_,(Ext.jw (ι:=ι) (o:=o) (b:=0) A).there b (h.cF b c).2⟩,λi C q=>?_,λq d=>⟨by rw[aD (aM (h.tb q d).1 A)];exact(h.tb q d).1,λz=>(nQ.mp z).elim (h.tb q d).2 λz=>aM (h.tb q d).1 A (by simpa using z)⟩⟩
 . show(ι.ix ++ [p]).Nodup
   rw[TJ];refine⟨h.nd,by simp,λa x b c=>?_⟩;simp at c;subst c;intro e;subst e;exact u x
 . rcases nQ.mp z with z|z
   . exact(h.cF b c).1 z
   . simp at z;subst z;exact(h.cF _ c).2 A
 . by_cases E:i<g.length
   . rw[r_ E]at q
     obtain⟨a,l,I,y,j,s,n⟩:=h.at_ i C q;refine⟨a,l,I,(by show(ι.ix ++ [p])[i]? = some a;rw[r_ (by rw[h.len];exact E)];exact y),?_,?_,ai.ext (Ext.jw A) C n⟩
     . rw[aD (aM j A)];exact j
     . show OV K _ _ (if i=ι.ix.length then b else ι.kd i) l I
       rw[if_neg (by rw[h.len];omega)];exact s
   . rw[Fq (by omega)]at q
     have v:i-g.length=0:=by
       cases e:i-g.length with
       |zero=>rfl|succ k=>rw[e]at q;simp at q
     rw[v]at q;have e:xs=C:=by simpa using q
     subst e;have f:i=ι.ix.length:=by rw[h.len];omega
     refine⟨p,o,vs,?_,aR,?_,ai.ext (Ext.jw A) xs r⟩
     . show(ι.ix ++ [p])[i]? = some p
       rw[f];simp
     . show OV K _ _ (if i=ι.ix.length then b else ι.kd i) o vs
       rw[if_pos f];exact B
def au.push {K H ι g p xs vs}(h:au K H ι g)(a:H p=none)(r:ai K H ι xs vs):au K (upd H p (.lst vs)) (ι.more p 0) (g ++ [xs]):=h.jw a (.l vs) r
def dU.new {c:Ix}(h:c.ix.length=n):dU (c.more f p) n f (kb p):=by subst h;exact⟨by show(c.ix ++ [f])[c.ix.length]? = some f;simp,by show kb (if c.ix.length=c.ix.length then p else c.kd c.ix.length)=kb p;rw[if_pos rfl]⟩
def Ext.put {H ι}{a o c}(d:dU ι n a Z)(h:H a=some o):Ext H ι (upd H a c) ι :=
 ⟨λZ o q nb=>by rw[aD (λe=>nb (by rw[e];exact sZ d.1))];exact q,λZ q=>by
  by_cases e:Z=a
  . subst e;rw[aR];simp
  . rw[aD e];exact q,⟨[],by simp,λ_ z=>by simp at z⟩,rfl,λ_ _=>rfl⟩
def au.Nh {K H ι g}{a o B xs C}(h:au K H ι g)(A:dU ι n a Z)(E:H a=some o)(I:OV K a xs (ι.kd n) B C)(r:ai K H ι xs C):au K (upd H a B) ι (g.set n xs):=by
 refine⟨h.nd,by simp[h.len],λZ l=>⟨(h.cF Z l).1,(Ext.put A E).there Z (h.cF Z l).2⟩,λi f q=>?_,λq c=>⟨by rw[aD λz=>(h.tb q c).2 (by rw[z];exact sZ A.1)];exact(h.tb q c).1,(h.tb q c).2⟩⟩;by_cases e:i=n
 . subst e
   have j:i<g.length:=by rw[<- h.len];exact(mT.mp A.1).1
   rw[t7 j]at q;cases q;exact⟨a,B,C,A.1,aR,I,ai.ext (Ext.put A E) _ r⟩
 . rw[p7 (n7 e)]at q
   obtain⟨Z,u,J,d,v,s,p⟩:=h.at_ i f q;refine⟨Z,u,J,d,?_,s,ai.ext (Ext.put A E) f p⟩;rw[aD ?_]
   . exact v
   . intro z
     subst z;obtain⟨j,x⟩:=mT.mp d;obtain⟨M,y⟩:=mT.mp A.1;exact e ((afW h.nd).mp (x.trans y.symm))
def au.put {K H ι g}{a vs xs c}(h:au K H ι g)(d:dU ι n a false)(f:H a=some (.lst vs))(r:ai K H ι xs c):au K (upd H a (.lst c)) ι (g.set n xs):=h.Nh d f (by
 have b:=d.2;cases e:ι.kd n with
 |zero=>exact .l c|succ k=>rw[e]at b;cases b) r
noncomputable def Ix.hide (c:Ix)(p:Addr):Ix:=⟨c.ix,p::c.hd,c.kd⟩
mutual
theorem Rel.show {K H ι p}:∀(d:D) {v:V},Rel K H (Ix.hide ι p) d v->Rel K H ι d v
 |.aA,v,h=>h|.bl _,v,h=>h|.int _,v,h=>h|.str _,v,h=>h|.tup r,v,h=>by simp only[Rel]at h ⊢;obtain⟨a,e,i,b,f⟩:=h;exact⟨a,e,i,b,ai.show r f⟩
 |.lst r,v,h=>by
  simp only[Rel]at h ⊢;obtain⟨a,e,i,b,f⟩:=h;refine⟨a,e,i,?_,ai.show r f⟩;rcases b with⟨h,n,k⟩|h
  . exact .inl ⟨h,n,λz=>k (p8 _ z)⟩
  . exact .inr h
 |.dI,v,h=>by simpa[Rel,Ix.hide]using h|.ref n,v,h=>by simpa[Rel,Ix.hide,dU]using h|.az n,v,h=>by simpa[Rel,Ix.hide,dU]using h|.fn x ds,v,h=>by simp only[Rel]at h ⊢;obtain⟨a,e,i,b,f⟩:=h;exact⟨a,e,i,b.mono λc u z q=>⟨q.1,q.2.1,λy z=>q.2.2 y (p8 _ z)⟩,ai.show ds f⟩
theorem ai.show {K H ι p}:∀(ds:List D) {g:List V},ai K H (Ix.hide ι p) ds g->ai K H ι ds g
 | [],g,h=>h|d::ds,g,h=>by simp only[ai]at h ⊢;obtain⟨v,a,e,b,c⟩:=h;exact⟨v,a,e,Rel.show d b,ai.show ds c⟩
end
mutual
theorem Rel.hide {K H ι p o}(j:H p=none):∀(d:D) {v:V},Rel K H ι d v->Rel K (upd H p o) (Ix.hide ι p) d v
 |.aA,v,h=>h|.bl _,v,h=>h|.int _,v,h=>h|.str _,v,h=>h
 |.tup r,v,h=>by
  simp only[Rel]at h ⊢;obtain⟨a,i,f,b,e⟩:=h;refine⟨a,i,f,?_,ai.hide j r e⟩;rcases b with⟨h|⟨u,h⟩,n⟩|h
  . exact .inl ⟨.inl (by rw[aD (aM h j)];exact h),n⟩
  . exact .inl ⟨.inr ⟨u,by rw[aD (aM h j)];exact h⟩,n⟩
  . exact .inr h
 |.lst r,v,h=>by
  simp only[Rel]at h ⊢;obtain⟨a,i,f,b,e⟩:=h;refine⟨a,i,f,?_,ai.hide j r e⟩;have out:∀{u:HO},H a=some u->a ∉ ι.hd->a ∉ (Ix.hide ι p).hd:=λh k z=>by
    rcases nF.mp z with z|z
    . exact aM h j z
    . exact k z
  rcases b with⟨h|⟨u,h⟩,n,k⟩|h
  . exact .inl ⟨.inl (by rw[aD (aM h j)];exact h),n,out h k⟩
  . exact .inl ⟨.inr ⟨u,by rw[aD (aM h j)];exact h⟩,n,out h k⟩
  . exact .inr h
 |.dI,v,h=>by simp only[Rel]at h ⊢;obtain⟨a,f,b,e⟩:=h;exact⟨a,f,by rw[aD (aM b j)];exact b,e⟩
 |.ref n,v,h=>by simpa[Rel,Ix.hide,dU]using h|.az n,v,h=>by simpa[Rel,Ix.hide,dU]using h|.fn x ds,v,h=>by simp only[Rel]at h ⊢;obtain⟨a,i,f,b,e⟩:=h;exact⟨a,i,f,b.mono λc u z q=>⟨by rw[aD (aM q.1 j)];exact q.1,q.2.1,λy z=>(nF.mp z).elim (aM q.1 j) (q.2.2 y)⟩,ai.hide j ds e⟩
theorem ai.hide {K H ι p o}(f:H p=none):∀(ds:List D) {g:List V},ai K H ι ds g->ai K (upd H p o) (Ix.hide ι p) ds g
 | [],g,h=>h|d::ds,g,h=>by simp only[ai]at h ⊢;obtain⟨v,a,e,b,c⟩:=h;exact⟨v,a,e,Rel.hide f d b,ai.hide f ds c⟩
end
mutual
theorem Rel.grow {K H ι p us l}(j:H p=some (.lst us)):∀(d:D) {v:V},Rel K H (Ix.hide ι p) d v->Rel K (upd H p (.lst l)) (Ix.hide ι p) d v
 |.aA,v,h=>h|.bl _,v,h=>h|.int _,v,h=>h|.str _,v,h=>h
 |.tup r,v,h=>by
  simp only[Rel]at h ⊢;obtain⟨a,i,f,b,e⟩:=h;refine⟨a,i,f,?_,ai.grow j r e⟩;rcases b with⟨h|⟨u,h⟩,n⟩|h
  . exact .inl ⟨.inl (by rw[aD (rC h j (by simp))];exact h),n⟩
  . exact .inl ⟨.inr ⟨u,by rw[aD (rC h j (by simp))];exact h⟩,n⟩
  . exact .inr h
 |.lst r,v,h=>by
  simp only[Rel]at h ⊢;obtain⟨a,i,f,b,e⟩:=h;refine⟨a,i,f,?_,ai.grow j r e⟩;rcases b with⟨h,n,k⟩|h
  . have ne:a≠p:=λz=>k (by rw[z];exact sv)
    rcases h with h|⟨u,h⟩
    . exact .inl ⟨.inl (by rw[aD ne];exact h),n,k⟩
    . exact .inl ⟨.inr ⟨u,by rw[aD ne];exact h⟩,n,k⟩
  . exact .inr h
 |.dI,v,h=>by simp only[Rel]at h ⊢;obtain⟨a,f,b,e⟩:=h;exact⟨a,f,by rw[aD (rC b j (by simp))];exact b,e⟩
 |.ref n,v,h=>by simpa[Rel,Ix.hide,dU]using h|.az n,v,h=>by simpa[Rel,Ix.hide,dU]using h|.fn x ds,v,h=>by simp only[Rel]at h ⊢;obtain⟨a,i,f,b,e⟩:=h;exact⟨a,i,f,b.mono λc u z q=>⟨by rw[aD (rC q.1 j (λy=>by rw[y]at z;cases z))];exact q.1,q.2⟩,ai.grow j ds e⟩
theorem ai.grow {K H ι p us i}(f:H p=some (.lst us)):∀(ds:List D) {g:List V},ai K H (Ix.hide ι p) ds g->ai K (upd H p (.lst i)) (Ix.hide ι p) ds g
 | [],g,h=>h|d::ds,g,h=>by simp only[ai]at h ⊢;obtain⟨v,a,e,b,c⟩:=h;exact⟨v,a,e,Rel.grow f d b,ai.grow f ds c⟩
end
theorem au.hide {K H ι p o g}(s:H p=none)(h:au K H ι g):au K (upd H p o) (Ix.hide ι p) g :=
 ⟨h.nd,h.len,λb c=>by
  rcases nF.mp c with rfl|c
  . exact⟨h.fresh s,by rw[aR];simp⟩
  . refine⟨(h.cF b c).1,?_⟩
    by_cases e:b=p
    . subst e;rw[aR];simp
    . rw[aD e];exact(h.cF b c).2,λi u q=>by
  obtain⟨a,o,r,l,f,n,j⟩:=h.at_ i u q;exact⟨a,o,r,l,by rw[aD (aM f s)];exact f,n,ai.hide s u j⟩,λq d=>⟨by rw[aD (aM (h.tb q d).1 s)];exact(h.tb q d).1,(h.tb q d).2⟩⟩
theorem au.show {K H ι p g}(h:au K H (Ix.hide ι p) g):au K H ι g :=
 ⟨h.nd,h.len,λb l=>h.cF b (p8 _ l),λi n q=>by obtain⟨a,o,f,d,j,e,c⟩:=h.at_ i n q;exact⟨a,o,f,d,j,e,ai.show n c⟩,h.tb⟩
theorem au.grow {K H ι p us u g}(s:H p=some (.lst us))(h:au K H (Ix.hide ι p) g):au K (upd H p (.lst u)) (Ix.hide ι p) g :=
 ⟨h.nd,h.len,λb f=>⟨(h.cF b f).1,by
   by_cases e:b=p
   . subst e;rw[aR];simp
   . rw[aD e];exact(h.cF b f).2⟩,λi v q=>by
  obtain⟨a,o,n,d,r,l,j⟩:=h.at_ i v q;refine⟨a,o,n,d,?_,l,ai.grow s v j⟩;rw[aD (λe=>(h.cF p sv).1 (by rw[<- e];exact sZ d))];exact r,λq c=>⟨by rw[aD (rC (h.tb q c).1 s (by simp))];exact(h.tb q c).1,(h.tb q c).2⟩⟩
noncomputable abbrev FE:=Sg->G->Option (D×G)
noncomputable abbrev FT:=Sg->G->Option (Bool×G)
noncomputable abbrev FA:=Sg->G->Option (List D×G)
noncomputable def fZ (K:KW)(H:Hp)(h:Ix)(d:D)(i:G)(Q:VK):Prop:=∀g c v,Ext H h g c->au K g c i->Rel K g c d v->Q v g
noncomputable def Ry (K:KW)(H:Hp)(i:Ix)(ds:List D)(n:G)(Q:List V->Hp->Prop):Prop:=∀g c h,Ext H i g c->au K g c n->ai K g c ds h->Q h g
noncomputable def rR (K:KW)(H:Hp)(h:Ix)(i:G)(Q:Hp->Prop):Prop:=∀g c,Ext H h g c->au K g c i->Q g
inductive tD (K:KW)(f:FE)(σ:mO)(H:Hp)(Q:VK):Prop
 |mk (ι:Ix) (σd:Sg) (g:G) (d:D) (g':G) (h0:au K H ι g) (h1:bC K H ι σd σ) (h2:f σd g=some (d,g')) (h3:fZ K H ι d g' Q):tD K f σ H Q
inductive iL (K:KW)(f:FA)(σ:mO)(H:Hp)(Q:(List V->Hp->Prop)):Prop
 |mk (ι:Ix) (σd:Sg) (g:G) (d:List D) (g':G) (h0:au K H ι g) (h1:bC K H ι σd σ) (h2:f σd g=some (d,g')) (h3:Ry K H ι d g' Q):iL K f σ H Q
inductive lW (K:KW)(f:FT)(σ:mO)(H:Hp)(Q:(Bool->Hp->Prop)):Prop
 |mk (ι:Ix) (σd:Sg) (g:G) (b:Bool) (g':G) (h0:au K H ι g) (h1:bC K H ι σd σ) (h2:f σd g=some (b,g')) (h3:rR K H ι g' (Q b)):lW K f σ H Q
structure DE (X:Cx)(e:Expr)(f:FE):Prop where of ::
 un:PE X e (tD X.kw f)
structure DA (X:Cx)(es:List Expr)(f:FA):Prop where of ::
 un:PA X es (iL X.kw f)
structure DT (X:Cx)(e:Expr)(f:FT):Prop where of ::
 un:PT X e (lW X.kw f)
structure DW (X:Cx)(e:Expr)(f:FT):Prop where of ::
 un:PW X e (lW X.kw f)
def PE.imp {t:TE}(h:PE X e t)(i:∀c H Q,t' c H Q->t c H Q):PE X e t':=λg s c H Q I q=>h g s c H Q I (i c H Q q)
def PT.imp {t t':TT}(h:PT X e t)(i:∀c H Q,t' c H Q->t c H Q):PT X e t':=λg s c H Q I q=>h g s c H Q I (i c H Q q)
def PW.imp {t t':TT}(h:PW X e t)(i:∀c H Q,t' c H Q->t c H Q):PW X e t':=λw g s c H Q I q=>h w g s c H Q I (i c H Q q)
def PA.imp {t t':TA}(h:PA X B t)(i:∀c H Q,t' c H Q->t c H Q):PA X B t':=λpos g s c H Q I q=>h pos g s c H Q I (i c H Q q)
def fZ.mono {K H ι h f d g' Q}(e:Ext H ι h f)(p:fZ K H ι d g' Q):fZ K h f d g' Q:=λa c v b r q=>p a c v (e.trans b) r q
def rR.mono {K H ι f d g' Q}(e:Ext H ι f d)(p:rR K H ι g' Q):rR K f d g' Q:=λa c b r=>p a c (e.trans b) r
def tD.bind {K f}{ι c g d g'}(G0:au K H ι g)(i:bC K H ι c r)(h:f c g=some (d,g'))(k:∀p n v,Ext H ι p n->au K p n g'->bC K p n c r->Rel K p n d v->m v p):tD K f r H m :=
 ⟨ι,c,g,d,g',G0,i,h,λa b v e u q=>k a b v e u (i.ext e) q⟩
def iL.bind {K f}{Q:List V->Hp->Prop}{ι c g d g'}(G0:au K H ι g)(i:bC K H ι c r)(h:f c g=some (d,g'))(k:∀p n v,Ext H ι p n->au K p n g'->bC K p n c r->ai K p n d v->Q v p):iL K f r H Q :=
 ⟨ι,c,g,d,g',G0,i,h,λa b v e u q=>k a b v e u (i.ext e) q⟩
def lW.bind {K f}{ι c g d g'}(G0:au K H ι g)(i:bC K H ι c r)(h:f c g=some (d,g'))(k:∀p n,Ext H ι p n->au K p n g'->bC K p n c r->v d p):lW K f r H v :=
 ⟨ι,c,g,d,g',G0,i,h,λa b e q=>k a b e q (i.ext e)⟩
noncomputable def fC (d:D):FE:=λ_ g=>some (d,g)
noncomputable def aa (i:Nat):FE:=λc g=>match c[i]? with|some (some d)=>some (d,g)|_=>none
noncomputable abbrev bg:=aa 1
noncomputable abbrev bR:=aa 0
noncomputable abbrev b0:=aa 2
noncomputable abbrev cP:=fC (.int 1)
noncomputable abbrev cT:=aa 3
noncomputable abbrev dV:=fC (.int 0)
noncomputable abbrev d4:=aa 5
noncomputable abbrev ee:=aa 4
noncomputable abbrev ef:=aa 6
noncomputable abbrev eh:=aa 11
noncomputable abbrev ej:=fC (.int 2)
noncomputable abbrev eP:=aa 9
noncomputable abbrev eW:=aa 7
noncomputable abbrev eX:=aa 8
noncomputable abbrev fb:=fC .aA
noncomputable abbrev fc:=fC (.int 3)
noncomputable abbrev fh:=fC (.str "box")
noncomputable abbrev fo:=aa 15
noncomputable abbrev ft:=aa 13
noncomputable abbrev fw:=fC (.str "view")
noncomputable abbrev fy:=aa 14
noncomputable abbrev f7:=fC (.str "boxes")
noncomputable abbrev gb:=fC (.str "call")
noncomputable abbrev gk:=aa 16
noncomputable abbrev gD:=fC (.str "moving")
noncomputable abbrev hI:=fC (.str "told")
noncomputable abbrev hY:=fC (.str "left")
noncomputable abbrev ir:=fC (.str "steps")
noncomputable abbrev iQ:=fC (.str "reads")
noncomputable abbrev jc:=fC (.str "sign")
noncomputable abbrev jd:=fC (.str "own")
noncomputable abbrev jo:=aa 10
noncomputable abbrev jF:=fC (.str "read")
noncomputable abbrev jP:=fC (.bl true)
noncomputable abbrev j0:=fC (.str "toggles")
noncomputable abbrev kn:=fC (.int 10)
noncomputable abbrev ku:=fC (.str "hands")
noncomputable abbrev kH:=fC (.str "places")
noncomputable abbrev k0:=fC (.int 16)
noncomputable abbrev k6:=fC (.str "shared")
noncomputable abbrev k8:=fC (.str "hand")
noncomputable abbrev la:=fC (.int 4)
noncomputable abbrev lU:=fC (.int 5)
noncomputable abbrev lZ:=fC (.str "shakes")
noncomputable abbrev l6:=fC (.int 2305843009213693951)
def Ni {i j pos}:DE X (.Constant (.int i) j pos) (fC (.int i)):=.of (PE.imp L_ λq H Q h=>by obtain⟨n,a,g,d,b,G0,c,h,p⟩:=h;cases h;exact p H n _ Ext.refl G0 (by simp[Rel]))
def Nj {i j pos}:DE X (.Constant (.str i) j pos) (fC (.str i)):=.of (PE.imp Mb λq H Q h=>by obtain⟨n,a,g,d,b,G0,c,h,p⟩:=h;cases h;exact p H n _ Ext.refl G0 (by simp[Rel]))
def Rz {i j pos}:DE X (.Constant (.bool i) j pos) (fC (.bl i)):=.of (PE.imp Q7 λq H Q h=>by obtain⟨n,a,g,d,b,G0,c,h,p⟩:=h;cases h;exact p H n _ Ext.refl G0 (by simp[Rel]))
def Nk {j pos}:DE X (.Constant .none j pos) fb:=.of (PE.imp Ma λn H Q h=>by obtain⟨i,a,g,d,b,G0,c,h,p⟩:=h;cases h;exact p H i _ Ext.refl G0 (by simp[Rel]))
def Nl (i:Nat)(l:X.N[i]? = some x)(q:Ct X.env.scope x)(n:(x == ("__debug__":Str))=false)(o:(x == ("__classdict__":Str))=false):DE X (.Name x j) (aa i):=.of (PE.imp (L9 l q n o) λy H Q h=>by
 obtain⟨r,pos,g,d,u,G0,f,h,p⟩:=h;unfold aa at h;split at h
 . rename_i b e
   obtain⟨rfl,rfl⟩:b=d/\g=u:=by cases h;exact⟨rfl,rfl⟩
   obtain⟨v,a,c⟩:=f.2 i _ e;exact⟨v,a,p H r v Ext.refl G0 c⟩
 . cases h)
def JZ {u:D}(v:Gl X x)(f:X.mg x=some T)(r:mI d T)(q:∀K H n,Rel K H n u d)(i:(x == ("__debug__":Str))=false):DE X (.Name x j) (fC u):=.of (
 PE.imp (td v f r i) λy H Q h=>by obtain⟨n,a,g,u,b,G0,c,h,p⟩:=h;cases h;exact p H n _ Ext.refl G0 (q _ _ _))
inductive dD (K:KW)(o:D->D->G->Option (D×G))(x:V)(y:V)(H:Hp)(Q:VK):Prop
 |mk (ι:Ix) (g:G) (d1:D) (d2:D) (d:D) (g':G) (h0:au K H ι g) (h1:Rel K H ι d1 x) (h2:Rel K H ι d2 y) (h3:o d1 d2 g=some (d,g')) (h4:fZ K H ι d g' Q):dD K o x y H Q
inductive Nm (K:KW)(o:D->G->Option (D×G))(x:V)(H:Hp)(Q:VK):Prop
 |mk (ι:Ix) (g:G) (d1:D) (d:D) (g':G) (h0:au K H ι g) (h1:Rel K H ι d1 x) (h2:o d1 g=some (d,g')) (h3:fZ K H ι d g' Q):Nm K o x H Q
inductive lX (K:KW)(o:List D->G->Option (D×G))(xs:List V)(H:Hp)(Q:VK):Prop
 |mk (ι:Ix) (g:G) (ds:List D) (d:D) (g':G) (h0:au K H ι g) (h1:ai K H ι ds xs) (h2:o ds g=some (d,g')) (h3:fZ K H ι d g' Q):lX K o xs H Q
noncomputable def ag (o:D->D->G->Option (D×G))(fa h:FE):FE:=λc g=>(fa c g).bind λr=>(h c r.2).bind λq=>o r.1 q.1 q.2
noncomputable def rS (o:D->G->Option (D×G))(fa:FE):FE:=λc g=>(fa c g).bind λr=>o r.1 r.2
def bind_some {i d:Type}{x:Option i}{f:i->Option d}{b:d}(h:x.bind f=some b):∃a,x=some a/\f a=some b:=by
 cases x with
 |none=>cases h|some a=>exact⟨a,rfl,h⟩
def rT {fa:FE}{B:FE}{K}{o:D->D->G->Option (D×G)}(h:tD K (ag o fa B) r H m):CG (dD K o) (tD K fa) (tD K B) r H m:=by obtain⟨M,C,g,d,b,G0,f,h,p⟩:=h;obtain⟨⟨l,O⟩,x,h⟩:=bind_some h;obtain⟨⟨c,E⟩,i,h⟩:=bind_some h;refine tD.bind G0 f x λQ I v j J y e=>?_;refine tD.bind J y i λz q u a s R n=>?_;exact⟨q,E,l,c,d,b,s,Rel.ext a _ e,n,h,p.mono (j.trans a)⟩
def jx {fa:FE}{c:FE}{op:U1}{o:D->D->G->Option (D×G)}(i:bJ X (ta op) (dD X.kw o))(f:DE X e fa)(d:DE X y c):DE X (.BinOp e op y j) (ag o fa c):=.of (
 PE.imp (Rj i f.un d.un) λg H Q h=>rT h)
def Nn {fa:FE}{c:FE}{o:D->D->G->Option (D×G)}(a:bJ X (u3 op) (dD X.kw o))(i:DE X e fa)(f:DE X y c)(d:aew op y=false):DE X (.Compare e [op] [y] j) (ag o fa c):=.of (
 PE.imp (JG a i.un f.un d) λg H Q h=>rT h)
def RA {fa:FE}{op:UnaryOp}{o:D->G->Option (D×G)}(u:CF X (unaryOp op) (Nm X.kw o))(s:DE X e fa):DE X (.UnaryOp op e j) (rS o fa):=.of (
 PE.imp (Rk u s.un) λy H Q h=>by obtain⟨B,q,g,d,b,G0,pos,h,p⟩:=h;obtain⟨⟨a,x⟩,n,h⟩:=bind_some h;refine tD.bind G0 pos n λC f v i l r c=>?_;exact⟨f,x,a,d,b,l,c,h,p.mono i⟩)
noncomputable def fL (r:Option (D×G)):Option (Bool×G):=r.bind λr=>match r.1 with|.bl e=>some (e,r.2)|_=>none
def wA {r:Option (D×G)}{g:G}(h:fL r=some (Z,g)):r=some (.bl Z,g):=by
 obtain⟨⟨d,c⟩,a,h⟩:=bind_some h;cases d with
 |bl k=>cases h;exact a|_=>cases h
noncomputable def ay (f:FE):FT:=λc g=>fL (f c g)
def F3 {K f}(h:lW K (ay f) r H v):vp (tD K f) r H v:=by
 obtain⟨x,o,g,b,n,G0,c,h,p⟩:=h;obtain⟨⟨d,y⟩,l,h⟩:=bind_some h;cases d with
 |bl k =>
  cases h;exact tD.bind G0 c l λu e B i j q a=>⟨b,by simpa[Rel]using a,p u e i j⟩
 |_=>cases h
def Be {t:TE}(i:∀r H v,t' r H v->t r H v)(h:vp t' r H v):vp t r H v:=i r H _ h
def Nq {fa:FE}{c:FE}{o:D->D->G->Option (D×G)}(a:bJ X (u3 op) (dD X.kw o))(i:DE X e fa)(f:DE X y c)(d:aew op y=false):DT X (.Compare e [op] [y] j) (ay (ag o fa c)):=.of (
 PT.imp (JH a i.un f.un d) λg H Q h=>Be (λ_ _ _=>rT) (F3 h))
noncomputable def jQ (d:D)(g:G):Option Bool:=match d with
 |.aA=>some false|.bl e=>some e|.int i=>some (i != 0)|.tup c=>some (!c.isEmpty)|.lst c=>some (!c.isEmpty)|.dI=>some false|.ref n=>match g[n]? with|some c=>some (!c.isEmpty)|none=>none
 |.str _=>none|.az _=>none|.fn _ _=>none
noncomputable def ia (f:FE):FT:=λc g=>(f c g).bind λr=>(jQ r.1 r.2).map λb=>(b,r.2)
theorem ai.isEmpty {K H ι}{ds:List D}(h:ai K H ι ds U):ds.isEmpty=U.isEmpty:=by have:=h.length;cases ds<;>cases U<;>simp_all
def zj {K H ι g d v b}(G0:au K H ι g)(r:Rel K H ι d v)(h:jQ d g=some b):FL K v H b:=by
 cases d with
 |aA=>cases r;cases h;rfl|bl x=>cases r;cases h;rfl|int x=>cases r;cases h;rfl|str x=>cases h
 |tup p =>
  obtain⟨a,f,rfl,c,i⟩:=r;cases h;exact .inr (.inl ⟨f,c.sq,by rw[i.isEmpty]⟩)
 |lst p =>
  obtain⟨a,f,rfl,c,i⟩:=r;cases h;exact .inl ⟨f,c.sq,by rw[i.isEmpty]⟩
 |dI =>
  obtain⟨a,rfl,c,_⟩:=r;cases h;exact .inr (.inr ⟨[],c,rfl⟩)
 |ref n =>
  obtain⟨a,rfl,j⟩:=r;simp only[jQ]at h;split at h
  . rename_i p e
    cases h;obtain⟨f,l,o⟩:=G0.at e j;exact .inl ⟨f,.of l,by rw[o.isEmpty]⟩
  . cases h
 |az n=>cases h|fn x=>cases h
def Nr {fa:FE}(s:DE X e fa)(r:∀whole,isTrue e X.env whole=(do let u <- whole;Zg e.pos;HQ [u] (truthy u))):DT X e (ia fa):=.of (
 PT.imp (FN s.un r) λy H Q h=>by
  obtain⟨B,o,g,b,n,G0,f,h,p⟩:=h;obtain⟨⟨d,v⟩,l,h⟩:=bind_some h;cases ht:jQ d v with
  |none=>rw[ht]at h;cases h
  |some k =>
   rw[ht]at h;cases h;exact tD.bind G0 f l λx i u j c q a=>⟨b,zj c a ht,p x i j c⟩)
noncomputable def iM (h i:FT):FT:=λc g=>(h c g).bind λr=>if r.1=true then i c r.2 else some (false,r.2)
noncomputable def wB (h i:FT):FT:=λc g=>(h c g).bind λr=>if r.1=true then some (true,r.2)else i c r.2
noncomputable def Bf (c:FT):FT:=λh g=>(c h g).bind λr=>some (!r.1,r.2)
def J0 {c:FT}(d:DT X e c):DW X (.BoolOp .And [e] j) c:=.of (Jx d.un)
def Nt {c:FT}(d:DT X e c):DW X (.BoolOp .Or [e] j) c:=.of (Mc d.un)
def Nu {u:FT}{v:FT}(q:DT X e u)(r:DW X (.BoolOp .And (y::B) j) v):DW X (.BoolOp .And (e::y::B) j) (iM u v):=.of (
 PW.imp (Md q.un r.un) λE H Q h=>by
  obtain⟨I,l,g,k,i,G0,a,h,p⟩:=h;obtain⟨⟨f,x⟩,n,h⟩:=bind_some h;refine lW.bind G0 a n λC c d b o=>?_;cases f with
  |true=>simp only[if_true]at h ⊢;exact⟨c,l,x,k,i,b,o,h,p.mono d⟩|false=>simp only[rk,if_false]at h ⊢;cases h;exact p C c d b)
def RB {u:FT}{v:FT}(q:DT X e u)(r:DW X (.BoolOp .Or (y::B) j) v):DW X (.BoolOp .Or (e::y::B) j) (wB u v):=.of (
 PW.imp (Q8 q.un r.un) λE H Q h=>by
  obtain⟨I,l,g,k,i,G0,a,h,p⟩:=h;obtain⟨⟨f,x⟩,n,h⟩:=bind_some h;refine lW.bind G0 a n λC c d b o=>?_;cases f with
  |false=>simp only[rk,if_false]at h ⊢;exact⟨c,l,x,k,i,b,o,h,p.mono d⟩|true=>simp only[if_true]at h ⊢;cases h;exact p C c d b)
def DW.dt {c:FT}(h:DW X e c):DT X e c:=.of (PW.pt h.un)
def Nv {q:FT}(o:DT X e q):DT X (.UnaryOp .Not e j) (Bf q):=.of (
 PT.imp (Me o.un) λu H Q h=>by obtain⟨v,l,g,k,a,G0,b,h,p⟩:=h;obtain⟨⟨i,x⟩,f,h⟩:=bind_some h;cases h;exact lW.bind G0 b f λr c d pos n=>p r c d pos)
noncomputable def jy (fa h:FE):FE:=λc g=>(fL (fa c g)).bind λr=>if r.1=true then h c r.2 else some (.bl false,r.2)
noncomputable def F4 (fa h:FE):FE:=λc g=>(fL (fa c g)).bind λr=>if r.1=true then some (.bl true,r.2)else h c r.2
def Nw {fa:FE}{op}(h:DE X e fa):DE X (.BoolOp op [e] j) fa:=.of (Mf h.un)
def C9 {fa:FE}{x:FE}(s:DE X e fa)(u:DE X (.BoolOp .And (y::B) j) x):DE X (.BoolOp .And (e::y::B) j) (jy fa x):=.of (
 PE.imp (Mg s.un u.un) λI H Q h=>by
  obtain⟨J,q,g,d,l,G0,o,h,p⟩:=h;obtain⟨⟨b,C⟩,c,h⟩:=bind_some h;have c:=wA c;refine tD.bind G0 o c λE f v i a r n=>⟨b,by simpa[Rel]using n,?_⟩
  cases b with
  |true=>simp only[if_true]at h ⊢;exact⟨f,q,C,d,l,a,r,h,p.mono i⟩|false=>simp only[rk,if_false]at h ⊢;cases h;exact p E f _ i a (by simp[Rel]))
def RC {fa:FE}{x:FE}(s:DE X e fa)(u:DE X (.BoolOp .Or (y::B) j) x):DE X (.BoolOp .Or (e::y::B) j) (F4 fa x):=.of (
 PE.imp (Q_ s.un u.un) λI H Q h=>by
  obtain⟨J,q,g,d,l,G0,o,h,p⟩:=h;obtain⟨⟨b,C⟩,c,h⟩:=bind_some h;have c:=wA c;refine tD.bind G0 o c λE f v i a r n=>⟨b,by simpa[Rel]using n,?_⟩
  cases b with
  |false=>simp only[rk,if_false]at h ⊢;exact⟨f,q,C,d,l,a,r,h,p.mono i⟩|true=>simp only[if_true]at h ⊢;cases h;exact p E f _ i a (by simp[Rel]))
noncomputable def tF (h:FT)(fa i:FE):FE:=λc g=>(h c g).bind λr=>if r.1=true then fa c r.2 else i c r.2
def Nx {fa:FE}{c:FE}{x:FT}(v:DT X Y x)(s:DE X e fa)(u:DE X y c):DE X (.IfExp Y e y j) (tF x fa c):=.of (
 PE.imp (Fx v.un s.un u.un) λC H Q h=>by
  obtain⟨E,a,g,d,b,G0,q,h,p⟩:=h;obtain⟨⟨o,B⟩,r,h⟩:=bind_some h;refine lW.bind G0 q r λI f i l n=>?_;cases o with
  |true=>simp only[if_true]at h ⊢;exact⟨f,a,B,d,b,l,n,h,p.mono i⟩|false=>simp only[rk,if_false]at h ⊢;exact⟨f,a,B,d,b,l,n,h,p.mono i⟩)
noncomputable def af:FA:=λ_ g=>some ([],g)
noncomputable def ae (fa:FE)(fr:FA):FA:=λc g=>(fa c g).bind λr=>(fr c r.2).bind λq=>some (r.1::q.1,q.2)
def C_:DA X [] af:=.of (PA.imp lQ λn H Q h=>by obtain⟨i,a,g,d,b,G0,c,h,p⟩:=h;cases h;exact p H i _ Ext.refl G0 (by simp[ai]))
def tG {fa:FE}{fr:FA}(E:DE X e fa)(C:DA X B fr)(A:ni (e::B) X.env=(false,eval e X.env)::ni B X.env):DA X (e::B) (ae fa fr):=.of (
 PA.imp (ik E.un C.un A) λJ H Q h=>by obtain⟨M,I,g,d,x,G0,f,h,p⟩:=h;obtain⟨⟨O,R⟩,r,h⟩:=bind_some h;obtain⟨⟨y,U⟩,i,h⟩:=bind_some h;cases h;refine tD.bind G0 f r λY z v j o s c=>?_;refine iL.bind o s i λb n u a q Z l=>?_;refine p b n _ (j.trans a) q ?_;simp only[ai];exact⟨_,_,rfl,Rel.ext a _ c,l⟩)
noncomputable def ax (n:Nat):Bool:=decide (n<=16777216)
def ax.le (h:ax n=true):n<=m6:=by rw[IV];exact of_decide_eq_true h
noncomputable def aB (ds:List D)(g:G):Option (D×G):=if ax ds.length=true then some (.tup ds,g)else none
noncomputable def dP (ds:List D)(g:G):Option (D×G):=if ax ds.length=true then some (.lst ds,g)else none
noncomputable def mkRef (ds:List D)(g:G):Option (D×G):=if ax ds.length=true then some (.ref g.length,g ++ [ds])else none
def F5 {K H ι g ds vs d g' Q}(G0:au K H ι g)(r:ai K H ι ds vs)(h:aB ds g=some (d,g'))(p:fZ K H ι d g' Q):vs.length<=m6 /\ ∀q,H q=none->Q (.ref q) (upd H q (.tup vs)):=by
 unfold aB at h;split at h
 . rename_i z
   cases h;refine⟨by rw[<- r.length];exact ax.le z,λq a=>p _ _ _ (Ext.lay a) (G0.lay a) ?_⟩;simp only[Rel];exact⟨q,vs,rfl,.inl ⟨.inl aR,G0.fresh a⟩,ai.ext (Ext.lay a) _ r⟩
 . cases h
def F6 {K H ι g ds vs d g' Q}(G0:au K H ι g)(r:ai K H ι ds vs)(h:dP ds g=some (d,g'))(p:fZ K H ι d g' Q):vs.length<=m6 /\ ∀q,H q=none->Q (.ref q) (upd H q (.lst vs)):=by
 unfold dP at h;split at h
 . rename_i z
   cases h;refine⟨by rw[<- r.length];exact ax.le z,λq a=>p _ _ _ (Ext.lay a) (G0.lay a) ?_⟩;simp only[Rel];exact⟨q,vs,rfl,.inl ⟨.inl aR,G0.fresh a,G0.iK a⟩,ai.ext (Ext.lay a) _ r⟩
 . cases h
def F7 {K H ι g ds vs d g' Q}(G0:au K H ι g)(r:ai K H ι ds vs)(h:mkRef ds g=some (d,g'))(p:fZ K H ι d g' Q):vs.length<=m6 /\ ∀q,H q=none->Q (.ref q) (upd H q (.lst vs)):=by
 unfold mkRef at h;split at h
 . rename_i z
   cases h;refine⟨by rw[<- r.length];exact ax.le z,λq a=>p _ _ _ (Ext.push a) (G0.push a r) ?_⟩;simp only[Rel];exact⟨q,rfl,dU.new G0.len⟩
 . cases h
noncomputable def aJ (m:List D->G->Option (D×G))(fr:FA):FE:=λc g=>(fr c g).bind λr=>m r.1 r.2
def Dd {fr:FA}{q}(h:DA X B fr):DE X (.Tuple B q j) (aJ aB fr):=.of (PE.imp (MK h.un) λr H Q h=>by obtain⟨u,n,g,d,i,G0,b,h,p⟩:=h;obtain⟨⟨l,x⟩,f,h⟩:=bind_some h;exact iL.bind G0 b f λy C v c e o a=>F5 e a h (p.mono c))
def De {fr:FA}(h:DA X B fr):DE X (.List B j) (aJ dP fr):=.of (PE.imp (CK h.un) λq H Q h=>by obtain⟨r,n,g,d,i,G0,b,h,p⟩:=h;obtain⟨⟨l,u⟩,f,h⟩:=bind_some h;exact iL.bind G0 b f λx y v c e o a=>F6 e a h (p.mono c))
def wC {fr:FA}(h:DA X B fr):DE X (.List B j) (aJ mkRef fr):=.of (PE.imp (CK h.un) λq H Q h=>by obtain⟨r,n,g,d,i,G0,b,h,p⟩:=h;obtain⟨⟨l,u⟩,f,h⟩:=bind_some h;exact iL.bind G0 b f λx y v c e o a=>F7 e a h (p.mono c))
set_option genInjectivity true in
inductive F where
 |nx|rt (d:D)|bk|ct
noncomputable abbrev FS:=Sg->G->Option (F×Sg×G)
noncomputable def vy (K:KW)(H:Hp)(i:Ix)(r:F)(b:Sg)(n:G)(a:Ends):Prop :=
 ∀h g,Ext H i h g->au K h g n->match r with
  |.nx=>∀c,bC K h g b c->a.nx c h|.bk=>∀c,bC K h g b c->a.bk c h|.ct=>∀c,bC K h g b c->a.ct c h|.rt d=>∀v,Rel K h g d v->a.rt v h
inductive Ie (K:KW)(f:FS)(Dn:Ends)(σ:mO)(H:Hp):Prop
 |mk (ι:Ix) (σd:Sg) (g:G) (r:F) (bY:Sg) (g':G) (h0:au K H ι g) (h1:bC K H ι σd σ) (h2:f σd g=some (r,bY,g')) (h3:vy K H ι r bY g' Dn):Ie K f Dn σ H
structure DS (X:Cx)(st:Stmt)(f:FS):Prop where of ::
 un:PS X st (Ie X.kw f)
structure lY (X:Cx)(qj:List Stmt)(f:FS):Prop where of ::
 un:iF X qj (Ie X.kw f)
def PS.imp {t t':TS}(h:PS X s t)(i:∀g c H,t' g c H->t g c H):PS X s t':=λn e c H Q I q=>h n e c H Q I (i Q c H q)
def iF.imp {t t':TS}(h:iF X a t)(i:∀g c H,t' g c H->t g c H):iF X a t':=λn s c H Q I q=>h n s c H Q I (i Q c H q)
def vy.mono {K H ι i f r h g' Dn}(e:Ext H ι i f)(p:vy K H ι r h g' Dn):vy K i f r h g' Dn:=λb d c a=>p b d (e.trans c) a
noncomputable def a_:FS:=λc g=>some (.nx,c,g)
noncomputable def aw (c a:FS):FS:=λh g=>(c h g).bind λr=>match r.1 with|.nx=>a r.2.1 r.2.2|_=>some r
noncomputable def aP (f:FE):FS:=λc g=>(f c g).bind λr=>some (.rt r.1,c,r.2)
noncomputable def dw (f:FE):FS:=λc g=>(f c g).bind λr=>some (.nx,c,r.2)
noncomputable def cA (c:FT)(i a:FS):FS:=λh g=>(c h g).bind λr=>if r.1=true then i h r.2 else a h r.2
def J2:lY X [] a_:=.of (iF.imp Jy λe i H h=>by obtain⟨n,b,g,r,c,d,G0,a,h,p⟩:=h;cases h;exact p H n Ext.refl G0 i a)
def F8 {y:FS}{B:FS}(u:DS X s y)(v:lY X a B):lY X (s::a) (aw y B):=.of (iF.imp (Fy u.un v.un) λq I H h=>by
 obtain⟨E,l,g,r,n,i,G0,j,h,p⟩:=h;obtain⟨⟨e,f,C⟩,u,h⟩:=bind_some h;refine⟨E,l,g,e,f,C,G0,j,u,λx rest b c=>?_⟩;cases e with
 |nx=>exact λst o=>⟨rest,f,C,r,n,i,c,o,h,p.mono b⟩|bk=>cases h;exact p x rest b c|ct=>cases h;exact p x rest b c|rt d=>cases h;exact p x rest b c)
def J3 {c:FS}(a:DS X s c):lY X [s] c:=.of (Jz a.un)
def J4:DS X (.Pass j) a_:=.of (PS.imp JA λe i H h=>by obtain⟨n,b,g,r,c,d,G0,a,h,p⟩:=h;cases h;exact p H n Ext.refl G0 i a)
def Ny {x:FE}(u:DE X e x):DS X (.Return (some e) j) (aP x):=.of (PS.imp (Mj u.un) λl B H h=>by obtain⟨C,o,g,r,q,pos,G0,b,h,p⟩:=h;obtain⟨⟨n,E⟩,i,h⟩:=bind_some h;cases h;exact tD.bind G0 b i λy c v d f s a=>p y c d f v a)
def J5 {y:FE}(u:DE X e y)(x:M5 e none j.line X.env=pure false):DS X (.Expr e j) (dw y):=.of (PS.imp (JB u.un x) λn B H h=>by obtain⟨E,q,g,r,s,pos,G0,a,h,p⟩:=h;obtain⟨⟨o,I⟩,f,h⟩:=bind_some h;cases h;exact tD.bind G0 a f λC b v c d i l=>p C b c d B i)
def Nz {x j pos f}:DS X (.Expr (.Constant (.str x) j pos) f) a_:=.of (PS.imp Mi λe i H h=>by obtain⟨n,b,g,r,c,d,G0,a,h,p⟩:=h;cases h;exact p H n Ext.refl G0 i a)
def RE {y:FS}{B:FS}{C:FT}{b:List Stmt}(v:DT X e C)(x:lY X a y)(u:lY X b B):DS X (.If e a b j) (cA C y B):=.of (PS.imp (Rb v.un x.un u.un) λs I H h=>by
 obtain⟨J,i,g,r,c,d,G0,o,h,p⟩:=h;obtain⟨⟨k,E⟩,q,h⟩:=bind_some h;refine lW.bind G0 o q λM pos f l n=>?_;cases k with
 |true=>simp only[if_true]at h ⊢;exact⟨pos,i,E,r,c,d,l,n,h,p.mono f⟩|false=>simp only[rk,if_false]at h ⊢;exact⟨pos,i,E,r,c,d,l,n,h,p.mono f⟩)
noncomputable abbrev FG:=D->Sg->G->Option (Sg×G)
noncomputable abbrev ql:=List D->Sg->G->Option (Sg×G)
inductive NA (K:KW)(f:FG)(v:V)(σ:mO)(H:Hp)(Q:(mO->Hp->Prop)):Prop
 |mk (ι:Ix) (σd:Sg) (g:G) (d:D) (bY:Sg) (g':G) (h0:au K H ι g) (h1:bC K H ι σd σ) (h2:Rel K H ι d v) (h3:f d σd g=some (bY,g')) (h4:∀H' ι' σ',Ext H ι H' ι'->au K H' ι' g'->bC K H' ι' bY σ'->Q σ' H'):NA K f v σ H Q
inductive NB (K:KW)(f:ql)(v:List V)(σ:mO)(H:Hp)(Q:(mO->Hp->Prop)):Prop
 |mk (ι:Ix) (σd:Sg) (g:G) (d:List D) (bY:Sg) (g':G) (h0:au K H ι g) (h1:bC K H ι σd σ) (h2:ai K H ι d v) (h3:f d σd g=some (bY,g')) (h4:∀H' ι' σ',Ext H ι H' ι'->au K H' ι' g'->bC K H' ι' bY σ'->Q σ' H'):NB K f v σ H Q
structure DG (X:Cx)(tg:Expr)(f:FG):Prop where of ::
 un:PG X tg (NA X.kw f)
structure Df (X:Cx)(tg:List Expr)(f:ql):Prop where of ::
 un:qa X tg (NB X.kw f)
def PG.imp {t t':TG}(h:PG X e t)(i:∀v c H Q,t' v c H Q->t v c H Q):PG X e t':=λg s c H v u Q I r q=>h g s c H v u Q I r (i v c H Q q)
def qa.imp {t t':uj}(h:qa X B t)(i:∀v c H Q,t' v c H Q->t v c H Q):qa X B t':=λg s c H v u Q I r q=>h g s c H v u Q I r (i v c H Q q)
noncomputable def gN (i:Nat):FG:=λd c g=>some (c.set i (some d),g)
theorem bC.set {K H ι c σ d v}(S:bC K H ι c σ)(r:Rel K H ι d v)(i:Nat):bC K H ι (c.set i (some d)) (σ.set i (some v)):=by
 refine⟨by simp[S.1],λj b q=>?_⟩;by_cases e:i=j
 . subst e
   have a:i < c.length:=by
    by_cases a:i < c.length
    . exact a
    . rw[adg.mpr (by simpa using a)]at q;cases q
   rw[t7 a]at q;cases q;exact⟨v,by rw[t7 (by rw[<- S.1];exact a)],r⟩
 . rw[p7 e]at q ⊢
   exact S.2 j b q
def J6 (i:X.N.Nodup)(f:X.N[n]? = some x)(pos:EB X.env.scope x)(l:X.fn x=true\/X.env.scope.names.lookup x=some .local):DG X (.Name x j) (gN n):=.of (
 PG.imp (JC i f pos l) λv u H Q h=>by obtain⟨q,b,g,d,c,e,G0,a,r,h,p⟩:=h;cases h;exact p H q _ Ext.refl G0 (a.set r n))
noncomputable def eZ:ql:=λds c g=>match ds with| []=>some (c,g)|_=>none
noncomputable def aY (t:FG)(u:ql):ql:=λds c g=>match ds with|d::r=>(t d c g).bind λq=>u r q.1 q.2| []=>none
def J7:Df X [] eZ:=.of (qa.imp JD λv n H Q h=>by
 obtain⟨i,b,g,d,c,e,G0,a,r,h,p⟩:=h;cases d with
 |nil=>cases h;simp only[ai]at r;exact⟨r,p H i _ Ext.refl G0 a⟩|cons _ _=>cases h)
def F9 {t:FG}{u:ql}(A:DG X e t)(C:Df X B u)(I:(AR (e::B) X.env).map (·.2)=Hq e X.env::(AR B X.env).map (·.2)):Df X (e::B) (aY t u):=.of (qa.imp (FD A.un C.un I) λv σ H Q h=>by
 obtain⟨J,y,g,d,z,j,G0,o,r,h,p⟩:=h;cases d with
 |nil=>cases h
 |cons d ds =>
  obtain⟨M,f,rfl,n,i⟩:=r;obtain⟨⟨b,E⟩,A,h⟩:=bind_some h;exact⟨M,f,rfl,J,y,g,d,b,E,G0,o,n,A,λH1 q O a R U=>⟨q,b,E,ds,z,j,R,U,ai.ext a _ i,h,λc x l Y Z s=>p c x l (a.trans Y) Z s⟩⟩)
noncomputable def gT (n:Nat)(t:ql):FG:=λd h g=>match d with|.tup c=>if c.length=n then t c h g else none|_=>none
def NC {t:ql}(o:X.calm=true)(h:Df X B t)(s:(AR B X.env).length=n)(q:(AR B X.env).findIdx? (·.1)=none):DG X (.Tuple B p j) (gT n t):=.of (PG.imp (Mk o h.un s q) λv C H Q h=>by
 obtain⟨u,i,g,d,x,c,G0,f,r,h,k⟩:=h;cases d with
 |tup y =>
  obtain⟨a,e,rfl,l,b⟩:=r;simp only[gT]at h;split at h
  . rename_i z
    exact⟨a,e,rfl,l.sq,by rw[<- b.length];exact z,u,i,g,y,x,c,G0,f,b,h,k⟩
  . cases h
 |_=>cases h)
noncomputable def aF (f:FE)(t:FG):FS:=λc g=>(f c g).bind λr=>(t r.1 c r.2).bind λq=>some (.nx,q.1,q.2)
def J8 {K t}{B:FE}{A σ H}(h:Ie K (aF B t) A σ H):FF (tD K B) (NA K t) A σ H:=by obtain⟨I,n,g,r,J,M,G0,c,h,p⟩:=h;obtain⟨⟨i,C⟩,x,h⟩:=bind_some h;obtain⟨⟨o,E⟩,d,h⟩:=bind_some h;cases h;exact tD.bind G0 c x λO e v f q y b=>⟨e,n,C,i,o,E,q,y,b,d,λa l z s u j=>p a l (f.trans s) u z j⟩
def wD {g:FE}{t:FG}(c:DE X e g)(d:DG X y t)(b:UT [y] e j.line X.env=pure false)(hw:Ql [y] e X.env=pure none)(f:(AR [y] X.env).map (·.2)= [Hq y X.env]):DS X (.Assign [y] e j) (aF g t):=.of (PS.imp (Mm c.un d.un b hw f) λa i H h=>J8 h)
def Dg {J:FE}(B:X.N.Nodup)(pos:X.N[n]? = some x)(I:EB X.env.scope x)(C:DE X e J)(z:M5 e (some (.Name x j)) A.line X.env=pure false)(E:X.fn x=true\/X.env.scope.names.lookup x=some .local):
  DS X (.Assign [.Name x j] e A) (aF J (gN n)):=.of (PS.imp (Mn B pos I C.un z E) λo O H h=>by
 obtain⟨Q,s,g,r,u,y,G0,b,h,p⟩:=h;obtain⟨⟨q,R⟩,i,h⟩:=bind_some h;cases h;exact tD.bind G0 b i λM c v d f l a=>p M c d f _ (l.set a n))
noncomputable def putD (o i v:D)(g:G):Option G:=match o,i with
 |.ref n,.int k=>match g[n]? with
  |some c=>match lR c.length k with
   |some j=>some (g.set n (c.set j v))|none=>none
  |none=>none
 |_,_=>none
noncomputable abbrev FI:=Sg->G->Option (List D×G)
structure iZ (H:Hp)(ι:Ix)(H':Hp)(ι':Ix):Prop where
 same:∀a o,H a=some o->a ∉ ι.ix->H' a=some o
 there:∀a,H a≠none->H' a≠none
 more:∃m,ι'.ix=ι.ix++m /\ ∀a∈m,H a=none
 cF:∃hs,ι'.hd=hs++ι.hd /\ ∀b∈hs,H b=none
 lV:∀i,i < ι.ix.length->ι'.kd i=ι.kd i
def Ext.dW {H ι a ι1}(e:Ext H ι a ι1):iZ H ι a ι1:=⟨e.same,e.there,e.more,⟨[],e.cF,λ_ z=>by simp at z⟩,e.lV⟩
def iZ.old {H ι c e}(a:iZ H ι c e)(h:H f=some g)(n:f ∉ ι.ix):f ∉ e.ix:=λz=>by
 obtain⟨d,b,i⟩:=a.more;rw[b]at z;rcases nQ.mp z with z|z
 . exact n z
 . rw[i f z]at h;cases h
def iZ.F_ {H ι c e}(a:iZ H ι c e)(h:H f=some g)(n:f ∉ ι.hd):f ∉ e.hd:=λz=>by
 obtain⟨d,b,i⟩:=a.cF;rw[b]at z;rcases nQ.mp z with z|z
 . rw[i f z]at h;cases h
 . exact n z
def iZ.at {H ι l j}(a:iZ H ι l j){i:Nat}(h:dU ι i f Z):dU j i f Z:=by obtain⟨c,e,_⟩:=a.more;have d:=(mT.mp h.1).1;refine⟨?_,by rw[a.lV i d];exact h.2⟩;rw[e,r_ d];exact h.1
def qh.dW {K H ι c b a xs}(e:iZ H ι c b)(h:qh K H ι a xs):qh K c b a xs:=by
 rcases h with⟨h|⟨o,h⟩,n,k⟩|h
 . exact .inl ⟨.inl (e.same _ _ h n),e.old h n,e.F_ h k⟩
 . exact .inl ⟨.inr ⟨o,e.same _ _ h n⟩,e.old h n,e.F_ h k⟩
 . exact .inr h
def qi.dW {K H ι c b a xs}(e:iZ H ι c b)(h:qi K H ι a xs):qi K c b a xs:=by
 rcases h with⟨h|⟨o,h⟩,n⟩|h
 . exact .inl ⟨.inl (e.same _ _ h n),e.old h n⟩
 . exact .inl ⟨.inr ⟨o,e.same _ _ h n⟩,e.old h n⟩
 . exact .inr h
mutual
theorem Rel.dW {K H ι o l}(e:iZ H ι o l):∀(d:D) {v:V},Rel K H ι d v->Rel K o l d v
 |.aA,v,h=>h|.bl _,v,h=>h|.int _,v,h=>h|.str _,v,h=>h|.tup p,v,h=>by simp only[Rel]at h ⊢;obtain⟨a,j,f,b,i⟩:=h;exact⟨a,j,f,b.dW e,ai.dW e p i⟩
 |.lst p,v,h=>by simp only[Rel]at h ⊢;obtain⟨a,j,f,b,i⟩:=h;exact⟨a,j,f,b.dW e,ai.dW e p i⟩
 |.dI,v,h=>by simp only[Rel]at h ⊢;obtain⟨a,f,b,i⟩:=h;exact⟨a,f,e.same _ _ b i,e.old b i⟩
 |.ref n,v,h=>by simp only[Rel]at h ⊢;obtain⟨a,f,b⟩:=h;exact⟨a,f,e.at b⟩
 |.az n,v,h=>by simp only[Rel]at h ⊢;obtain⟨a,f,b⟩:=h;exact⟨a,f,e.at b⟩
 |.fn x ds,v,h=>by simp only[Rel]at h ⊢;obtain⟨a,j,f,b,i⟩:=h;exact⟨a,j,f,b.mono λc u z q=>⟨e.same _ _ q.1 q.2.1,e.old q.1 q.2.1,λy=>e.F_ q.1 (q.2.2 y)⟩,ai.dW e ds i⟩
theorem ai.dW {K H ι j i}(e:iZ H ι j i):∀(ds:List D) {g:List V},ai K H ι ds g->ai K j i ds g
 | [],g,h=>h|d::ds,g,h=>by simp only[ai]at h ⊢;obtain⟨v,a,f,b,c⟩:=h;exact⟨v,a,f,Rel.dW e d b,ai.dW e ds c⟩
end
noncomputable def mW (K:KW)(J:It)(H:Hp)(p:Ix)(ds:List D):Prop :=
 ∀(i:Nat) g c n,iZ H p g c->au K g c n->(ds.length<=i->J.stop i g) /\ ∀d,ds[i]? = some d->J.go i g /\ ∀x h,J.yR i g x h->Ext g c h c/\au K h c n/\Rel K h c d x
inductive TN (K:KW)(f:FI)(σ:mO)(H:Hp)(R:(It->Hp->Prop)):Prop
 |mk (ι:Ix) (σd:Sg) (g:G) (ds:List D) (g':G) (h0:au K H ι g) (h1:bC K H ι σd σ) (h2:f σd g=some (ds,g')) (h3:∀H' ι' J,Ext H ι H' ι'->au K H' ι' g'->mW K J H' ι' ds->R J H'):TN K f σ H R
structure DI (X:Cx)(tg iter:Expr)(f:FI):Prop where of ::
 un:PI X tg iter (TN X.kw f)
def PI.imp {t t':TI}(h:PI X y e t)(i:∀c H Q,t' c H Q->t c H Q):PI X y e t':=λg s c H Q I q=>h g s c H Q I (i c H Q q)
def mW.lst {K H ι a vs ds}(n:qh K H ι a vs)(o:ai K H ι ds vs):mW K (HM K a) H ι ds:=λi g l p b f =>
 ⟨λe=>⟨vs,(n.dW b).sq,by rw[<- o.length];exact e⟩,λd hd=>by obtain⟨v,c,h⟩:=(ai.dW b _ o).get hd;refine⟨⟨vs,v,(n.dW b).sq,c⟩,λx j y=>?_⟩;obtain⟨rfl,y⟩:=y;have:=y vs (n.dW b).sq;rw[c]at this;cases this;exact⟨Ext.refl,f,h⟩⟩
def mW.We {K H ι a vs ds}(n:qi K H ι a vs)(o:ai K H ι ds vs):mW K (Mx K a) H ι ds:=λi g l p b f =>
 ⟨λe=>⟨vs,(n.dW b).sq,by rw[<- o.length];exact e⟩,λd hd=>by obtain⟨v,c,h⟩:=(ai.dW b _ o).get hd;refine⟨⟨vs,v,(n.dW b).sq,c⟩,λx j y=>?_⟩;obtain⟨rfl,y⟩:=y;have:=y vs (n.dW b).sq;rw[c]at this;cases this;exact⟨Ext.refl,f,h⟩⟩
def mW.fS {K H ι}:mW K (Cy i n) H ι ((r6 n).map λ(k:Nat)=>D.int (i+k)):=λl g h p j c =>
 ⟨λb=>(by show n<=l;simpa using b),λd hd=>by
  have a:l<n:=by have:=(mT.mp hd).1;simpa using this
  refine⟨a,λx f y=>?_⟩;obtain⟨rfl,rfl⟩:=y;have e:d=D.int (i+l):=by simpa[qd,acY a]using hd.symm
  subst e;exact⟨Ext.refl,c,by simp[Rel]⟩⟩
noncomputable def vz (f:FE):FI:=λc g=>(f c g).bind λr=>match r.1 with|.tup h=>some (h,r.2)|_=>none
noncomputable def vA (f:FE):FI:=λc g=>(f c g).bind λr=>match r.1 with|.lst h=>some (h,r.2)|_=>none
def ND {B:FE}(x:DE X y B):DI X e y (vz B):=.of (PI.imp (My x.un) λI H Q h=>by
 obtain⟨J,s,g,ds,r,G0,C,h,p⟩:=h;obtain⟨⟨n,M⟩,q,h⟩:=bind_some h;cases n with
 |tup O =>
  cases h;refine tD.bind G0 C q λE f v j o u d=>?_;obtain⟨a,c,rfl,b,i⟩:=d;exact⟨a,rfl,⟨c,b.sq⟩,p E f _ j o (.We b i)⟩
 |_=>cases h)
def NF {B:FE}(x:DE X y B):DI X e y (vA B):=.of (PI.imp (yS x.un) λI H Q h=>by
 obtain⟨J,s,g,ds,r,G0,C,h,p⟩:=h;obtain⟨⟨n,M⟩,q,h⟩:=bind_some h;cases n with
 |lst O =>
  cases h;refine tD.bind G0 C q λE f v j o u d=>?_;obtain⟨a,c,rfl,b,i⟩:=d;exact⟨a,rfl,⟨c,b.sq⟩,p E f _ j o (.lst b i)⟩
 |_=>cases h)
noncomputable def fA (i:Int):Bool:=Pf i.natAbs 4611686018427387903
def fA.and (h:fA i=true):-(2 ^ 62)<=i/\i<2 ^ 62:=by have:=TU h;omega
def fA.of (c:-1000000<=i)(d:i<=1000000):fA i=true:=Zo (by omega)
noncomputable def dX (fr:FA):FI:=λc g=>(fr c g).bind λr=>match r.1 with| [.int j]=>if fA j=true then some ((r6 j.toNat).map λ(k:Nat)=>D.int (0+k),r.2)else none|_=>none
noncomputable def TQ (fr:FA):FI:=λc g=>(fr c g).bind λr=>match r.1 with| [.int i,.int j]=>if(fA i&&fA j)=true then some ((r6 (j-i).toNat).map λ(k:Nat)=>D.int (i+k),r.2)else none|_=>none
def RF {fr:FA}(s:Gl X "range")(u:X.mg "range" = none)(x:DA X [y] fr)(r:ni [y] X.env = [(false,eval y X.env)]):DI X e (.Call (.Name "range" A) [y] [] j) (dX fr):=.of (
 PI.imp (CA s u x.un r) λC H Q h=>by
  obtain⟨E,o,g,ds,l,G0,c,h,A⟩:=h;obtain⟨⟨n,I⟩,i,h⟩:=bind_some h;refine iL.bind G0 c i λp d v a f q b=>?_;dsimp only at h;split at h
  . rename_i B
    split at h
    . rename_i z
      cases h;obtain⟨_,_,rfl,rfl,rfl⟩:=b;exact⟨B,rfl,(fA.and z).1,(fA.and z).2,A p d _ a f .fS⟩
    . cases h
  . cases h)
def RG {fr:FA}(B:Gl X "range")(a:X.mg "range" = none)(pos:DA X [y,Y] fr)(u:ni [y,Y] X.env = [(false,eval y X.env),(false,eval Y X.env)])(x:ni [Y] X.env = [(false,eval Y X.env)]):DI X e (.Call (.Name "range" A) [y,Y] [] j) (TQ fr):=.of (
 PI.imp (CB B a pos.un u x) λE H Q h=>by
  obtain⟨I,r,g,ds,o,G0,d,h,A⟩:=h;obtain⟨⟨q,J⟩,n,h⟩:=bind_some h;refine iL.bind G0 d n λp b v f l s c=>?_;dsimp only at h;split at h
  . rename_i i C
    split at h
    . rename_i z
      rw[mS]at z;cases h;obtain⟨_,_,rfl,rfl,_,_,rfl,rfl,rfl⟩:=c;exact⟨i,C,rfl,⟨(fA.and z.1).1,(fA.and z.1).2,(fA.and z.2).1,(fA.and z.2).2⟩,A p b _ f l .fS⟩
    . cases h
  . cases h)
noncomputable def forL (t:FG)(b:FS):List D->FS
 | [],c,g=>some (.nx,c,g)
 |d::ds,c,g=>(t d c g).bind λq=>(b q.1 q.2).bind λr=>match r.1 with
  |.nx=>forL t b ds r.2.1 r.2.2|.ct=>forL t b ds r.2.1 r.2.2|.bk=>some (.nx,r.2.1,r.2.2)|.rt d=>some (.rt d,r.2.1,r.2.2)
noncomputable def dF (i:FI)(t:FG)(b:FS):FS:=λc g=>(i c g).bind λr=>forL t b r.1 c r.2
noncomputable def k9 (c:FT)(b:FS):Nat->FS
 | 0,_,_=>none
 |n+1,h,g=>(c h g).bind λk=>if k.1=true then(b h k.2).bind λr=>match r.1 with
   |.nx=>k9 c b n r.2.1 r.2.2|.ct=>k9 c b n r.2.1 r.2.2|.bk=>some (.nx,r.2.1,r.2.2)|.rt d=>some (.rt d,r.2.1,r.2.2)
  else some (.nx,h,k.2)
noncomputable def zm (n:Nat)(c:FT)(b:FS):FS:=k9 c b n
inductive NG (X:Cx)(gc:FT)(b:FS)(H:Hp)(ι:Ix)(r:F)(bY:Sg)(g':G)(m:Nat)(σ2:mO)(H2:Hp):Prop
 |mk (ι2:Ix) (rV:Sg) (g2:G) (e2:Ext H ι H2 ι2) (G2:au X.kw H2 ι2 g2) (S2:bC X.kw H2 ι2 rV σ2) (hf:k9 gc b m rV g2=some (r,bY,g')):NG X gc b H ι r bY g' m σ2 H2
def Ga {B:FT}{b:FS}(n:Nat)(I:ZX (model X.prog X.w) X.A X.env X.xe)(E:DT X e B)(C:lY X a b):DS X (.While e a [] j) (zm n B b):=.of (PS.imp (FH I E.un C.un) λDn σ H h=>by
 obtain⟨M,O,g,r,R,u,G0,Z,h,p⟩:=h;refine⟨NG X B b H M r R u,⟨n,M,O,g,Ext.refl,G0,Z,h⟩,?_⟩;rintro m Q H2 ⟨ι2,rV,g2,U,G2,S2,hf⟩;cases m with
 |zero=>cases hf
 |succ m =>
  simp only[k9]at hf;obtain⟨⟨k,g3⟩,h3,hf⟩:=bind_some hf;refine lW.bind G2 S2 h3 λH3 J x y z=>?_;cases k with
  |false =>
   simp only[rk,if_false]at hf ⊢;cases hf;exact p H3 J (U.trans x) y Q z
  |true =>
   simp only[if_true]at hf ⊢;obtain⟨⟨Y,l,c⟩,h4,hf⟩:=bind_some hf;refine⟨NG X B b H M r R u m,λσ5 H5 q=>⟨m,Zv _,q⟩,?_⟩;refine⟨J,rV,g3,Y,l,c,y,z,h4,λs body e7 f=>?_⟩;have i:=U.trans (x.trans e7);cases Y with
   |nx=>exact λo pos=>⟨body,l,c,i,f,pos,hf⟩|ct=>exact λo pos=>⟨body,l,c,i,f,pos,hf⟩|bk=>cases hf;exact λo pos=>p s body i f o pos|rt d=>cases hf;exact λv r7=>p s body i f v r7)
noncomputable abbrev Fn:=List D->G->Option (D×G)
noncomputable def k_ (K:KW)(n:Nat)(fn:Fn):Sp:=λa H Q _=>a.length=n /\ ∃c g ds d h,au K H c g/\ai K H c ds a/\fn ds g=some (d,h)/\fZ K H c d h Q
mutual
noncomputable def bU (n:Nat):D->Bool
 |.ref k=>decide (k<n)|.az k=>decide (k<n)|.tup c=>aC n c|.lst c=>aC n c|.fn _ c=>aC n c|_=>true
noncomputable def aC (n:Nat):List D->Bool
 | []=>true|d::ds=>bU n d&&aC n ds
end
noncomputable def HH (n:Nat)(d:D)(c:G):Option (D×G):=
 if c.length=n then some (d,c)else
  if(c.take n).all (aC n)then
   match d with
   |.ref k=>if k<n then some (d,c.take n)else match c[k]? with
    |some g=>if aC n g then some (.lst g,c.take n)else none|none=>none
   |d=>if bU n d then some (d,c.take n)else none
  else none
noncomputable def ak (a:Bool)(e c:Nat)(b:FS):Fn:=λds g =>
 if ds.length=c then(b (ds.map some++nN (e-c) none) g).bind λr=>match r.1 with
  |.rt d=>if a then some (d,r.2.2)else HH g.length d r.2.2|.nx=>if a then some (.aA,r.2.2)else HH g.length .aA r.2.2|_=>none
 else none
noncomputable def Ix.cut (c:Ix)(n:Nat):Ix:=⟨c.ix.take n,c.hd,c.kd⟩
mutual
theorem Rel.cut {K H ι}(n:Nat):∀(d:D) {v:V},bU n d=true->Rel K H ι d v->Rel K H (Ix.cut ι n) d v
 |.aA,v,_,h=>h|.bl _,v,_,h=>h|.int _,v,_,h=>h|.str _,v,_,h=>h
 |.tup p,v,z,h=>by
  simp only[Rel]at h ⊢;obtain⟨a,i,e,b,f⟩:=h;refine⟨a,i,e,?_,ai.cut n p z f⟩;rcases b with⟨b,hn⟩|b
  . exact .inl ⟨b,λm=>hn (NS m)⟩
  . exact .inr b
 |.lst p,v,z,h=>by
  simp only[Rel]at h ⊢;obtain⟨a,i,e,b,f⟩:=h;refine⟨a,i,e,?_,ai.cut n p z f⟩;rcases b with⟨b,hn,hh⟩|b
  . exact .inl ⟨b,λm=>hn (NS m),hh⟩
  . exact .inr b
 |.dI,v,_,h=>by simp only[Rel]at h ⊢;obtain⟨a,e,b,f⟩:=h;exact⟨a,e,b,λm=>f (NS m)⟩
 |.ref k,v,z,h=>by simp only[Rel]at h ⊢;obtain⟨a,e,b⟩:=h;have j:k<n:=of_decide_eq_true z;exact⟨a,e,by show(ι.ix.take n)[k]? = some a;rw[C8 j];exact b.1,b.2⟩
 |.az k,v,z,h=>by simp only[Rel]at h ⊢;obtain⟨a,e,b⟩:=h;have j:k<n:=of_decide_eq_true z;exact⟨a,e,by show(ι.ix.take n)[k]? = some a;rw[C8 j];exact b.1,b.2⟩
 |.fn x ds,v,z,h=>by simp only[Rel]at h ⊢;obtain⟨a,i,e,b,f⟩:=h;exact⟨a,i,e,b.mono λc u _ q=>⟨q.1,λm=>q.2.1 (NS m),q.2.2⟩,ai.cut n ds z f⟩
theorem ai.cut {K H ι}(n:Nat):∀(ds:List D) {g:List V},aC n ds=true->ai K H ι ds g->ai K H (Ix.cut ι n) ds g
 | [],g,_,h=>h|d::ds,g,z,h=>by simp only[ai]at h ⊢;simp only[aC,mS]at z;obtain⟨v,a,e,b,c⟩:=h;exact⟨v,a,e,Rel.cut n d z.1 b,ai.cut n ds z.2 c⟩
end
theorem au.cut {K H ι g}(n:Nat)(h:au K H ι g)(z:(g.take n).all (aC n)=true):au K H (Ix.cut ι n) (g.take n):=by
 refine⟨h.nd.sublist (afD _ _),by simp[Ix.cut,h.len],λb e=>⟨λm=>(h.cF b e).1 (NS m),(h.cF b e).2⟩,λi u q=>?_,λq d=>⟨(h.tb q d).1,λm=>(h.tb q d).2 (NS m)⟩⟩;have c:i<n:=by have:=(mT.mp q).1;rw[Cu]at this;omega
 rw[C8 c]at q;obtain⟨a,o,l,j,r,p,f⟩:=h.at_ i u q;refine⟨a,o,l,(by show(ι.ix.take n)[i]? = some a;rw[C8 c];exact j),r,p,ai.cut n u ?_ f⟩;exact IU.mp z u (sZ (i:=i) (by rw[C8 c];exact q))
theorem Ext.cut {H ι H' b n}(e:Ext H ι H' b)(c:ι.ix.length=n):Ext H ι H' (Ix.cut b n):=by obtain⟨m,a,f⟩:=e.more;refine⟨e.same,e.there,⟨[],?_,λ_ z=>by simp at z⟩,e.cF,e.lV⟩;subst c;show b.ix.take _=_;rw[a];simp
def Dh {K H ι g H' A g' d C E v}(G0:au K H ι g)(e:Ext H ι H' A)(B:au K H' A g')(r:Rel K H' A d v)(h:HH g.length d g'=some (E,C)):
   ∃I,Ext H ι H' I/\au K H' I C/\Rel K H' I E v:=by
 unfold HH at h;split at h
 . cases h;exact⟨A,e,B,r⟩
 split at h
 . rename_i z
   refine⟨Ix.cut A g.length,e.cut G0.len,?_⟩;have J:=B.cut g.length z;split at h
   . rename_i k
     split at h
     . rename_i l
       cases h;exact⟨J,Rel.cut _ _ (decide_eq_true l) r⟩
     . rename_i l
       split at h
       . rename_i M u
         split at h
         . rename_i c
           cases h;refine⟨J,?_⟩;simp only[Rel]at r ⊢;obtain⟨a,rfl,b⟩:=r;obtain⟨n,q,o⟩:=B.at u b;refine⟨a,n,rfl,.inl ⟨.inl q,λm=>?_,λm=>(B.cF a m).1 (sZ b.1)⟩,ai.cut _ _ c o⟩;obtain⟨j,f,i⟩:=OX.mp (show a∈A.ix.take g.length from m);have x:j<g.length:=by rw[Cu]at f;omega
           have p:j < A.ix.length:=by rw[Cu]at f;omega
           rw[ahp]at i;obtain⟨y,s⟩:=mT.mp b.1;have:j=k:=(afW B.nd).mp (i.trans s.symm);omega
         . cases h
       . cases h
   . split at h
     . rename_i c
       cases h;exact⟨J,Rel.cut _ _ c r⟩
     . cases h
 . cases h
def J9 {K:KW}{k n f fd ps}{fn:Fn}(c:∀ds g,fn ds g=none):d9 q K.w K.fr K.mg I iI k f fd ps (k_ K n fn):=
 ⟨λb H Q E t=>(by obtain⟨_,i,g,ds,d,a,_,_,h,_⟩:=t;rw[c]at h;cases h),λA outer s H args p b Q E _ _ _ _ t=>(by obtain⟨_,i,g,ds,d,a,_,_,h,_⟩:=t;rw[c]at h;cases h)⟩
def Bh {N H ι ds vs}(r:ai N H ι ds vs)(f:ds.length<=K.length):bC N H ι (ds.map some++nN (K.length-ds.length) none) (wm K vs):=by
 have e:=r.length;refine⟨by unfold wm;simp[e],λi d q=>?_⟩;have a:i<ds.length:=by
  by_cases a:i<ds.length
  . exact a
  . rw[Fq (by simpa using a),af8]at q
    split at q<;>cases q
 rw[r_ (by simpa using a),qd]at q;cases hd:ds[i]? with
 |none=>rw[hd]at q;cases q
 |some g =>
  rw[hd]at q;cases q;obtain⟨v,c,b⟩:=r.get hd;refine⟨v,?_,b⟩;unfold wm;rw[r_ (by rw[qV,<- e];exact a),qd,c];rfl
def RH {fd:KW}{B:Str}{ps:List Str}{b:FS}(F:yW fd.fr x B s f h)(S:ke K ps (aX s))(L:ps.length<=K.length)(J:∀(M:Value) (A:qc) (outer:List Env) (P:my) (H:Hp) (E:XK),h.code=M->dA n (A.deeper (Ox B (aX s) P.heap.objs.size f M)) ->
   lY (mR fd.lx iI q fd.w fd.fr fd.mg I K B (aX s) f M A outer P H E).vY (d6 s) b):d9 q fd.w fd.fr fd.mg I iI (n+1) f h ps (k_ fd ps.length (ak Z K.length ps.length b)):=by
 refine F.ok (lx:=fd.lx) S (λu H Q E k=>k.1) (λM A outer P H u Q E Y y k=>?_);obtain⟨hl,ι,g,ds,d,C,G0,r,k,p⟩:=k;refine⟨_,(J M A outer P H E Y y).un,?_⟩;unfold ak at k;have i:ds.length=ps.length:=by rw[r.length];exact hl
 rw[if_pos i]at k;obtain⟨⟨j,R,U⟩,h1,k⟩:=bind_some k;refine⟨ι,_,g,j,R,U,G0,Bh r (by rw[i];exact L),by rw[i];exact h1,λO l N o=>?_⟩;have fin:∀{a v},Rel fd O l a v->(if Z then some (a,U)else HH g.length a U)=some (d,C)->Q v O:=fun {a v} c e=>by
  cases Z with
  |true=>simp only[if_true]at e;cases e;exact p O l v N o c
  |false =>
   simp only[rk,if_false]at e;obtain⟨X,e2,G2,z⟩:=Dh G0 N o c e;exact p O X v e2 G2 z
 cases j with
 |rt a=>exact λv c=>fin c k|nx=>exact λσ' S'=>fin (v:=.aA) (by simp[Rel]) k|bk=>cases k|ct=>cases k
noncomputable def aj (fn:Fn)(fr:FA):FE:=λc g=>(fr c g).bind λr=>fn r.1 r.2
def qD {fr:FA}{fn:Fn}{K}(s:∀ds g u,fn ds g=some u->ds.length=n)(h:tD K (aj fn fr) r H m):vq (k_ K n fn) [] E0 (iL K fr) r H m:=by obtain⟨x,o,g,d,b,G0,c,h,p⟩:=h;obtain⟨⟨ds,v⟩,j,h⟩:=bind_some h;refine iL.bind G0 c j λy e l f i q a=>?_;rw[wz];exact⟨by rw[<- a.length];exact s _ _ _ h,e,v,ds,d,b,i,a,h,p.mono f⟩
def J_ {fr:FA}{fn:Fn}(F:d9 X.prog X.w X.kw X.mg X.base iI p f h K (k_ X.kw n fn))(c:dA p X.A)(a:X.mg x=some (.ref f))(s:Ou X.kw (.ref f)=true)(b:L5 X.kw h K [])(o:∀ds g r,fn ds g=some r->ds.length=n)(l:DA X (e::B) fr)(q:Gl X x)(d:(x == ("__debug__":Str))=false)(pos:ni (e::B) X.env=(false,eval e X.env)::ni B X.env)(i:(v3 A (ni B X.env)).any (·.1)=false):
  DE X (.Call (.Name x j) (e::B) [] A) (aj fn fr):=.of (
 PE.imp (JI F c q a s b .nil A_ l.un d pos i) λv H Q u=>qD o u)
def Gb {fn:Fn}(F:d9 X.prog X.w X.kw X.mg X.base iI p f h K (k_ X.kw n fn))(l:dA p X.A)(i:X.mg x=some (.ref f))(v:Ou X.kw (.ref f)=true)(pos:L5 X.kw h K [])(s:∀ds g r,fn ds g=some r->ds.length=n)(u:Gl X x)(o:(x == ("__debug__":Str))=false):
  DE X (.Call (.Name x j) [] [] A) (aj fn af):=.of (
 PE.imp (FQ F l u i v pos .nil A_ o) λB H Q k=>by have q:=qD s k;obtain⟨y,a,g,d,b,G0,c,k,j⟩:=q;cases k;exact j H y [] Ext.refl G0 (by simp[ai]))
def uI {b:FS}:∀ds g r,ak Z n p b ds g=some r->ds.length=p:=λds g r h=>by
 unfold ak at h;split at h
 . assumption
 . cases h
def Gf {fr:FA}{id:String}{o:Fn}(u:dM X (.builtin id) (lX X.kw o))(s:X.mg x=none)(C:L0 x=some (.builtin id))(pos:DA X (e::B) fr)(I:Gl X x)(E:x ≠ "__name__")(v:(x == ("__debug__":Str))=false)(z:ni (e::B) X.env=(false,eval e X.env)::ni B X.env)(y:(v3 A (ni B X.env)).any (·.1)=false):DE X (.Call (.Name x j) (e::B) [] A) (aj o fr):=.of (
 PE.imp (wc u I s C pos.un E v z y) λM H Q h=>by obtain⟨O,q,g,d,a,G0,c,h,j⟩:=h;obtain⟨⟨ds,J⟩,l,h⟩:=bind_some h;exact iL.bind G0 c l λR f n i p r b=>⟨f,J,ds,d,a,p,b,h,j.mono i⟩)
def Di {fr:FA}{T:String}{o:Fn}(u:dM X (.type T) (lX X.kw o))(s:X.mg x=none)(C:L0 x=some (.type T))(pos:DA X (e::B) fr)(I:Gl X x)(E:x ≠ "__name__")(v:(x == ("__debug__":Str))=false)(z:ni (e::B) X.env=(false,eval e X.env)::ni B X.env)(y:(v3 A (ni B X.env)).any (·.1)=false):DE X (.Call (.Name x j) (e::B) [] A) (aj o fr):=.of (
 PE.imp (CN u I s C pos.un E v z y) λM H Q h=>by obtain⟨O,q,g,d,a,G0,c,h,j⟩:=h;obtain⟨⟨ds,J⟩,l,h⟩:=bind_some h;exact iL.bind G0 c l λR f n i p r b=>⟨f,J,ds,d,a,p,b,h,j.mono i⟩)
noncomputable def lJ (g:Scope)(env:Env):List (Str×Addr):=(g.names.filterMap λx=>if x.2 == .free then(env.cells.lookup x.1).map λc=>(x.1,c)else none).reverse
def vg (h:∀x∈J.names,x.2 = .free->∃c,C.cells.lookup x.1=some c):afN J C=pure (lJ J C):=by
 have i:∀(l:List (Str×Dc)) (g:List (Str×Addr)),(∀x∈l,x.2 = .free->∃c,C.cells.lookup x.1=some c) ->
   (forIn l g λx r=>if(x.2 == zk)=true then(do let c <- cellOf C x.1;pure (TV ((x.1,c)::r)))else pure (TV r):Sem (List (Str×Addr)))=
     pure ((l.filterMap λx=>if x.2 == .free then(C.cells.lookup x.1).map λc=>(x.1,c)else none).reverse++g):=by
  intro l;induction l with
  |nil=>intro g _;rfl
  |cons x r n =>
   intro g b;rw[ad1];by_cases hk:x.2 = .free
   . obtain⟨c,e⟩:=b x sv hk
     have a:(x.2 == zk)=true:=by rw[hk];rfl
     rw[if_pos a];simp only[cellOf,e,pure_bind,H0,a,if_true,E6,List.reverse_cons,Fm,ags];exact n _ λy d=>b y (p8 _ d)
   . have a:(x.2 == zk)=false:=by simpa using hk
     simp only[a,rk,if_false,pure_bind,H0];exact n _ λy d=>b y (p8 _ d)
 have:=i J.names [] h;rw[wz]at this;unfold afN lJ;simp only[bind_pure_comp]at this ⊢;first
  | (simpa using this)
  |exact this
noncomputable def cellsOf (c:Scope)(env:Env)(C:Addr):List (Str×Addr):=wN (C+1) c.names (lJ c env)
def l5 {k:Dc}{r:List (Str×Dc)}:wN n ((x,k)::r) o=if(k == B0)=true then wN (n+1) r ((x,n)::o)else wN n r o:=rfl
theorem lg {x:Str}{c:Addr}:∀{names:List (Str×Dc)} {n:Nat} {g:List (Str×Addr)},(wN n names g).lookup x=some c->((x,B0)∈names/\n<=c)\/(g.lookup x=some c/\(x,B0) ∉ names)
 | [],_,_,h=>.inr ⟨h,by simp⟩
 | (y,k)::r,n,g,h=>by
  rw[l5]at h;split at h
  . rename_i a
    have a:k=B0:=by simpa using a
    subst a;rcases lg h with⟨h1,h2⟩|⟨h1,h2⟩
    . exact .inl ⟨p8 _ h1,by omega⟩
    . by_cases e:x=y
      . subst e
        rw[zr,show(x == x)=true by simp]at h1;cases h1;exact .inl ⟨sv,nc _⟩
      . rw[zr,show(x == y)=false by simpa using e]at h1
        exact .inr ⟨h1,λz=>by rcases nF.mp z with z|z;(cases z;exact e rfl);exact h2 z⟩
  . rename_i a
    rcases lg h with⟨h1,h2⟩|⟨h1,h2⟩
    . exact .inl ⟨p8 _ h1,h2⟩
    . exact .inr ⟨h1,λz=>by rcases nF.mp z with z|z;(cases z;exact a rfl);exact h2 z⟩
theorem rW {x:Str}{c:Addr}:∀{names:List (Str×Dc)} {n:Nat} {g:List (Str×Addr)},(x,B0) ∉ names->g.lookup x=some c->(wN n names g).lookup x=some c
 | [],_,_,_,h=>h
 | (y,k)::r,n,g,i,h=>by
  have b:(x,B0) ∉ r:=λz=>i (p8 _ z);rw[l5];split
  . rename_i a
    have a:k=B0:=by simpa using a
    subst a;refine rW b ?_;have e:x≠y:=λe=>i (by rw[e];exact sv);rw[zr,show(x == y)=false by simpa using e];exact h
  . exact rW b h
theorem wF {x:Str}:∀{names:List (Str×Dc)} {n:Nat} {g:List (Str×Addr)},((x,B0)∈names \/ ∃c,g.lookup x=some c)->∃c,(wN n names g).lookup x=some c
 | [],_,_,h=>by rcases h with h|h;(cases h);exact h
 | (y,k)::r,n,g,h=>by
  rw[l5];split
  . rename_i a
    refine wF ?_;rcases h with h|⟨c,h⟩
    . rcases nF.mp h with z|z
      . cases z;exact .inr ⟨n,by simp⟩
      . exact .inl z
    . right
      rw[zr];split
      . exact⟨_,rfl⟩
      . exact⟨c,h⟩
  . rename_i a
    refine wF ?_;rcases h with h|h
    . rcases nF.mp h with z|z
      . cases z;exact absurd rfl a
      . exact .inl z
    . exact .inr h
theorem wG:∀{names:List (Str×Dc)} {n:Nat} {g:List (Str×Addr)},(∀x c,g.lookup x=some c->c<n)->(∀x y c,g.lookup x=some c->g.lookup y=some c->x=y)->∀x y c,(wN n names g).lookup x=some c->(wN n names g).lookup y=some c->x=y
 | [],_,_,_,i=>i
 | (z,k)::r,n,g,p,i=>by
  intro x y c;rw[l5];split
  . refine wG (λx c h=>?_) (λx y c b a=>?_) x y c
    . rw[zr]at h
      split at h
      . cases h;exact Zv _
      . exact Oy (p x c h)
    . rw[zr]at b a
      split at b
      . rename_i e
        cases b;split at a
        . rename_i d
          rw[eq_of_beq e,eq_of_beq d]
        . exact absurd (p y _ a) (GW _)
      . split at a
        . cases a;exact absurd (p x _ b) (GW _)
        . exact i x y c b a
  . exact wG p i x y c
theorem qE {M:Model}{A:qc}{E:Value->my->Prop}:∀(names:List (Str×Dc)) (g:List (Str×Addr)) (s:my) (Q:List (Str×Addr)->my->Prop),
  (∀x c,g.lookup x=some c->c<s.heap.objs.size) ->
  (∀n,(∀b o,s.heap.get? b=some o->n.get? b=some o)->(∀x c,(wN s.heap.objs.size names g).lookup x=some c->s.heap.objs.size<=c->n.IsCell c none)->Q (wN s.heap.objs.size names g) { s with heap:=n }) ->
  wpAny M A (forIn names g λx r=>if(x.2 == B0)=true then(do let c <- alloc { cls:=wo "cell",data:=Zy none };pure (TV ((x.1,c)::r)))else pure (TV r)) Q E s
 | [],g,s,Q,p,h=>by rw[agw];exact mA (h s.heap (λ_ _ e=>e) λx c f i=>absurd (p x c f) (Nat.not_lt.mpr i))
 | (y,k)::r,g,s,Q,p,h=>by
  rw[ad1];rw[l5]at h;dsimp only;split
  . rename_i d
    rw[if_pos d]at h;refine l8 (l8 (agj (mA ?_)));have sz:(s.heap.push { cls:=wo "cell",data:=Zy none }).objs.size=s.heap.objs.size+1:=M8 ..;refine qE r _ _ Q (λx c e=>?_) λn j a=>?_
    . show c<(s.heap.push _).objs.size
      rw[sz];rw[zr]at e;split at e
      . cases e;exact Zv _
      . exact Oy (p x c e)
    . have a:∀x c,(wN (s.heap.push { cls:=wo "cell",data:=Zy none }).objs.size r ((y,s.heap.objs.size)::g)).lookup x=some c->(s.heap.push { cls:=wo "cell",data:=Zy none }).objs.size<=c->n.IsCell c none:=a
      show Q (wN (s.heap.push { cls:=wo "cell",data:=Zy none }).objs.size r ((y,s.heap.objs.size)::g)) _;rw[sz]at a ⊢;refine h n (λb o e=>j b o (nG _ e)) λx c f i=>?_;rcases Nat.lt_or_eq_of_le i with e3|e3
      . exact a x c f e3
      . subst e3
        exact⟨_,j _ _ (p9 _ rfl),rfl⟩
  . rename_i d
    rw[if_neg d]at h;refine l8 (mA ?_);exact qE r g s Q p h
def yG {s:Model}{Q:Env->my->Prop}(l:∀gl A,o.lookup gl=some A->A<c.heap.objs.size)(h:∀n:Heap,n.Ns c.heap.objs.size (λ_=>none)->(∀b g,c.heap.get? b=some g->n.get? b=some g)->(∀gl A,(wN (c.heap.objs.size+1) J.names o).lookup gl=some A->c.heap.objs.size+1<=A->n.IsCell A none) ->
    Q (newEnv J c.heap.objs.size f (wN (c.heap.objs.size+1) J.names o) x none Ad (some C) afJ) { c with heap:=n }):
   wpAny s M (newFunctionEnv J f o [] x none Ad (some C)) Q E c:=by
 unfold newFunctionEnv;have sz:∀g:Obj,(c.heap.push g).objs.size=c.heap.objs.size+1:=λg=>M8 ..;refine l8 (agj (l8 ?_));refine qE J.names o _ _ (λgl A e=>?_) λd env a=>?_
 . show A<(c.heap.push _).objs.size
   rw[sz];exact Oy (l gl A e)
 . refine l8 ?_
   rw[agw];refine mA (mA ?_);have a:∀gl A,(wN (c.heap.push { cls:=wo (if(some C).isSome=true then "dict" else "frame"),data:=aiq #[] }).objs.size J.names o).lookup gl=some A->(c.heap.push { cls:=wo (if(some C).isSome=true then "dict" else "frame"),data:=aiq #[] }).objs.size<=A->d.IsCell A none:=a;rw[sz]at a;have:=h d ⟨_,_,_,env _ _ (p9 _ rfl),rfl,by intro k i;simp at i,λ_=>rfl⟩ (λb g e=>env b g (nG _ e)) a;show Q (newEnv J c.heap.objs.size f (wN (c.heap.push { cls:=wo (if(some C).isSome=true then "dict" else "frame"),data:=aiq #[] }).objs.size J.names o) x none Ad (some C) afJ) { c with heap:=d };rw[sz];exact this
noncomputable def aN (X:Cx)(N:List Str)(scope:Scope)(C:Addr)(s3:my)(H:Hp)(fp:List Addr)(cv:List (Addr×Obj)):Cx where
 prog:=X.prog
 w:=X.w
 K:=X.kw
 mg:=X.mg
 base:=X.base
 A:=X.A
 N:=N
 s₀:=s3
 H₀:=H
 env:=compEnvC scope (cellsOf scope X.env C) C X.env
 outer:=X.stack
 stack:=X.stack
 ex:=fp
 calm:=X.calm
 fn:=λx=>scope.names.any λy=>y.1 == x&&y.2 == .cell
 pn:=X.pn++cv
 xe:=λ_ _=>False
 lx:=X.lx
structure dB (X:Cx)(N:List Str)(fr:List (Option Nat))(scope:Scope):Prop where
 kind:scope.kind = .function
 cells:∀y∈scope.names,y.2 = .cell->scope.names.lookup y.1=some .cell
 names:∀y∈scope.names,y.2 = .local->scope.names.lookup y.1=some .local
 free:∀y∈scope.names,y.2 = .free->scope.names.lookup y.1=some .free/\(X.env.kindOf y.1=some .cell\/X.env.kindOf y.1=some .free)
 len:fr.length=N.length
 slots:∀(j i:Nat),fr[j]? = some (some i)->∃x,N[j]? = some x/\X.N[i]? = some x/\scope.names.lookup x=some .free
noncomputable def bZ {a:Type}(fr:List (Option Nat))(c:List (Option a)):List (Option a):=fr.map λo=>match o with|some i=>(c[i]?).join|none=>none
def wH:(WJ J C).kind=J.kind:=rfl
def Gg (h:(x,f)∈lJ J C):(x,zk)∈J.names/\C.cells.lookup x=some f:=by
 unfold lJ at h;rw[aeB,Rx]at h;obtain⟨y,b,e⟩:=h;split at e
 . rename_i a
   cases hc:C.cells.lookup y.1 with
   |none=>rw[hc]at e;cases e
   |some c =>
    rw[hc]at e;cases e;have:y.2=zk:=by simpa using a
    exact⟨by rw[<- this];exact b,hc⟩
 . cases e
theorem nO {b:Type}:∀{l:List (Str×b)} {x:Str} {c:b},(x,c)∈l->∃d,l.lookup x=some d
 | [],_,_,h=>nomatch h
 | (y,d)::r,x,c,h=>by
  by_cases e:x=y
  . subst e;exact⟨d,by simp⟩
  . rcases nF.mp h with z|z
    . cases z;exact absurd rfl e
    . obtain⟨a,q⟩:=nO z
      exact⟨a,by rw[zr];simp[show(x == y)=false by simpa using e,q]⟩
def fP (h:(lJ J C).lookup x=some f):(x,zk)∈J.names/\C.cells.lookup x=some f:=Gg (zS h)
def wI (b:(x,zk)∈J.names)(a:C.cells.lookup x=some f):(lJ J C).lookup x=some f:=by
 have m:(x,f)∈lJ J C:=by unfold lJ;rw[aeB,Rx];exact⟨_,b,by simp[a]⟩
 obtain⟨d,q⟩:=nO m;have:=(fP q).2;rw[a]at this;cases this;exact q
def wJ {scope:Scope}{env:Env}(h:(WJ scope env).names.lookup x=some .cell\/(WJ scope env).names.lookup x=some .free):(x,zk)∈scope.names\/(x,B0)∈scope.names:=by
 have m:∃k,(x,k)∈(WJ scope env).names/\(k = .cell\/k = .free):=by
   rcases h with h|h
   . exact⟨_,zS h,.inl rfl⟩
   . exact⟨_,zS h,.inr rfl⟩
 obtain⟨k,m,a⟩:=m;unfold WJ at m;rw[nP]at m;obtain⟨⟨n,b⟩,hm,e⟩:=m;dsimp only at e;split at e
 . rename_i z
   cases e;simp only[mS]at z;have:b=zk:=by simpa using z.1.1
   subst this;exact .inl hm
 . cases e
   rcases a with rfl|rfl
   . exact .inr hm
   . exact .inl hm
theorem i0 {env:Env}:∀{names:List (Str×Dc)} {x:Str},names.lookup x=some .free ->
  (names.map λ(n,k)=>if(k == zk&&env.scope.kind == .function&&env.kindOf n == some .cell)then(n,B0)else(n,k)).lookup x=some .cell \/
  (names.map λ(n,k)=>if(k == zk&&env.scope.kind == .function&&env.kindOf n == some .cell)then(n,B0)else(n,k)).lookup x=some .free
 | [],_,h=>by simp at h
 | (n,k)::r,x,h=>by
  have c:=@i0 env r x;show List.lookup x ((if(k == zk&&env.scope.kind == .function&&env.kindOf n == some .cell)=true then(n,B0)else(n,k))::_)=_\/List.lookup x ((if(k == zk&&env.scope.kind == .function&&env.kindOf n == some .cell)=true then(n,B0)else(n,k))::_)=_;cases hx:x == n with
  |true =>
   simp only[zr,hx]at h;cases h;split
   . left;simp[zr,hx]
   . right;simp[zr,hx]
  |false =>
   simp only[zr,hx]at h;split
   . simp only[zr,hx];exact c h
   . simp only[zr,hx];exact c h
def RJ (I:mn X b r H c):∀x g,(lJ J X.env).lookup x=some g->g<c.heap.objs.size:=λx g e=>by obtain⟨v,o,a,_⟩:=I.cell x g (fP e).2;exact nI a
def Bi {scope:Scope}{tk:Nat}(ok:dB X K u scope)(g:mn X b r H c)(B:∀M∈O,gI X b H M)(C:∀M∈O,M<c.heap.objs.size)(fr:I.Ns c.heap.objs.size λ_=>none)(E:∀M o,c.heap.get? M=some o->I.get? M=some o)(J:∀x A,(cellsOf scope X.env c.heap.objs.size).lookup x=some A->c.heap.objs.size+1<=A->I.IsCell A none):
   mn (aN X K scope c.heap.objs.size c H O b) [] (bZ u r) H { c with heap:=I,toks:=tk }:=by
 have N:mn X b r H { c with heap:=I,toks:=tk }:=g.kept E;have vV:∀M∈kY X.stack,M∈X.env.locals::X.fs:=g.rF;have lc:∀x A,(cellsOf scope X.env c.heap.objs.size).lookup x=some A->(c.heap.objs.size+1<=A/\I.IsCell A none)\/X.env.cells.lookup x=some A:=λx A e=>by
   rcases lg e with⟨_,z⟩|⟨z,_⟩
   . exact .inl ⟨z,J x A e z⟩
   . exact .inr (fP z).2
 have lo:∀x A,X.env.cells.lookup x=some A->A<c.heap.objs.size:=λx A e=>by obtain⟨v,o,eo,_⟩:=g.cell x A e;exact nI eo
 have Z:∀y,(y,zk)∈scope.names->(y,B0) ∉ scope.names:=λy I l=>by have:=(ok.free _ I rfl).1;rw[show scope.names.lookup y=some .cell from ok.cells _ l rfl]at this;cases this
 refine⟨⟨g.ok.mod,?_,g.ok.glob,g.ok.blt,nc _,?_,?_,?_,g.ok.hd,g.ok.frames,.inl rfl,?_,g.bs,rK g.ok.n_ g.sz,?_,?_,g.stack,g.yP⟩,rfl,g.bare,Un.kept E,
   ⟨_,fr,?_⟩,?_,g.aW.fresh (nc _),?_,?_,N.aW,?_⟩
 . show(WJ scope X.env).kind = .function
   rw[wH];exact ok.kind
 . refine wG (λx A e=>Oy (lo x A (fP e).2)) λx y A I l=>?_
   exact g.ok.inj x y A (fP I).2 (fP l).2
 . intro x h
   rcases wJ (scope:=scope) (env:=X.env) h with m|m
   . obtain⟨A,s⟩:=g.ok.has x (ok.free _ m rfl).2
     exact⟨A,rW (Z x m) (wI m s)⟩
   . exact wF (.inl m)
 . intro x A h e
   rcases lg e with⟨_,z⟩|⟨_,z⟩
   . exact aeo z
   . refine absurd ?_ z
     have h:(scope.names.any λy=>y.1 == x&&y.2 == .cell)=true:=h;rw[aeC]at h;obtain⟨⟨y,k⟩,Q,R⟩:=h;simp only[mS]at R;have e3:k=B0:=by simpa using R.2
     rw[<- eq_of_beq R.1,<- e3];exact Q
 . intro M f
   refine⟨ro (C M f),λx A e=>?_⟩;rcases lc x A e with⟨z,_⟩|z
   . exact λq=>absurd (C M f) (Nat.not_lt.mpr (by rw[<- q];exact aeo z))
   . exact(B M f).2.2.2.2.1 x A z
 . intro M o e f
   obtain⟨_,_,_,z,_⟩:=B M f;rcases z with z|z
   . exact g.ok.qy M o e z
   . exact absurd (wi (wi (nI e) g.ok.n_) z) (GW _)
 . intro M f z
   obtain⟨_,n1,n2,_⟩:=B M f;rcases nF.mp (vV M z)with q|q
   . exact n1 q
   . exact n2 q
 . intro j x v I l h3
   have a:(bZ u r)[j]? = some (some v):=l;unfold bZ at a;rw[qd]at a;cases U:u[j]? with
   |none=>rw[U]at a;cases a
   |some o =>
     rw[U]at a;cases o with
     |none=>cases a
     |some i =>
       obtain⟨y,Q,hi,rG⟩:=ok.slots j i U;have e:x=y:=by have zq:K[j]? = some x:=I;rw[Q]at zq;cases zq;rfl
       subst e;have Y:r[i]? = some (some v):=by
         simp only[E6,adD]at a;cases q:r[i]? with
         |none=>rw[q]at a;cases a|some w=>rw[q]at a;simp at a;rw[a]
       have m:=zS rG;obtain⟨_,vt⟩:=ok.free _ m rfl;obtain⟨mm,hn,hl⟩:=N.loc;obtain⟨σ,ru,lk⟩:=hl i x v hi Y (by rcases vt with k|k;exact .inr (.inl k);exact .inr (.inr k));refine⟨σ,ru,.inr ⟨i0 rG,?_⟩⟩;rcases lk with⟨kl,_⟩|⟨_,A,s,gm⟩
       . rcases vt with k|k<;>(rw[k]at kl;cases kl)
       . exact⟨A,rW (Z x m) (wI m s),gm⟩
 . intro x A e
   rcases lc x A e with⟨_,z⟩|z
   . exact⟨_,z⟩
   . exact N.cell x A z
 . intro x A e
   rcases lc x A e with⟨z,_⟩|z
   . exact g.aW.fresh (aeo z)
   . exact g.hJ x A z
 . intro p hp
   have zi:p∈X.pn++b:=by have q:p∈(X.pn++b) ++ []:=hp;simpa using q
   obtain⟨e,n,ne,nf,d⟩:=N.pin p zi;refine⟨e,n,ro ?_,λz=>?_,d⟩
   . exact nI (g.pin p zi).1
   . rcases nF.mp (vV _ z)with q|q
     . exact ne q
     . exact nf q
 . show(bZ u r).length=K.length
   unfold bZ;rw[qV];exact ok.len
noncomputable def cZ (t:FG)(c:FT)(e:FE):List D->Sg->G->Option (List D×G)
 | [],_,g=>some ([],g)|d::ds,h,g=>(t d h g).bind λq=>(c q.1 q.2).bind λk=>if k.1=true then(e q.1 k.2).bind λr=>(cZ t c e ds q.1 r.2).bind λz=>some (r.1::z.1,z.2)else cZ t c e ds q.1 k.2
noncomputable def Wf (X:Cx)(g:List Expr)(t:TT):Prop :=
 ∀(i:List (Addr×Obj)) (s:my) (h:mO) (H:Hp) (Q:Bool->Hp->Prop),mn X i h H s->t h H Q ->
  wpAny (model X.prog X.w) X.A (forIn g true λc r=>if r=true then do let ok <- isTrue c X.env (eval c X.env);pure (TV ok)else pure (TV r)) (TP X i h Q) X.xe s
structure fD (X:Cx)(ifs:List Expr)(f:FT):Prop where of ::
 un:Wf X ifs (lW X.kw f)
noncomputable def cN:FT:=λ_ g=>some (true,g)
def Gh:fD X [] cN:=.of (λn s q H Q I h=>by obtain⟨i,a,g,b,c,G0,d,h,p⟩:=h;cases h;exact wpAny_tests_nil ⟨H,I,p H i Ext.refl G0⟩)
def Gi {f:FT}(h:DT X e f):fD X [e] f:=.of (λc s g H Q I q=>wpAny_tests_one (h.un c s g H Q I q))
def Ext.Ig {y v H' s p x u}(a:Ext y v H' s)(b:Ext H' (Ix.hide s p) x u):Ext y v x ⟨u.ix,s.hd,u.kd⟩/\u=Ix.hide ⟨u.ix,s.hd,u.kd⟩ p:=by
 have f:u.hd=p::s.hd:=b.cF;obtain⟨l,e,g⟩:=a.more;obtain⟨d,r,B⟩:=b.more;refine⟨⟨λc o h n=>b.same c o (a.same c o h n) (a.old h n),λc h=>b.there c (a.there c h),⟨l++d,?_,λc z=>?_⟩,a.cF,λi j=>(b.lV i (show i < s.ix.length by rw[e,nv];omega)).trans (a.lV i j)⟩,?_⟩
 . show u.ix=_
   rw[r];show s.ix++d=_;rw[e,Fm]
 . rcases nQ.mp z with z|z
   . exact g c z
   . cases q:y c with
     |none=>rfl|some o=>exact absurd (B c z) (a.there c (by rw[q];simp))
 . cases u with
   |mk ix hd kd=>dsimp only at f;rw[f];rfl
def Ext.Ih {d b H' ιo p o}(a:Ext d b H' ιo)(f:d p=none):Ext d b (upd H' p o) ιo :=
 ⟨λc u h n=>by rw[aD (aM h f)];exact a.same c u h n,λc h=>by
  by_cases e:c=p
  . subst e;rw[aR];simp
  . rw[aD e];exact a.there c h,a.more,a.cF,a.lV⟩
def Ext.Wh {e d H' c p}(a:Ext e d H' c)(f:e p=none):iZ e d H' (Ix.hide c p):=
 ⟨a.same,a.there,a.more,⟨[p],by show p::c.hd=_;rw[a.cF];rfl,λb z=>by simp at z;subst z;exact f⟩,a.lV⟩
noncomputable abbrev Sh:=G->Option (List D)
noncomputable abbrev nR:=Sg->G->Option (Sh×Nat×G)
noncomputable def rX (K:KW)(J:It)(H:Hp)(q:Ix)(r:Sh)(L:Nat):Prop :=
 ∀(i:Nat) g c n,iZ H q g c->au K g c n->∀p,r n=some p->p.length=L->(L<=i->J.stop i g) /\ ∀d,p[i]? = some d->J.go i g /\ ∀x h,J.yR i g x h->Ext g c h c/\au K h c n/\Rel K h c d x
inductive NH (K:KW)(f:nR)(σ:mO)(H:Hp)(R:(It->Hp->Prop)):Prop
 |mk (ι:Ix) (σd:Sg) (g:G) (sh:Sh) (L:Nat) (g':G) (h0:au K H ι g) (h1:bC K H ι σd σ) (h2:f σd g=some (sh,L,g')) (h3:∀H' ι' J,Ext H ι H' ι'->au K H' ι' g'->rX K J H' ι' sh L->R J H'):NH K f σ H R
structure qm (X:Cx)(tg iter:Expr)(f:nR):Prop where of ::
 un:PI X tg iter (NH X.kw f)
noncomputable def c9 (h:Sh)(L:Nat)(t:FG)(c:FT)(e:FE):Nat->Sg->G->Option (List D×G)
 | 0,_,g=>(h g).bind λi=>if i.length=L then some ([],g)else none|r+1,n,g=>(h g).bind λi=>if i.length=L then(i[L-(r+1)]?).bind λd=>(t d n g).bind λq=>(c q.1 q.2).bind λk=>if k.1=true then(e q.1 k.2).bind λa=>(c9 h L t c e r q.1 a.2).bind λz=>some (a.1::z.1,z.2)else c9 h L t c e r q.1 k.2 else none
def Bj {p:Sh}{t:FG}{c:FT}{e:FE}{r:Sg}{g q:G}{all:List D}(h:c9 p n t c e 0 r g=some (all,q)):∃i,p g=some i/\i.length=n/\all = []/\q=g:=by
 simp only[c9]at h;obtain⟨i,a,h⟩:=bind_some h;split at h
 . rename_i z
   cases h;exact⟨i,a,z,rfl,rfl⟩
 . cases h
def Bk {r:Sh}{t:FG}{c:FT}{e:FE}{u:Sg}{g:G}{o:List D×G}(h:c9 r n t c e (p+1) u g=some o):∃i d,r g=some i/\i.length=n/\i[n-(p+1)]? = some d/\((t d u g).bind λq=>(c q.1 q.2).bind λk=>if k.1=true then(e q.1 k.2).bind λv=>(c9 r n t c e p q.1 v.2).bind λz=>some (v.1::z.1,z.2)else c9 r n t c e p q.1 k.2)=some o:=by
 simp only[c9]at h;obtain⟨i,a,h⟩:=bind_some h;split at h
 . rename_i z
   obtain⟨d,hd,h⟩:=bind_some h;exact⟨i,d,a,z,hd,h⟩
 . cases h
inductive CompI (X':Cx)(t:FG)(c:FT)(e:FE)(fp:List Addr)(Dl:Addr)(tn:Nat->Heap->Prop)(sh:Sh)(L:Nat)(all:List D)(H1:Hp)(ι1:Ix)(g':G)(n:Nat)(s:my):Prop
 |mk (i:Nat) (σ:mO) (H:Hp) (ιo:Ix) (σd:Sg) (g:G) (vs:List V) (acc more:List D) (hn:n=L+1-i) (eJ:i<=L) (I:mn X' [] σ H s) (ti:tn i s.heap) (Ii:∀b∈fp,H b=none) (E1:Ext H1 ι1 H ιo) (G1:au X'.kw H (Ix.hide ιo Dl) g) (S1:bC X'.kw H (Ix.hide ιo Dl) σd σ)
  (Ij:H Dl=some (.lst vs)) (wK:ai X'.kw H (Ix.hide ιo Dl) acc vs) (Dj:acc.length<=i) (hf:c9 sh L t c e (L-i) σd g=some (more,g')) (ea:all=acc++more):CompI X' t c e fp Dl tn sh L all H1 ι1 g' n s
def Dk {X':Cx}{t:FG}{c:FT}{elt:FE}{fp:It}{L:Addr}{N:Nat->Heap->Prop}{all:List D}{sh:Sh}{C:Ix}{g':G}{R:Result->my->Prop}(Z:X'.xe=λ_ _=>False)(P:X'.calm=true)(T:Turn X'.prog X'.w X'.kw e fp O f N)(scope:∀b∈O,gI X' [] X'.H₀ b)(U:rX X'.kw fp H C sh n)(hD:H L=none)(hz:n<=m6)(W:DG X' e t)(hi:fD X' B c)(S:DE X' Y elt)(fin:∀s' σ' H' ιo vs,mn X' [] σ' H' s'->(∀b∈O,H' b=none)->Ext H C H' ιo->au X'.kw H' (Ix.hide ιo L) g'->H' L=some (.lst vs)->ai X'.kw H' (Ix.hide ιo L) all vs->R (.ok .next) s'):
   ∀(s:my) (σ:mO) (K:Hp) (ιo:Ix) (σd:Sg) (g:G),mn X' [] σ K s->N 0 s.heap->(∀b∈O,K b=none)->Ext H C K ιo->au X'.kw K (Ix.hide ιo L) g->bC X'.kw K (Ix.hide ιo L) σd σ->K L=some (.lst [])->c9 sh n t c elt n σd g=some (all,g') ->
    PL (model X'.prog X'.w) X'.A (.compLoop (.ListComp Y [⟨e,y,B,0⟩] J j) 0 (.ref f) (.ref L) X'.env) R s:=by
 intro s σ K ιo σd g I t0 TX E0 G0 S0 hH ox;have qA:∀{H':Hp},(∀b∈O,H' b=none)->∀b∈O,gI X' [] H' b:=λhn b hb=>⟨hn b hb,(scope b hb).2⟩
 refine codeAny_loop rfl (CompI X' t c elt O L N sh n all H C g') ?_ (n+1)
   ⟨0,σ,K,ιo,σd,g,[],[],all,rfl,tc _,I,t0,TX,E0,G0,S0,hH,by simp[ai],nc _,by simpa using ox,rfl⟩
 clear ox hH S0 G0 E0 TX t0 I g σd ιo K σ s;rintro ifs s ⟨i,σ,K,ιo,σd,g,vs,acc,more,rfl,eJ,I,ti,Ii,E1,G1,S1,Ij,wK,Dj,hf,rfl⟩;show wpAny _ X'.A ((compTurn (.ListComp Y [⟨e,y,B,0⟩] J j) 0 (.ref f) (.ref L) X'.env).onRaise (λx=>do noteFrame x X'.env;theTreesLotGoes x)) _ _ s;refine wpAny_noted ?_;rw[compTurn_list];refine l8 (Y4 (l8 ?_));have j1:=U i K (Ix.hide ιo L) g (E1.Wh hD) G1;by_cases bK:i<n
 . rw[show n-i=(n-(i+1))+1 by omega]at hf
   obtain⟨xs,d0,qo,NI,Dp,hf⟩:=Bk hf;rw[show n-(n-(i+1)+1)=i by omega]at Dp;obtain⟨st,go⟩:=j1 xs qo NI;obtain⟨go,yl⟩:=go d0 Dp;refine aV (T.item X' rfl rfl rfl P i [] s σ K _ I (qA Ii) ti go) λr s4 aO=>?_;obtain⟨u,hr,h4⟩:=aO;subst hr;refine l8 (aV h4 λ_ s5 aO=>?_);obtain⟨x,H5,I5,r5,y5,t5,CD⟩:=aO;obtain⟨e5,G5,Zi⟩:=yl x H5 y5;obtain⟨⟨σ6,g6⟩,h6,hf⟩:=bind_some hf;obtain⟨⟨k7,g7⟩,h7,hf⟩:=bind_some hf;have ab:=I5.pinned (qA CD) (T.obj _ _ t5);have lift:∀{α:Type} {tr:Sem α} {Q:α->my->Prop} {E:Value->my->Prop} {s:my},wpAny (model X'.prog X'.w) X'.A tr Q X'.xe s->wpAny (model X'.prog X'.w) X'.A tr Q E s:=λh=>Zc h (λ_ _ q=>q) λ_ _ z=>by rw[Z]at z;exact z.elim
   have again:∀{s9:my} {σ9:mO} {M:Hp} {ι9:Ix} {Ik:Sg} {g9:G} {Il:List V} {acc9:List D} {pB:List D},mn X' ([]++oh O s5.heap) σ9 M s9->Ext H C M ι9->au X'.kw M (Ix.hide ι9 L) g9->bC X'.kw M (Ix.hide ι9 L) Ik σ9 ->
     M L=some (.lst Il)->ai X'.kw M (Ix.hide ι9 L) acc9 Il->acc9.length<=i+1->c9 sh n t c elt (n-(i+1)) Ik g9=some (pB,g')->acc++more=acc9++pB ->
     ∃m,m<n+1-i/\CompI X' t c elt O L N sh n (acc++more) H C g' m s9:=by
    intro s9 σ9 M ι9 Ik g9 Il acc9 pB I9 E9 G9 S9 h9 r9 l9 f9 a9;refine⟨n+1-(i+1),by omega,i+1,σ9,M,ι9,Ik,g9,Il,acc9,pB,rfl,bK,I9.mQ,T.keep _ _ _ t5 λb hb o elt=>(I9.pin (b,o) (N_ _ (N_ _ (jZ hb elt)))).1,λb hb=>?_,E9,G9,S9,h9,r9,l9,f9,a9⟩;obtain⟨o,elt,d⟩:=T.obj _ _ t5 b hb;exact(I9.pin (b,o) (N_ _ (N_ _ (jZ hb elt)))).2.1
   refine l8 (lift (aV (W.un _ s5 σ H5 x u (λσ' H'=>∃l,Ext H5 (Ix.hide ιo L) H' l/\au X'.kw H' l g6/\bC X'.kw H' l σ6 σ') ab r5 ⟨Ix.hide ιo L,σd,g,d0,σ6,g6,G5,S1.ext e5,Zi,h6,λH6 l Im e6 G6 S6=>⟨l,e6,G6,S6⟩⟩) λ_ s6 q6=>?_));obtain⟨Im,H6,I6,l,e6,G6,S6⟩:=q6;refine l8 (lift (aV (hi.un _ s6 Im H6 (λb H'=>b=k7 /\ ∃p,Ext H6 l H' p/\au X'.kw H' p g7) I6 ⟨l,σ6,g6,k7,g7,G6,S6,h7,λH7 p e7 G7=>⟨rfl,p,e7,G7⟩⟩) λok s7 q7=>?_));obtain⟨H7,I7,rfl,p,e7,G7⟩:=q7;have Io:=(e5.trans e6).trans e7;obtain⟨E7,Zj⟩:=E1.Ig Io;have Zk:H7 L=some (.lst vs):=Io.same L _ Ij (G1.cF L sv).1;have r7:=ai.ext Io _ wK;have S7:=S6.ext e7;cases ok with
   |false =>
    simp only[rk,if_false]at hf;refine mA ⟨rfl,?_⟩;rw[Zj]at G7 S7 r7;exact again I7 E7 G7 S7 Zk r7 (by omega) hf rfl
   |true =>
    simp only[if_true]at hf;obtain⟨⟨d8,g8⟩,h8,hf⟩:=bind_some hf;obtain⟨⟨pB,g9⟩,h9,hf⟩:=bind_some hf;obtain⟨rfl,rfl⟩:d8::pB=more/\g9=g':=by cases hf;exact⟨rfl,rfl⟩
    refine l8 (l8 (lift (aV (S.un _ s7 Im H7 (λv H'=>∃ι8,Ext H7 p H' ι8/\au X'.kw H' ι8 g8/\Rel X'.kw H' ι8 d8 v) I7 ⟨p,σ6,g7,d8,g8,G7,S7,h8,λH8 ι8 v e8 G8 r8=>⟨ι8,e8,G8,r8⟩⟩) λiter s8 q8=>?_)));obtain⟨v8,H8,I8,Zl,ι8,e8,G8,r8⟩:=q8;have NJ:=Io.trans e8;obtain⟨E8,Zm⟩:=E1.Ig NJ;have Dq:H8 L=some (.lst vs):=NJ.same L _ Ij (G1.cF L sv).1;have Ip:=ai.ext NJ _ wK;have S8:=S7.ext e8;have hlen:vs.length<m6:=by rw[<- wK.length];omega
    rw[Zm]at G8 S8 Ip r8;refine l8 (lift (aV (uB (X:=X') _ s8 Im H8 (.ref L) [v8] (.ref L) [iter] (λ_ H'=>H'=upd H8 L (.lst (vs ++ [v8]))) I8 rfl (.cons Zl .nil) ⟨L,vs,v8,rfl,rfl,Dq,hlen,rfl⟩) λ_ s9 q9=>?_));obtain⟨_,M,I9,_,rfl⟩:=q9;refine mA (mA ⟨rfl,?_⟩);refine again (acc9:=acc ++ [d8]) I9 (E8.Ih hD) (G8.grow Dq) ⟨S8.1,λtg d q=>let⟨v,a,b⟩:=S8.2 tg d q;⟨v,a,Rel.grow Dq d b⟩⟩ aR ?_ (by simp;omega) h9 (by simp);exact ai.append (ai.grow Dq _ Ip) (by simp only[ai];exact⟨v8,[],rfl,Rel.grow Dq _ r8,rfl⟩)
 . have ei:i=n:=by omega
   subst ei;rw[UH]at hf;obtain⟨xs,qo,NI,rfl,rfl⟩:=Bj hf;obtain⟨st,go⟩:=j1 xs qo NI;refine aV (T.done X' rfl rfl rfl P _ [] s σ K _ I (qA Ii) ti (st (nc _))) λr s4 aO=>?_;obtain⟨hr,I4⟩:=aO;subst hr;exact mA (fin s4 σ K ιo vs I4 Ii E1 G1 Ij (by simpa using wK))
noncomputable def bH (mk:List D->G->Option (D×G))(a:FI)(fr:List (Option Nat))(t:FG)(c:FT)(e:FE):FE:=λh g=>(a h g).bind λr=>if ax r.1.length=true then(cZ t c e r.1 (bZ fr h) r.2).bind λq=>mk q.1 q.2 else none
noncomputable def iO (mk:List D->G->Option (D×G))(a:nR)(fr:List (Option Nat))(t:FG)(c:FT)(e:FE):FE:=λh g=>(a h g).bind λr=>if ax r.2.1=true then(c9 r.1 r.2.1 t c e r.2.1 (bZ fr h) r.2.2).bind λq=>mk q.1 q.2 else none
noncomputable def bA (ds:List D)(g:G):Option (D×G):=some (.lst ds,g)
noncomputable def gJ (ds:List D)(g:G):Option (D×G):=some (.ref g.length,g ++ [ds])
def bC.sub {K H ι e σ}(fr:List (Option Nat))(h:bC K H ι e σ):bC K H ι (bZ fr e) (bZ fr σ):=by
 refine⟨by simp[bZ],λj d q=>?_⟩;unfold bZ at q ⊢;rw[qd]at q ⊢;cases hf:fr[j]? with
 |none=>rw[hf]at q;cases q
 |some o =>
  rw[hf]at q;cases o with
  |none=>cases q
  |some i =>
   have b:e[i]? = some (some d):=by
    simp only[E6,adD]at q;cases z:e[i]? with
    |none=>rw[z]at q;cases q|some w=>rw[z]at q;simp at q;rw[q]
   obtain⟨v,c,a⟩:=h.2 i d b;exact⟨v,by simp[c],a⟩
def oy {fi:nR}{t:FG}{elt:FT}{Z:FE}{cv:List (Addr×Obj)}{ι:Ix}{cO:Sg}{g g1 g':G}{all:List D}{sh:Sh}(U:X.xe=λ_ _=>False)(P:X.calm=true)(ok:dB X K u J)(E:qm X e y fi)(R:∀C s3 H fp cv,DG (aN X K J C s3 H fp cv) e t/\fD (aN X K J C s3 H fp cv) B elt/\DE (aN X K J C s3 H fp cv) Y Z)(M:∀x,zg y X.env x=pure x)(I:mn X cv r H c)(G0:au X.kw H ι g)(tg:bC X.kw H ι cO r)(S:fi cO g=some (sh,n,g1))(hz:ax n=true)(O:c9 sh n t elt Z n (bZ u cO) g1=some (all,g'))(fin:∀s' H' ιo vs Dl C,mn X cv r H' s'->gI X cv H' C->(∃m,s'.heap.Ns C m)->Ext H ι H' ιo->au X.kw H' (Ix.hide ιo Dl) g'->H' Dl=some (.lst vs)->ai X.kw H' (Ix.hide ιo Dl) all vs->Dl ∉ ιo.hd->H Dl=none->compPost (model X.prog X.w) X.A X.xe use Q (.ref Dl) C (.ok .next) s'):
  wpAny (model X.prog X.w) X.A (comprehension (.ListComp Y [⟨e,y,B,0⟩] J j) J X.env A (newList []) false (eval y X.env) use) Q X.xe c:=by
 have free:∀x∈J.names,x.2 = .free->∃elt,X.env.cells.lookup x.1=some elt:=λx hx hk=>I.ok.has x.1 (ok.free x hx hk).2;refine wpAny_comprehension_free (use:=use) rfl M (vg free) ok.kind ok.names (aV (E.un cv c r H (λscope H'=>∃h,Ext H ι H' h/\au X.kw H' h g1/\rX X.kw scope H' h sh n) I ⟨ι,cO,g,sh,n,g1,G0,tg,S,λH1 h scope L G1 J1=>⟨h,L,G1,J1⟩⟩) λxv s1 zq=>aV zq λMw s2 q2=>?_);obtain⟨it,fp,tn,scope,H1,rfl,I1,T,t1,f1,h,L,G1,J1⟩:=q2;refine z5 ?_;have ifs:H1 s2.heap.objs.size=none:=I1.aW.fresh (nc _);generalize NK:({ s2 with heap:=s2.heap.push { cls:=.type "list",dict:=none,data:=.seq ([]:List Value).toArray } }:my)=s3;have σ:mn X cv r (upd H1 s2.heap.objs.size (.lst [])) s3:=by rw[<- NK];exact I1.laid (t':=s2.toks) (λb pos Z=>nG _ Z) (nc _) ⟨tc _,[],0,.nil,p9 _ rfl⟩
 have k3:∀b o,s2.heap.get? b=some o->s3.heap.get? b=some o:=λb o Z=>by rw[<- NK];exact nG _ Z
 have TY:s3.heap.objs.size=s2.heap.objs.size+1:=by rw[<- NK];exact M8 ..
 have uG:∀b∈fp,b<s2.heap.objs.size:=λb f=>let⟨o,eo,_⟩:=T.obj _ _ t1 b f;nI eo;have i:∀b∈fp,gI X cv (upd H1 s2.heap.objs.size (.lst [])) b:=λb f=>⟨by rw[aD (ro (uG b f))];exact(f1 b f).1,(f1 b f).2⟩
 refine yG (RJ σ) λh4 Wi k4 kc=>?_;have I4:=Bi (tk:=s3.toks) ok σ i (λb f=>by rw[TY];exact Oy (uG b f)) Wi k4 kc;obtain⟨hg,hi,he⟩:=R s3.heap.objs.size s3 (upd H1 s2.heap.objs.size (.lst [])) fp cv;have t4:tn 0 h4:=T.keep _ _ _ t1 λb f o Z=>k4 b o (k3 b o Z);have fx:∀b∈fp,gI (aN X K J s3.heap.objs.size s3 (upd H1 s2.heap.objs.size (.lst [])) fp cv) [] (upd H1 s2.heap.objs.size (.lst [])) b:=λb f=>by
  refine⟨(i b f).1,?_,?_,.inl f,?_,?_⟩
  . exact ro (by rw[TY];exact Oy (uG b f))
  . exact I4.ok.vW b f
  . exact(I4.ok.L7 b f).2
  . intro p hp
    have zi:p∈X.pn++cv:=by have q:p∈(X.pn++cv) ++ []:=hp;simpa using q
    exact(f1 b f).2.2.2.2.2 p zi
 have loop:PL (model X.prog X.w) X.A (.compLoop (.ListComp Y [⟨e,y,B,0⟩] J j) 0 (.ref it) (.ref s2.heap.objs.size) (compEnvC J (cellsOf J X.env s3.heap.objs.size) s3.heap.objs.size X.env))
    (compPost (model X.prog X.w) X.A X.xe use Q (.ref s2.heap.objs.size) s3.heap.objs.size) { s3 with heap:=h4 }:=by
  refine Dk (X':=aN X K J s3.heap.objs.size s3 (upd H1 s2.heap.objs.size (.lst [])) fp cv) (all:=all) (g':=g') rfl P T fx J1 ifs (ax.le hz) hg hi he ?_ _ _ _ h (bZ u cO) g1 I4 t4 (λb f=>(i b f).1) ((Ext.refl (H:=H1) (ι:=h)).Ih ifs) (G1.hide ifs) ?_ aR O
  . intro s' σ' H' ιo vs l Dr E' G' Zn r'
    have I5:mn X cv r H' s':=σ.Q6 (ch:=fp) l.os l.base l.aW l.bare λb f=>⟨(i b f).2.2.2.1,(i b f).2.1,(i b f).2.2.2.2.1,(i b f).2.2.2.2.2⟩
    obtain⟨m,hm,_⟩:=l.loc;refine fin s' H' ιo vs _ _ I5 ?_ ⟨m,hm⟩ (L.trans E') G' Zn r' ?_ ?_
    . have z:=σ.tf (H':=H') (b:=s3.heap.objs.size) (nc _) l.free
      exact z
    . rw[E'.cF];exact G1.iK ifs
    . cases q:H s2.heap.objs.size with
      |none=>rfl|some o=>exact absurd ifs (L.there _ (by rw[q];simp))
  . have S1:bC X.kw H1 h (bZ u cO) (bZ u r):=(tg.ext L).sub u
    exact⟨S1.1,λs d q=>let⟨v,a,b⟩:=S1.2 s d q;⟨v,a,Rel.hide ifs d b⟩⟩
 exact codeAny_compStart_list loop (T.self _ 0 _ _ _ t4 loop)
def qF {H ι H' a K g' all vs b d f Q}(e:Ext H ι H' a)(h:au K H' (Ix.hide a b) g')(hD:H' b=some (.lst vs))(r:ai K H' (Ix.hide a b) all vs)(j:b ∉ a.hd)(i:bA all g'=some (d,f))(p:fZ K H ι d f Q):Q (.ref b) H':=by cases i;refine p H' a _ e h.show ?_;simp only[Rel];exact⟨b,vs,rfl,.inl ⟨.inl hD,(h.cF b sv).1,j⟩,ai.show _ r⟩
def au.NL {K H ι g p J C}(h:au K H (Ix.hide ι p) g)(A:H p=some (.lst C))(B:p ∉ ι.hd)(r:ai K H (Ix.hide ι p) J C):au K H (ι.more p 0) (g ++ [J]):=by
 have Z:p ∉ ι.ix:=(h.cF p sv).1;have Q:∀{n:Nat} {a:Addr} {b:Bool},dU (Ix.hide ι p) n a b->dU (ι.more p 0) n a b:=fun {n a b} f=>by
   have M:n < ι.ix.length:=(mT.mp f.1).1;refine⟨?_,?_⟩
   . show(ι.ix ++ [p])[n]? = some a
     rw[r_ M];exact f.1
   . show kb (if n=ι.ix.length then 0 else ι.kd n)=b
     rw[if_neg (by omega)];exact f.2
 have up:∀(d:D) (v:V),Rel K H (Ix.hide ι p) d v->Rel K H (ι.more p 0) d v:=λd=>by
   refine D.rec (motive_1:=λd=>∀v,Rel K H (Ix.hide ι p) d v->Rel K H (ι.more p 0) d v) (motive_2:=λds=>∀C,ai K H (Ix.hide ι p) ds C->ai K H (ι.more p 0) ds C)
     ?_ ?_ ?_ ?_ ?_ ?_ ?_ ?_ ?_ ?_ ?_ ?_ d
   . intro v h;simpa[Rel]using h
   . intro b v h;simpa[Rel]using h
   . intro b v h;simpa[Rel]using h
   . intro b v h;simpa[Rel]using h
   . intro J I v h
     simp only[Rel]at h ⊢;obtain⟨a,E,j,f,s⟩:=h;refine⟨a,E,j,?_,I _ s⟩;rcases f with⟨f,n⟩|f
     . refine .inl ⟨f,λz=>?_⟩
       rcases nQ.mp z with z|z
       . exact n z
       . simp at z;subst z
         rcases f with f|⟨o,f⟩<;>(rw[A]at f;cases f)
     . exact .inr f
   . intro J I v h
     simp only[Rel]at h ⊢;obtain⟨a,E,j,f,s⟩:=h;refine⟨a,E,j,?_,I _ s⟩;rcases f with⟨f,n,k⟩|f
     . refine .inl ⟨f,λz=>?_,λz=>k (p8 _ z)⟩
       rcases nQ.mp z with z|z
       . exact n z
       . simp at z;subst z;exact k sv
     . exact .inr f
   . intro v h
     simp only[Rel]at h ⊢;obtain⟨a,j,f,s⟩:=h;refine⟨a,j,f,λz=>?_⟩;rcases nQ.mp z with z|z
     . exact s z
     . simp at z;subst z;rw[A]at f;cases f
   . intro n v h
     simp only[Rel]at h ⊢;obtain⟨a,j,f⟩:=h;exact⟨a,j,Q f⟩
   . intro n v h
     simp only[Rel]at h ⊢;obtain⟨a,j,f⟩:=h;exact⟨a,j,Q f⟩
   . intro x ds I v h
     simp only[Rel]at h ⊢;obtain⟨a,E,j,f,s⟩:=h;refine⟨a,E,j,f.mono λc u z q=>⟨q.1,λm=>?_,λy m=>q.2.2 y (p8 _ m)⟩,I _ s⟩;rcases nQ.mp m with m|m
     . exact q.2.1 m
     . simp at m;have y:=q.1;rw[m,A]at y;rw[<- DM y]at z;cases z
   . intro C h;simpa[ai]using h
   . intro d ds Nf C5 C h
     simp only[ai]at h ⊢;obtain⟨v,O,j,f,s⟩:=h;exact⟨v,O,j,Nf v f,C5 O s⟩
 have R:∀(ds:List D) (C:List V),ai K H (Ix.hide ι p) ds C->ai K H (ι.more p 0) ds C:=λds=>by
   induction ds with
   |nil=>intro C h;simpa[ai]using h
   |cons d ds I =>
     intro C h;simp only[ai]at h ⊢;obtain⟨v,O,j,f,s⟩:=h;exact⟨v,O,j,up d v f,I O s⟩
 refine⟨?_,by simp[<- h.len,Ix.hide,Ix.more],λb hb=>⟨λz=>?_,(h.cF b (p8 _ hb)).2⟩,λi U q=>?_,λq f=>⟨(h.tb q f).1,λm=>?_⟩⟩
 . show(ι.ix ++ [p]).Nodup
   rw[TJ];refine⟨h.nd,by simp,λa ha b hb=>?_⟩;simp at hb;subst hb;intro e;subst e;exact Z ha
 . rcases nQ.mp z with z|z
   . exact(h.cF b (p8 _ hb)).1 z
   . simp at z;subst z;exact B hb
 . have M:ι.ix.length=g.length:=h.len
   by_cases X:i<g.length
   . rw[r_ X]at q
     obtain⟨a,o,E,h1,h2,ov,h3⟩:=h.at_ i U q;refine⟨a,o,E,(by show(ι.ix ++ [p])[i]? = some a;rw[r_ (by rw[M];exact X)];exact h1),h2,?_,R _ _ h3⟩;show OV K _ _ (if i=ι.ix.length then 0 else ι.kd i) o E;rw[if_neg (by omega)];exact ov
   . rw[Fq (by omega)]at q
     have Y:i-g.length=0:=by
       cases e:i-g.length with
       |zero=>rfl|succ k=>rw[e]at q;simp at q
     rw[Y]at q;have e:J=U:=by simpa using q
     subst e;refine⟨p,_,C,?_,A,?_,R _ _ r⟩
     . show(ι.ix ++ [p])[i]? = some p
       rw[Fq (by rw[M];omega),M,Y];rfl
     . show OV K _ _ (if i=ι.ix.length then 0 else ι.kd i) _ C
       rw[if_pos (by omega)];exact .l C
 . rcases nQ.mp m with m|m
   . exact(h.tb q f).2 m
   . simp at m;have z:=(h.tb q f).1;rw[m,A]at z;cases z
def qG {H ι H' f K g' all vs h d j Q}(e:Ext H ι H' f)(q:H h=none)(l:au K H' (Ix.hide f h) g')(hD:H' h=some (.lst vs))(r:ai K H' (Ix.hide f h) all vs)(o:h ∉ f.hd)(n:gJ all g'=some (d,j))(p:fZ K H ι d j Q):Q (.ref h) H':=by
 cases n;obtain⟨m,g,c⟩:=e.more;refine p H' (f.more h 0) _ ⟨e.same,e.there,⟨m ++ [h],by show f.ix ++ [h]=_;rw[g,Fm],λa z=>?_⟩,e.cF,λi b=>?_⟩ (l.NL hD o r) ?_
 . rcases nQ.mp z with z|z
   . exact c a z
   . simp at z;subst z;exact q
 . show(if i=f.ix.length then 0 else f.kd i)=ι.kd i
   rw[if_neg (by rw[g,nv];omega)];exact e.lV i b
 . simp only[Rel]
   exact⟨h,rfl,dU.new l.len⟩
def qH {fi:nR}{t:FG}{c:FT}{M:FE}(E:X.xe=λ_ _=>False)(Z:X.calm=true)(ok:dB X K u J)(A:qm X e y fi)(O:∀C s3 H fp U,DG (aN X K J C s3 H fp U) e t/\fD (aN X K J C s3 H fp U) B c/\DE (aN X K J C s3 H fp U) Y M)(N:∀x,zg y X.env x=pure x):DE X (.ListComp Y [⟨e,y,B,0⟩] J j) (iO bA fi u t c M):=.of (by
 intro U s σ H Q I h;obtain⟨ι,σd,g,d,gg,G0,pos,h,p⟩:=h;obtain⟨⟨sh,L,g1⟩,z,h⟩:=bind_some h;dsimp only at h;split at h
 . rename_i hz
   obtain⟨⟨all,g'⟩,v,h⟩:=bind_some h;rw[eval_ListComp];refine oy (use:=none) E Z ok A O N I G0 pos z hz v λa l ιo vs f C i fC Ds n G' hD r q ox=>?_;obtain⟨m,hm⟩:=Ds;refine⟨m,hm,λIq R=>⟨.ref f,l,?_,rfl,qF n G' hD r q h p⟩⟩;obtain⟨f0,f1,f2,f3,f4,tg⟩:=fC;exact i.turned (t':=a.toks) (λb o hb M=>R.extBut b o hb M) f0 f1 f3 f4 tg
 . cases h)
def iP {fi:nR}{E:FG}{c:FT}{Z:FE}{mk:List D->G->Option (D×G)}(T:∀{H ι H' ιo g' all vs Dl d gg Q},Ext H ι H' ιo->H Dl=none->au X.kw H' (Ix.hide ιo Dl) g'->H' Dl=some (.lst vs)->ai X.kw H' (Ix.hide ιo Dl) all vs->Dl ∉ ιo.hd->mk all g'=some (d,gg)->fZ X.kw H ι d gg Q->Q (.ref Dl) H')(tg:X.xe=λ_ _=>False)(M:X.calm=true)(ok:dB X K u J)(pos:qm X e y fi)(O:∀C s3 H fp cv,DG (aN X K J C s3 H fp cv) e E/\fD (aN X K J C s3 H fp cv) B c/\DE (aN X K J C s3 H fp cv) Y Z)(R:X.N.Nodup)(S:X.N[n]? = some x)(W:EB X.env.scope x)(P:M5 (.ListComp Y [⟨e,y,B,0⟩] J t) (some (.Name x j)) A.line X.env=pure true)(ifs:∀x,zg y X.env x=pure x)(U:X.fn x=true\/X.env.scope.names.lookup x=some .local):DS X (.Assign [.Name x j] (.ListComp Y [⟨e,y,B,0⟩] J t) A) (aF (iO mk fi u E c Z) (gN n)):=.of (by
 intro cv s σ H Dn I h;obtain⟨ι,q,g,r,bY,gg,G0,px,h0,p⟩:=h;obtain⟨⟨d,Zp⟩,zq,hr⟩:=bind_some h0;have eK:some (F.nx,q.set n (some d),Zp)=some (r,bY,gg):=hr;clear h0;obtain⟨⟨sh,L,g1⟩,h1,f⟩:=bind_some (x:=fi q g) zq;dsimp only at f;split at f
 . rename_i hz
   obtain⟨⟨all,g'⟩,h2,h4⟩:=bind_some f;rw[exec_Assign_Name_used _ _ _ _ P];refine l8 (Y4 (l8 ?_));show wpAny _ X.A (do let _ <- comprehension (.ListComp Y [⟨e,y,B,0⟩] J t) J X.env _ (newList []) false (eval y X.env) (some (Hq (.Name x j) X.env))) _ _ s;refine l8 (Zc (oy (use:=some (Hq (.Name x j) X.env)) (Q:=λ_ l=>SP X cv Dn .next l) tg M ok pos O ifs I G0 px h1 hz h2 λl H' ιo vs Dl C I' fC Ds e' G' hD r hn ox=>?_) (λ_ l hq=>mA (mA hq)) λ_ _ Z=>Z);obtain⟨m,hm⟩:=Ds;show wpAny _ X.A (Hq (.Name x j) X.env (.ref Dl)) _ _ _;refine wpAny_assign_Name (uh I' R S W (v:=.ref Dl) rfl (λv_ i aO=>?_) U);obtain⟨a,sb,elt⟩:=aO;obtain⟨f0,f1,f2,f3,f4,f5⟩:=fC;have Dt:C≠a:=by
    rcases elt with rfl|elt
    . exact f1
    . exact λz=>f4 _ _ elt z.symm
   obtain⟨oc,es,ep,ho,rest⟩:=hm;refine⟨m,⟨oc,es,ep,(sb.2 C Dt).trans ho,rest⟩,λIq Zq=>?_⟩;refine⟨σ.set n (some (.ref Dl)),H',i.turned (t':=v_.toks) (λb o hb Z=>Zq.extBut b o hb Z) f0 f1 f3 f4 f5,?_⟩;cases eK;exact T (Q:=λv H'=>Dn.nx (σ.set n (some v)) H') e' ox G' hD r hn h4 λH2 ι2 v scope G2 r2=>p H2 ι2 scope G2 _ ((px.ext scope).set r2 n)
 . cases f)
def oz {fi:nR}{t:FG}{c:FT}{M:FE}(E:X.xe=λ_ _=>False)(Z:X.calm=true)(ok:dB X K u J)(A:qm X e y fi)(O:∀C s3 H fp U,DG (aN X K J C s3 H fp U) e t/\fD (aN X K J C s3 H fp U) B c/\DE (aN X K J C s3 H fp U) Y M)(N:∀x,zg y X.env x=pure x):DE X (.ListComp Y [⟨e,y,B,0⟩] J j) (iO gJ fi u t c M):=.of (by
 intro U s σ H Q I h;obtain⟨ι,σd,g,d,gg,G0,v,h,p⟩:=h;obtain⟨⟨sh,L,g1⟩,h1,h⟩:=bind_some h;dsimp only at h;split at h
 . rename_i hz
   obtain⟨⟨all,g'⟩,R,h⟩:=bind_some h;rw[eval_ListComp];refine oy (use:=none) E Z ok A O N I G0 v h1 hz R λa n ιo vs i C tg fC Ds q G' hD r pos f=>?_;obtain⟨m,hm⟩:=Ds;refine⟨m,hm,λIq z=>⟨.ref i,n,?_,rfl,qG q f G' hD r pos h p⟩⟩;obtain⟨f0,f1,f2,f3,f4,l⟩:=fC;exact tg.turned (t':=a.toks) (λb o hb M=>z.extBut b o hb M) f0 f1 f3 f4 l
 . cases h)
noncomputable def Du (a:FI):nR:=λc g=>(a c g).map λr=>(λ_=>some r.1,r.1.length,r.2)
def oA {A:FI}(h:DI X e y A):qm X e y (Du A):=.of (PI.imp h.un λO H Q q=>by
 obtain⟨C,n,g,R,L,x,G0,f,d,p⟩:=q;obtain⟨⟨ds,E⟩,u,B⟩:=oN.mp d;cases B;exact⟨C,n,g,ds,E,G0,f,u,λb c J l o a=>p b c J l o λi I j M r s U v z=>by cases v;exact a i I j M r s⟩)
theorem tH {ds:List D}{t:FG}{c:FT}{e:FE}:∀(k:Nat) (i:Sg) (g:G),k<=ds.length->c9 (λ_=>some ds) ds.length t c e k i g=cZ t c e (ds.drop (ds.length-k)) i g
 | 0,i,g,_=>by simp[c9,cZ]
 |k+1,i,g,h=>by
  have a:ds.length-(k+1)<ds.length:=by omega
  rw[VX a,show ds.length-(k+1)+1=ds.length-k by omega];simp only[c9,cZ,m5,if_true,nz a];refine congrArg _ (funext λq=>congrArg _ (funext λb=>?_));split
  . refine congrArg _ (funext λr=>?_)
    rw[tH k _ _ (by omega)]
  . rw[tH k _ _ (by omega)]
def pC {mk:List D->G->Option (D×G)}{a:FI}{t:FG}{c:FT}{e:FE}:bH mk a u t c e=iO mk (Du a) u t c e:=by
 funext σ g;unfold bH iO Du;cases a σ g with
 |none=>rfl
 |some r =>
  simp only[m5,E6];rw[tH _ _ _ (nc _),UH,ae8]
def Ka {p:FI}{t:FG}{c:FT}{q:FE}(d:X.xe=λ_ _=>False)(h:X.calm=true)(ok:dB X K u J)(a:DI X e y p)(f:∀C g H i n,DG (aN X K J C g H i n) e t/\fD (aN X K J C g H i n) B c/\DE (aN X K J C g H i n) Y q)(b:∀x,zg y X.env x=pure x):DE X (.ListComp Y [⟨e,y,B,0⟩] J j) (bH bA p u t c q):=by
 rw[pC];exact qH d h ok (oA a) f b
def Bl {Q:FI}{R:FG}{c:FT}{U:FE}(g:X.xe=λ_ _=>False)(o:X.calm=true)(ok:dB X K u J)(h:DI X e y Q)(q:∀C E H I M,DG (aN X K J C E H I M) e R/\fD (aN X K J C E H I M) B c/\DE (aN X K J C E H I M) Y U)(O:X.N.Nodup)(v:X.N[n]? = some x)(z:EB X.env.scope x)(s:M5 (.ListComp Y [⟨e,y,B,0⟩] J t) (some (.Name x A)) j.line X.env=pure true)(l:∀x,zg y X.env x=pure x)(i:X.fn x=true\/X.env.scope.names.lookup x=some .local):
  DS X (.Assign [.Name x A] (.ListComp Y [⟨e,y,B,0⟩] J t) j) (aF (bH bA Q u R c U) (gN n)):=
 by rw[pC];exact iP (λd _ b hD r f a p=>qF d b hD r f a p) g o ok (oA h) q O v z s l i
def yH {R:FI}{l:FG}{c:FT}{U:FE}(o:X.xe=λ_ _=>False)(q:X.calm=true)(ok:dB X K u J)(i:DI X e y R)(s:∀C E H I M,DG (aN X K J C E H I M) e l/\fD (aN X K J C E H I M) B c/\DE (aN X K J C E H I M) Y U)(v:X.N.Nodup)(Z:X.N[n]? = some x)(O:EB X.env.scope x)(Q:M5 (.ListComp Y [⟨e,y,B,0⟩] J t) (some (.Name x j)) A.line X.env=pure true)(g:∀x,zg y X.env x=pure x)(z:X.fn x=true\/X.env.scope.names.lookup x=some .local):
  DS X (.Assign [.Name x j] (.ListComp Y [⟨e,y,B,0⟩] J t) A) (aF (bH gJ R u l c U) (gN n)):=
 by rw[pC];exact iP (λf a d hD r h b p=>qG f a d hD r h b p) o q ok (oA i) s v Z O Q g z
noncomputable def gr (c:Sh)(L:Nat)(t:FG)(b:FS):Nat->FS
 | 0,i,g=>(c g).bind λh=>if h.length=L then some (.nx,i,g)else none
 |r+1,i,g=>(c g).bind λh=>if h.length=L then(h[L-(r+1)]?).bind λd=>(t d i g).bind λq=>(b q.1 q.2).bind λa=>match a.1 with
   |.nx=>gr c L t b r a.2.1 a.2.2|.ct=>gr c L t b r a.2.1 a.2.2|.bk=>some (.nx,a.2.1,a.2.2)|.rt d=>some (.rt d,a.2.1,a.2.2)
  else none
noncomputable def mY (a:nR)(t:FG)(b:FS):FS:=λc g=>(a c g).bind λr=>gr r.1 r.2.1 t b r.2.1 c r.2.2
inductive Gj (X:Cx)(t:FG)(b:FS)(sh:Sh)(L:Nat)(H1:Hp)(ι1:Ix)(r:F)(bY:Sg)(g':G)(i:Nat)(σ2:mO)(H2:Hp):Prop
 |mk (ι2:Ix) (rV:Sg) (g2:G) (e2:Ext H1 ι1 H2 ι2) (G2:au X.kw H2 ι2 g2) (S2:bC X.kw H2 ι2 rV σ2) (hf:gr sh L t b (L-i) rV g2=some (r,bY,g')):Gj X t b sh L H1 ι1 r bY g' i σ2 H2
def zt {C:nR}{t:FG}{b:FS}(M:ZX (model X.prog X.w) X.A X.env X.xe)(K:X.calm=true)(B:qm X y e C)(N:DG X y t)(I:lY X a b)(E:∀x,zg e X.env x=pure x):DS X (.For y e a [] j) (mY C t b):=.of (PS.imp (Mz M K B.un N.un I.un E) λDn σ H h=>by
 obtain⟨ι,U,g,r,bY,g',G0,S0,h,p⟩:=h;obtain⟨⟨sh,L,g1⟩,h1,h⟩:=bind_some h;refine⟨ι,U,g,sh,L,g1,G0,S0,h1,λH1 o J O G1 J1=>?_⟩;dsimp only at h;refine⟨λi m z c=>m=L-i/\i<=L/\Gj X t b sh L H1 o r bY g' i z c,
   ⟨L,by simp,tc _,o,U,g1,Ext.refl,G1,S0.ext O,by simpa using h⟩,?_⟩
 rintro i m z c ⟨rfl,B,q,rV,g2,s,G2,S2,hf⟩;have j1:=J1 i c q g2 s.dW G2;by_cases bK:i<L
 . rw[show L-i=(L-(i+1))+1 by omega]at hf
   simp only[gr]at hf;obtain⟨xs,hx,hf⟩:=bind_some hf;split at hf
   . rename_i u
     obtain⟨d0,Dp,hf⟩:=bind_some hf;rw[show L-(L-(i+1)+1)=i by omega]at Dp;obtain⟨⟨Y,g3⟩,h3,hf⟩:=bind_some hf;obtain⟨⟨r4,Q,g4⟩,h4,hf⟩:=bind_some hf;obtain⟨st,go⟩:=j1 xs hx u;obtain⟨go,yl⟩:=go d0 Dp;refine .inr ⟨go,λZ H5=>Gj X t b sh L H1 o r bY g' (i+1) Z H5,?_,?_⟩
     . rintro Z H5 ⟨ι5,Zr,g5,e5,G5,S5,h5⟩
       exact⟨L-(i+1),by omega,rfl,bK,ι5,Zr,g5,e5,G5,S5,h5⟩
     . intro x H' body
       obtain⟨e3,G3,r3⟩:=yl x H' body;refine⟨q,rV,g2,d0,Y,g3,G3,S2.ext e3,r3,h3,λH6 ι6 σ6 e6 G6 S6=>?_⟩;refine⟨ι6,Y,g3,r4,Q,g4,G6,S6,h4,λH7 f e7 l=>?_⟩;have n:=s.trans (e3.trans (e6.trans e7));cases r4 with
       |nx=>exact λR pos=>⟨f,Q,g4,n,l,pos,hf⟩|ct=>exact λR pos=>⟨f,Q,g4,n,l,pos,hf⟩|bk=>cases hf;exact λR pos=>p H7 f (O.trans n) l R pos|rt d=>cases hf;exact λv r7=>p H7 f (O.trans n) l v r7
   . cases hf
 . have tg:i=L:=by omega
   subst tg;rw[UH]at hf;simp only[gr]at hf;obtain⟨xs,hx,hf⟩:=bind_some hf;split at hf
   . rename_i u
     cases hf;obtain⟨st,_⟩:=j1 xs hx u;exact .inl ⟨st (nc _),p c q (O.trans s) G2 z S2⟩
   . cases hf)
theorem zu {ds:List D}{t:FG}{b:FS}:∀(k:Nat) (c:Sg) (g:G),k<=ds.length->gr (λ_=>some ds) ds.length t b k c g=forL t b (ds.drop (ds.length-k)) c g
 | 0,c,g,_=>by simp[gr,forL]
 |k+1,c,g,h=>by
  have a:ds.length-(k+1)<ds.length:=by omega
  rw[VX a,show ds.length-(k+1)+1=ds.length-k by omega];simp only[gr,forL,m5,if_true,nz a,zu k _ _ (aeo h)]<;>rfl
def NM {a:FI}{t:FG}{b:FS}:dF a t b=mY (Du a) t b:=by
 funext σ g;unfold dF mY Du;cases a σ g with
 |none=>rfl
 |some r =>
  simp only[m5,E6];rw[zu _ _ _ (nc _),UH,ae8]
def NN {c:FI}{t:FG}{b:FS}(i:ZX (model X.prog X.w) X.A X.env X.xe)(f:X.calm=true)(h:DI X e y c)(n:DG X e t)(g:lY X a b)(d:∀x,zg y X.env x=pure x):DS X (.For e y a [] j) (dF c t b):=by
 rw[NM];exact zt i f (oA h) n g d
noncomputable def cu (c:Int->Int->Bool)(f:Int->Int->Int)(a b:D)(g:G):Option (D×G):=match a,b with
 |.int i,.int j=>if c i j=true then some (.int (f i j),g)else none|_,_=>none
noncomputable def rY (f:Int->Int->Bool)(a b:D)(g:G):Option (D×G):=match a,b with
 |.int i,.int j=>some (.bl (f i j),g)|_,_=>none
noncomputable def eE (_ _:Int):Bool:=true
noncomputable def cR (i j:Int):Bool:=Pf i.natAbs 18446744073709551615||Pf j.natAbs 18446744073709551615
noncomputable def e_ (_ j:Int):Bool:=Pf 1 j.toNat&&Pf j.toNat 1073741823
noncomputable def dQ (_ j:Int):Bool:=Pf 1 j.toNat
noncomputable def j4 (i j:Int):Bool:=(match j with|.ofNat n=>Pf n 1000000|.negSucc _=>false)&&Pf i.natAbs 18446744073709551615
section
def l7 {C:Int->Int->Prop}{A:Int->Int->Int}(h:bJ X w (rI C λi j=>.int (A i j)))(B:∀i j,k i j=true->C i j):bJ X w (dD X.kw (cu k A)):=by
 intro c s E H x y v u Q I l o q;obtain⟨J,g,n,e,d,r,G0,a,b,q,p⟩:=q;cases n with
 |int i =>
  cases e with
  |int j =>
   simp only[Rel]at a b;subst a;subst b;simp only[cu]at q;split at q
   . rename_i z
     cases q;exact h c s E H _ _ v u Q I l o ⟨i,j,rfl,rfl,B i j z,p H J _ Ext.refl G0 (by simp[Rel])⟩
   . cases q
  |_=>cases q
 |_=>cases q
def zw {g:Int->Int->V}{y:V}(h:rI (λ_ _=>True) g d y H m):qb g d y H m:=let⟨i,j,a,b,_,q⟩:=h;⟨i,j,a,b,q⟩
def bJ.imp {r c:R2}(h:bJ X w r)(i:∀x y H Q,c x y H Q->r x y H Q):bJ X w c:=λg s n H x y v u Q I a b q=>h g s n H x y v u Q I a b (i _ _ _ _ q)
def NO:bJ X (ta .Sub) (dD X.kw (cu eE (· - ·))):=l7 (bJ.imp MD λ_ _ _ _=>zw) λ_ _ _=>trivial
def Kb:bJ X (ta .Add) (dD X.kw (cu eE (· + ·))):=l7 (bJ.imp MC λ_ _ _ _=>zw) λ_ _ _=>trivial
def Kc:bJ X (ta .Mult) (dD X.kw (cu cR (· * ·))):=l7 ME λi j h=>by
 unfold cR at h;simp only[yN]at h;rcases h with h|h
 . have:=TU h
   exact .inl ⟨by omega,by omega⟩
 . have:=TU h
   exact .inr ⟨by omega,by omega⟩
def Ke:bJ X (ta .FloorDiv) (dD X.kw (cu e_ (· / ·))):=l7 JE λi j h=>by unfold e_ at h;simp only[mS]at h;have a:=TU h.1;have b:=TU h.2;exact⟨by omega,by omega⟩
def NP:bJ X (ta .Mod) (dD X.kw (cu dQ (· % ·))):=l7 MF λi j h=>by have a:=TU (show Pf 1 j.toNat=true from h);show 0<j;omega
def NQ:bJ X (ta .Pow) (dD X.kw (cu j4 (λi j=>i ^ j.toNat))):=l7 MG λi j h=>by
 unfold j4 at h;simp only[mS]at h;have b:=TU h.2;cases j with
 |ofNat n =>
  have a:=TU (show Pf n 1000000=true from h.1);exact⟨afn n,(by show((n:Nat):Int)<=1000000;omega),(by omega)⟩
 |negSucc n=>exact absurd h.1 (by simp)
def vB (h:bJ X w (qb λi j=>.bl (k i j))):bJ X w (dD X.kw (rY k)):=by
 intro r s B H x y v u Q I e n q;obtain⟨C,g,l,c,d,o,G0,a,b,q,p⟩:=q;cases l with
 |int i =>
  cases c with
  |int j =>
   simp only[Rel]at a b;subst a;subst b;cases q;exact h r s B H _ _ v u Q I e n ⟨i,j,rfl,rfl,p H C _ Ext.refl G0 (by simp[Rel])⟩
  |_=>cases q
 |_=>cases q
def RK:bJ X (u3 .Lt) (dD X.kw (rY λi j=>decide (i<j))):=vB Rl
def RL:bJ X (u3 .LtE) (dD X.kw (rY λi j=>decide (i<=j))):=vB Rm
def RM:bJ X (u3 .Gt) (dD X.kw (rY λi j=>decide (j<i))):=vB Rn
def RN:bJ X (u3 .GtE) (dD X.kw (rY λi j=>decide (j<=i))):=vB Ro
noncomputable def mZ (d:D)(g:G):Option (D×G):=match d with|.int i=>some (.int (-i),g)|_=>none
def NR:CF X (unaryOp .USub) (Nm X.kw mZ):=by
 intro h s n H x v Q I a q;obtain⟨r,g,b,d,e,G0,c,q,p⟩:=q;cases b with
 |int i =>
  cases c;cases q;exact MH h s n H _ v Q I a ⟨i,rfl,p H r _ Ext.refl G0 (by simp[Rel])⟩
 |_=>cases q
mutual
noncomputable def flat:D->Bool
 |.ref _=>false|.dI=>false|.az _=>false|.fn _ _=>false|.tup c=>aS c|.lst c=>aS c|_=>true
noncomputable def aS:List D->Bool
 | []=>true|d::ds=>flat d&&aS ds
end
mutual
noncomputable def bq:D->D->Bool
 |.aA,d=>match d with|.aA=>true|_=>false
 |.bl a,d=>match d with|.bl b=>a == b|.int b=>(if a then 1 else 0)== b|_=>false
 |.int a,d=>match d with|.bl b=>a == (if b then 1 else 0)|.int b=>a == b|_=>false
 |.str a,d=>match d with|.str b=>a == b|_=>false
 |.tup c,d=>match d with|.tup g=>gK c g|_=>false
 |.lst c,d=>match d with|.lst g=>gK c g|_=>false
 |_,_=>false
noncomputable def gK:List D->List D->Bool
 | [],[]=>true|x::c,y::g=>bq x y&&gK c g|_,_=>false
end
mutual
noncomputable def dep:D->Nat
 |.tup c=>bG c+1|.lst c=>bG c+1|_=>0
noncomputable def bG:List D->Nat
 | []=>0|d::ds=>max (dep d) (bG ds)
end
mutual
theorem kG:∀d:D,flat d=true->bq d d=true
 |.aA,_=>by simp[bq]|.bl _,_=>by simp[bq]|.int _,_=>by simp[bq]|.str _,_=>by simp[bq]|.tup c,h=>by simp only[bq];exact oB c h|.lst c,h=>by simp only[bq];exact oB c h
theorem oB:∀ds:List D,aS ds=true->gK ds ds=true
 | [],_=>by simp[gK]|d::ds,h=>by simp only[aS,mS]at h;simp only[gK,mS];exact⟨kG d h.1,oB ds h.2⟩
end
theorem qI:∀c g:List D,gK c g=((r6 (min c.length g.length)).all (λj=>bq (c[j]?.getD .aA) (g[j]?.getD .aA))&&c.length == g.length)
 | [],[]=>by simp[gK]| [],y::g=>by simp[gK]|x::c,[]=>by simp[gK]|x::c,y::g=>by simp only[gK,qI c g,z6,Nat.succ_min_succ,agk,Z_,adq,ahI,List.all_map,US,List.getElem?_cons_succ];rw[Bool.and_assoc];congr 2;simp
def pD {g:List V}(I:mn X b r H c)(h:fz X.kw H f U)(i:dy X.kw H f g):False:=by obtain⟨e,_,d,_⟩:=I.tuple h;obtain⟨p,_,n,_⟩:=I.list i;exact SeqAt.ne_of_list_tuple n.isList d rfl
mutual
theorem Rel.inj {J:List (Addr×Obj)}{M:mO}{H:Hp}{s:my}{B:Ix}(I:mn X J M H s):∀(O g:D) {v:V},flat O=true->flat g=true->Rel X.kw H B O v->Rel X.kw H B g v->O=g
 |.aA,g,v,_,p,r,q=>by cases r;cases g<;>simp_all[Rel,flat]|.bl _,g,v,_,p,r,q=>by cases r;cases g<;>simp_all[Rel,flat]|.int _,g,v,_,p,r,q=>by cases r;cases g<;>simp_all[Rel,flat]|.str _,g,v,_,p,r,q=>by cases r;cases g<;>simp_all[Rel,flat]
 |.tup Q,g,v,u,p,r,q=>by
  obtain⟨a,i,rfl,d,h⟩:=r;cases g with
  |tup C =>
   obtain⟨f,R,e,b,c⟩:=q;cases e;have:=I.og d.sq b.sq;subst this;rw[ai.inj I Q C u p h c]
  |lst C =>
   obtain⟨f,R,e,b,c⟩:=q;cases e;exact(pD I d.sq b.sq).elim
  |dI=>cases p|ref n=>cases p|az n=>cases p|fn x=>cases p|_=>simp[Rel]at q
 |.lst Q,g,v,u,p,r,q=>by
  obtain⟨a,i,rfl,d,h⟩:=r;cases g with
  |lst C =>
   obtain⟨f,R,e,b,c⟩:=q;cases e;have:=I.qz d.sq b.sq;subst this;rw[ai.inj I Q C u p h c]
  |tup C =>
   obtain⟨f,R,e,b,c⟩:=q;cases e;exact(pD I b.sq d.sq).elim
  |dI=>cases p|ref n=>cases p|az n=>cases p|fn x=>cases p|_=>simp[Rel]at q
 |.dI,g,v,u,_,_,_=>by cases u|.ref _,g,v,u,_,_,_=>by cases u|.az _,g,v,u,_,_,_=>by cases u|.fn _ _,g,v,u,_,_,_=>by cases u
theorem ai.inj {J:List (Addr×Obj)}{M:mO}{H:Hp}{s:my}{B:Ix}(I:mn X J M H s):∀(ds y:List D) {E:List V},aS ds=true->aS y=true->ai X.kw H B ds E->ai X.kw H B y E->ds=y
 | [],y,E,_,_,r,q=>by
  cases r;cases y with
  |nil=>rfl|cons e y=>simp[ai]at q
 |d::ds,y,E,u,p,r,q=>by
  obtain⟨v,j,rfl,h,c⟩:=r;cases y with
  |nil=>simp[ai]at q
  |cons e y =>
   obtain⟨l,b,i,f,a⟩:=q;cases i;simp only[aS,mS]at u p;rw[Rel.inj I d e u.1 p.1 h f,ai.inj I ds y u.2 p.2 c a]
end
def Rel.zy {K H ι d v b t}(r:Rel K H ι d v)(f:mI v (.float b t)):False:=by
 cases d with
 |aA=>cases r;cases f|bl _=>cases r;cases f|int _=>cases r;obtain⟨t,e⟩:=f;cases e
 |str _=>cases r;obtain⟨t,e⟩:=f;cases e
 |tup _=>obtain⟨a,c,rfl,_⟩:=r;cases f
 |lst _=>obtain⟨a,c,rfl,_⟩:=r;cases f
 |dI=>obtain⟨a,rfl,_⟩:=r;cases f
 |ref _=>obtain⟨a,rfl,_⟩:=r;cases f
 |az _=>obtain⟨a,rfl,_⟩:=r;cases f
 |fn _=>obtain⟨a,_,rfl,_⟩:=r;cases f
def in1_units (A:qc):A.in1.units=A.units+1:=rfl
section
open SeqAt
def rZ {v:Value}(h:RcAt M c T v Z)(d:T=v->Z=true)(e:∀b t,T ≠ .float b t):EqAt M c T v Z:=λprog w E Q a=>by
 unfold eqBool;refine wh ?_;refine Em (λA=>?_) (λ_=>?_)
 . rw[d (eq_of_beq A)]at a
   exact l8 (DK (mA a))
 . cases T with
   |float b t=>exact absurd rfl (e b t)|_=>exact l8 (h prog w E _ (YP a))
inductive Kd (s:my):D->Value->Prop
 |aA:Kd s .aA .none
 |bl:∀b,Kd s (.bl b) (.bool b)
 |int:∀b t,Kd s (.int b) (.int b t)
 |str:∀b t,Kd s (.str b) (.str b t)
 |tup:∀xs a aq,s.heap.IsTuple a aq->Kd s (.tup xs) (.ref a)
 |lst:∀xs a aq,s.heap.IsList a aq->Kd s (.lst xs) (.ref a)
def kd {i:Ix}(I:mn X b r H c){g:D}(f:flat g=true)(x:Rel X.kw H i g d)(h:mI d T):Kd c g T:=by
 cases g with
 |aA=>cases x;cases h;exact .aA|bl u=>cases x;cases h;exact .bl u|int u=>cases x;obtain⟨t,rfl⟩:=h;exact .int u t
 |str u=>cases x;obtain⟨t,rfl⟩:=h;exact .str u t
 |tup _=>obtain⟨a,_,rfl,q,_⟩:=x;cases h;obtain⟨_,_,t,_⟩:=I.tuple q.sq;exact .tup _ _ _ t
 |lst _=>obtain⟨a,_,rfl,q,_⟩:=x;cases h;obtain⟨_,_,t,_⟩:=I.list q.sq;exact .lst _ _ _ t.isList
 |_=>cases f
noncomputable def mix:D->D->Bool
 |.tup _,.tup _=>false|.lst _,.lst _=>false|_,_=>true
set_option maxHeartbeats 4000000 in
def gR {a b : D}{v: Value}(A : Kd c a T)(g : Kd c b v)(m : mix a b = true)(hu : M.units + dep a < cLine): RcAt M c T v (bq a b) /\ RcNeAt M c T v (!bq a b):= by
 have hu : M.units < cLine := by omega
 cases A <;> cases g <;> first
   | (cases m; done)
   | (simp only[bq, Zx, agv]
      with_reducible constructor <;> first
       |exact .none_none
       |exact .none_bool _
       |exact .none_int _ _
       |exact .none_str _ _
       |exact .none_tuple ‹_› (by omega)
       |exact .none_list ‹_› (by omega)
       |exact .bool_none _
       |exact .bool_bool _ _
       |exact .bool_int _ _ _
       |exact .bool_str _ _ _
       |exact .bool_tuple _ ‹_› (by omega)
       |exact .bool_list _ ‹_› (by omega)
       |exact .int_none _ _
       |exact .int_bool _ _ _
       |exact .int_int _ _ _ _
       |exact .int_str _ _ _ _
       |exact .int_tuple _ _ ‹_› (by omega)
       |exact .int_list _ _ ‹_› (by omega)
       |exact .str_none _ _
       |exact .str_bool _ _ _
       |exact .str_int _ _ _ _
       |exact .str_str _ _ _ _
       |exact .str_tuple _ _ ‹_› (by omega)
       |exact .str_list _ _ ‹_› (by omega)
       |exact .tuple_none ‹_› (by omega)
       |exact .tuple_bool _ ‹_› (by omega)
       |exact .tuple_int _ _ ‹_› (by omega)
       |exact .tuple_str _ _ ‹_› (by omega)
       |exact .tuple_list ‹_› ‹_› (by omega)
       |exact .list_none ‹_› (by omega)
       |exact .list_bool _ ‹_› (by omega)
       |exact .list_int _ _ ‹_› (by omega)
       |exact .list_str _ _ ‹_› (by omega)
       |exact .list_tuple ‹_› ‹_› (by omega))
section
variable {ι:Ix}
mutual
theorem Iu (I:mn X b r H c):∀(Z Q:D) {A:qc} {x y:V} {u v:Value},flat Z=true->flat Q=true->Rel X.kw H ι Z x->Rel X.kw H ι Q y->mI x u->mI y v->A.units+dep Z<cLine->RcAt A c u v (bq Z Q)/\RcNeAt A c u v (!bq Z Q)
 |.tup E,Q,A,x,y,u,v,C,J,M,R,O,rv,hu=>by
  cases Q with
  |tup B =>
   obtain⟨a,U,rfl,hq,z⟩:=M;cases O;obtain⟨q,f_,l,_⟩:=I.tuple hq.sq;obtain⟨a',Y,rfl,cb,eK⟩:=R;cases rv;obtain⟨i,cv,n,_⟩:=I.tuple cb.sq;simp only[dep]at hu;simp only[bq,qI];rw[show E.length=q.toArray.size by rw[om,<- f_.length];exact z.length,show B.length=i.toArray.size by rw[om,<- cv.length];exact eK.length];have k:=tI I E B (A:=A.in1) C J z eK f_ cv (by rw[in1_units];omega);exact⟨.tuples l n (by omega) λj p o=>by simpa using k j (by simpa using p) (by simpa using o),.tuples l n (by omega) λj p o=>by simpa using k j (by simpa using p) (by simpa using o)⟩
  |_=>exact gR (kd I C M O) (kd I J R rv) rfl hu
 |.lst E,Q,A,x,y,u,v,C,J,M,R,O,rv,hu=>by
  cases Q with
  |lst B =>
   obtain⟨a,U,rfl,hq,z⟩:=M;cases O;obtain⟨q,f_,l,_⟩:=I.list hq.sq;obtain⟨a',Y,rfl,cb,eK⟩:=R;cases rv;obtain⟨i,cv,n,_⟩:=I.list cb.sq;simp only[dep]at hu;simp only[bq,qI];rw[show E.length=q.toArray.size by rw[om,<- f_.length];exact z.length,show B.length=i.toArray.size by rw[om,<- cv.length];exact eK.length];by_cases hs:q.toArray.size=i.toArray.size
   . rw[show(q.toArray.size == i.toArray.size)=true by simpa using hs,Bool.and_true,<- hs,Nat.min_self]
     have k:=tI I E B (A:=A.in1) C J z eK f_ cv (by rw[in1_units];omega);exact⟨.lists l.isList n.isList hs (by omega) λj p o=>by simpa using k j (by simpa using p) (by simpa using o),.lists l.isList n.isList hs (by omega) λj p o=>by simpa using k j (by simpa using p) (by simpa using o)⟩
   . rw[show(q.toArray.size == i.toArray.size)=false by simpa using hs,aif,agv]
     exact⟨.lists_lengths l.isList n.isList (by simpa using hs) (by omega),.lists_lengths l.isList n.isList (by simpa using hs) (by omega)⟩
  |_=>exact gR (kd I C M O) (kd I J R rv) rfl hu
 |.aA,_,_,_,_,_,_,a,g,s,d,e,f,h=>gR (kd I a s e) (kd I g d f) rfl h|.bl _,_,_,_,_,_,_,a,g,s,d,e,f,h=>gR (kd I a s e) (kd I g d f) rfl h|.int _,_,_,_,_,_,_,a,g,s,d,e,f,h=>gR (kd I a s e) (kd I g d f) rfl h|.str _,_,_,_,_,_,_,a,g,s,d,e,f,h=>gR (kd I a s e) (kd I g d f) rfl h|.dI,_,_,_,_,_,_,a,g,s,d,e,f,h=>gR (kd I a s e) (kd I g d f) rfl h|.ref _,_,_,_,_,_,_,a,g,s,d,e,f,h=>gR (kd I a s e) (kd I g d f) rfl h|.az _,_,_,_,_,_,_,a,g,s,d,e,f,h=>gR (kd I a s e) (kd I g d f) rfl h|.fn _ _,_,_,_,_,_,_,a,g,s,d,e,f,h=>gR (kd I a s e) (kd I g d f) rfl h
theorem tI (I:mn X b r H c):∀(E B:List D) {A:qc} {U Y:List V} {us zs:List Value},aS E=true->aS B=true->ai X.kw H ι E U->ai X.kw H ι B Y->Vals U us->Vals Y zs->A.units+bG E<cLine ->
  ∀(j:Nat) (h1:j<us.length) (h2:j<zs.length),EqAt A c us[j] zs[j] (bq (E[j]?.getD .aA) (B[j]?.getD .aA))
 | [],B,A,U,Y,us,zs,_,_,M,_,O,_,_,j,h1,_=>by cases M;cases O;simp at h1
 |d::ds,B,A,U,Y,us,zs,C,J,M,R,O,rz,hu,j,h1,h2=>by
  obtain⟨v,o,rfl,a,h⟩:=M;simp only[bG]at hu;simp only[aS,mS]at C;cases O with
  |cons Iv Zs =>
   cases B with
   |nil=>cases R;cases rz;simp at h2
   |cons e es =>
    obtain⟨w,wr,rfl,hw,s⟩:=R;simp only[aS,mS]at J;cases rz with
    |cons T2 Zu =>
     cases j with
     |zero =>
      have rc:=(Iu I d e (A:=A) C.1 J.1 a hw Iv T2 (by omega)).1;simp only[List.getElem_cons_zero,adq,ahI];refine rZ rc (λl=>?_) (λg t n=>Rel.zy a (by rw[n]at Iv;exact Iv));subst l;have i:=Iv.inj T2;subst i;have f:=Rel.inj I d e C.1 J.1 a hw;subst f;exact kG d C.1
     |succ j =>
      have:=tI I ds es (A:=A) C.2 J.2 h s Zs Zu (by omega) j (by simpa using h1) (by simpa using h2);simpa using this
end
end
end
noncomputable def oEq (a b:D)(g:G):Option (D×G):=if(flat a&&flat b&&decide (dep a<=60))=true then some (.bl (bq a b),g)else none
def RO (hu:X.A.units+64<cLine):bJ X (u3 .Eq) (dD X.kw oEq):=by
 intro r s B H x y v u Q I c h q;obtain⟨n,g,e,a,d,i,G0,b,f,q,p⟩:=q;unfold oEq at q;split at q
 . rename_i z
   simp only[mS,decide_eq_true_eq]at z;cases q;exact(Iu I e a z.1.1 z.1.2 b f c h (by omega)).1 _ _ _ _ ⟨.bl _,H,I,rfl,p H n _ Ext.refl G0 (by simp[Rel])⟩
 . cases q
noncomputable def m7:D->Bool
 |.aA=>true|_=>false
noncomputable def Gk (b a:D)(g:G):Option (D×G):=match a with|.aA=>some (.bl (m7 b),g)|_=>none
noncomputable def Bm (b a:D)(g:G):Option (D×G):=match a with|.aA=>some (.bl (!m7 b),g)|_=>none
def zA {K H ι d v}(r:Rel K H ι d v):decide (v=V.aA)=m7 d:=by
 cases d with
 |aA=>cases r;rfl|bl _=>cases r;rfl|int _=>cases r;rfl|str _=>cases r;rfl|tup _=>obtain⟨a,b,rfl,_⟩:=r;rfl
 |lst _=>obtain⟨a,b,rfl,_⟩:=r;rfl
 |dI=>obtain⟨a,rfl,_⟩:=r;rfl
 |ref _=>obtain⟨a,rfl,_⟩:=r;rfl
 |az _=>obtain⟨a,rfl,_⟩:=r;rfl
 |fn _=>obtain⟨a,_,rfl,_⟩:=r;rfl
def NV:bJ X (u3 .Is) (dD X.kw Gk):=by
 intro n s r H x y v u Q I c f q;obtain⟨B,g,i,a,d,h,G0,b,e,q,p⟩:=q;cases a with
 |aA =>
  cases e;simp only[Gk]at q;cases q;exact MI n s r H _ _ v u Q I c f ⟨rfl,by rw[zA b];exact p H B _ Ext.refl G0 (by simp[Rel])⟩
 |_=>cases q
def Kf:bJ X (u3 .IsNot) (dD X.kw Bm):=by
 intro n s r H x y v u Q I c f q;obtain⟨B,g,i,a,d,h,G0,b,e,q,p⟩:=q;cases a with
 |aA =>
  cases e;simp only[Bm]at q;cases q;refine JF n s r H _ _ v u Q I c f ⟨rfl,?_⟩;rw[zA b];exact p H B _ Ext.refl G0 (by simp[Rel])
 |_=>cases q
noncomputable def bD (d:D)(g:G):Option (List D):=match d with
 |.tup c=>some c|.lst c=>some c|.ref n=>g[n]?|_=>none
def lj {K H ι g d v xs}(G0:au K H ι g)(r:Rel K H ι d v)(h:bD d g=some xs):∃a p,v = .ref a/\(dy K H a p\/fz K H a p)/\ai K H ι xs p:=by
 cases d with
 |tup q=>cases h;obtain⟨a,p,rfl,b,c⟩:=r;exact⟨a,p,rfl,.inr b.sq,c⟩
 |lst q=>cases h;obtain⟨a,p,rfl,b,c⟩:=r;exact⟨a,p,rfl,.inl b.sq,c⟩
 |ref n =>
  obtain⟨a,rfl,e⟩:=r;obtain⟨p,f,i⟩:=G0.at h e;exact⟨a,p,rfl,.inl (.of f),i⟩
 |_=>cases h
noncomputable def gS (b a:D)(g:G):Option (D×G):=match a with
 |.int i=>(bD b g).bind λc=>(eI c i).map λd=>(d,g)|_=>none
def Kg {K H ι}{g:List D}{d:D}(r:ai K H ι g U)(h:eI g i=some d):∃v,eI U i=some v/\Rel K H ι d v:=by unfold eI at h ⊢;rw[<- r.length];obtain⟨j,b,e⟩:=bind_some h;obtain⟨v,a,c⟩:=r.get e;exact⟨v,by rw[b];exact a,c⟩
def Kh:nK X (dD X.kw gS):=by
 intro value slice B s C H x y v u Q I h l q j;obtain⟨E,g,O,n,d,R,G0,o,J,q,p⟩:=q;cases n with
 |int i =>
  cases J;simp only[gS]at q;obtain⟨M,h1,q⟩:=bind_some q;cases h2:eI M i with
  |none=>rw[h2]at q;cases q
  |some e =>
   rw[h2]at q;cases q;obtain⟨a,f,rfl,b,r⟩:=lj G0 o h1;obtain⟨w,c,z⟩:=Kg r h2;have fin:=p H E w Ext.refl G0 z;rcases b with b|b
   . exact CP value slice B s C H _ _ v u Q I h l (.inl ⟨a,f,i,w,rfl,rfl,b,c,fin⟩) j
   . exact CP value slice B s C H _ _ v u Q I h l (.inr (.inl ⟨a,f,i,w,rfl,rfl,b,c,fin⟩)) j
 |_=>cases q
noncomputable def cg (ds:List D)(g:G):Option (D×G):=match ds with| [d]=>(bD d g).map λc=>(.int c.length,g)|_=>none
def NW:dM X (.builtin "len") (lX X.kw cg):=by
 intro n s u H C x Q I r q;obtain⟨y,g,ds,d,j,G0,f,q,p⟩:=q;cases ds with
 |nil=>cases q|cons e B =>
 cases B with
 |cons _ _=>cases q
 |nil =>
  simp only[cg]at q;cases hx:bD e g with
  |none=>rw[hx]at q;cases q
  |some E =>
   rw[hx]at q;cases q;obtain⟨v,_,rfl,b,rfl⟩:=f;obtain⟨a,c,rfl,i,h⟩:=lj G0 b hx;exact wk n s u H _ x Q I r ⟨a,c,rfl,i,by rw[<- h.length];exact p H y _ Ext.refl G0 (by simp[Rel])⟩
noncomputable def lK (ds:List D)(g:G):Option (D×G):=match ds with| [.int i,.int j]=>some (.int (if j<i then j else i),g)|_=>none
def NX (c:X.calm=true):dM X (.builtin "min") (lX X.kw lK):=by
 intro h s i H v n Q I r q;obtain⟨u,g,ds,d,b,G0,a,q,p⟩:=q;unfold lK at q;split at q
 . cases q
   obtain⟨_,_,rfl,rfl,_,_,rfl,rfl,rfl⟩:=a;exact CJ c h s i H _ n Q I r ⟨_,_,rfl,p H u _ Ext.refl G0 (by simp[Rel])⟩
 . cases q
noncomputable def jR (ds:List D)(g:G):Option (D×G):=match ds with| [.int i]=>some (.int i,g)| [.bl k]=>some (.int (if k then 1 else 0),g)|_=>none
def NY:dM X (.type "int") (lX X.kw jR):=by
 intro c s h H u i Q I r q;obtain⟨n,g,ds,d,b,G0,a,q,p⟩:=q;unfold jR at q;split at q
 . cases q
   obtain⟨_,_,rfl,rfl,rfl⟩:=a;exact uo c s h H _ i Q I r (.inl ⟨_,rfl,p H n _ Ext.refl G0 (by simp[Rel])⟩)
 . cases q
   obtain⟨_,_,rfl,rfl,rfl⟩:=a;exact uo c s h H _ i Q I r (.inr ⟨_,rfl,p H n _ Ext.refl G0 (by simp[Rel])⟩)
 . cases q
noncomputable def gL (ds:List D)(g:G):Option (D×G):=match ds with| [d]=>(bD d g).bind λc=>if ax c.length=true then some (.tup c,g)else none|_=>none
def NZ:dM X (.type "tuple") (lX X.kw gL):=by
 intro C s E H R J Q I r q;obtain⟨M,g,ds,d,U,G0,o,q,p⟩:=q;cases ds with
 |nil=>cases q|cons e O =>
 cases O with
 |cons _ _=>cases q
 |nil =>
  simp only[gL]at q;obtain⟨Y,h,q⟩:=bind_some q;split at q
  . rename_i z
    cases q;obtain⟨v,_,rfl,c,rfl⟩:=o;cases e with
    |tup zs =>
     cases h;obtain⟨a,B,rfl,b,i⟩:=c;exact nL C s E H _ J Q I r ⟨a,B,rfl,.inr ⟨b.sq,p H M _ Ext.refl G0 (by simp only[Rel];exact⟨a,B,rfl,b,i⟩)⟩⟩
    |_ =>
     obtain⟨a,B,rfl,b,i⟩:=lj G0 c h;have x:dy X.kw H a B:=by
      rcases b with b|b
      . exact b
      . exfalso
        first
         | (cases h;done)
         | (obtain⟨y,Z,j,n,_⟩:=c;cases j;exact pD I b n.sq)
         | (obtain⟨y,j,u⟩:=c;cases j;obtain⟨ws,h1,h2⟩:=G0.at h u;exact pD I b (.of h1))
     refine nL C s E H _ J Q I r ⟨a,B,rfl,.inl ⟨x,λl f=>p _ _ _ (Ext.lay f) (G0.lay f) ?_⟩⟩;simp only[Rel];exact⟨l,B,rfl,.inl ⟨.inl aR,G0.fresh f⟩,ai.ext (Ext.lay f) _ i⟩
  . cases q
end
inductive Ty|int|bool|str|tuple|list|dict
noncomputable def Ty.name:Ty->String
 |.int=>"int"|.bool=>"bool"|.str=>"str"|.tuple=>"tuple"|.list=>"list"|.dict=>"dict"
noncomputable def lu:Ty->D->Bool
 |.int,.int _=>true|.int,.bl _=>true|.bool,.bl _=>true|.str,.str _=>true
 |.tuple,.tup _=>true|.list,.lst _=>true|.list,.ref _=>true|.dict,.dI=>true|.dict,.az _=>true
 |_,_=>false
noncomputable def HT:D->Bool
 |.fn _ _=>true|_=>false
noncomputable def Bn (T:Ty)(f:FE):FE:=λc g=>(f c g).bind λr=>if HT r.1=true then none else some (.bl (lu T r.1),r.2)
def baq {O:List (Addr×Obj)}{J:Ix}{g:G}{x:D}(u:Ty)(I:mn X O r H c)(G0:au X.kw H J g)(s:Rel X.kw H J x d)(C:HT x=false)(B:mI d T)(h:∀R,Q (.bool (lu u x)) { c with toks:=R }):
  wpAny (model X.prog X.w) X.A (call (.builtin "isinstance") [T,.type u.name]) Q X.xe c:=by
 cases x with
 |aA=>cases s;cases B;exact Qs PySem.W.kitx_none I.gO afO (b:=lu u .aA) (by cases u<;>rfl) (λz=>nomatch z) h|bl b=>cases s;cases B;exact Qs PySem.W.kitx_bool I.gO afO (b:=lu u (.bl b)) (by cases u<;>rfl) (λz=>nomatch z) h|int b=>cases s;obtain⟨t,rfl⟩:=B;exact Qs PySem.W.kitx_int I.gO afO (b:=lu u (.int b)) (by cases u<;>rfl) (λz=>nomatch z) h
 |str b=>cases s;obtain⟨t,rfl⟩:=B;exact Qs PySem.W.kitx_str I.gO afO (b:=lu u (.str b)) (by cases u<;>rfl) (λz=>nomatch z) h
 |tup E =>
  obtain⟨a,j,rfl,q,hr⟩:=s;cases B;obtain⟨v,_,⟨o,e,f,_⟩,_⟩:=I.tuple q.sq;exact Qs PySem.W.kitx_tuple I.gO ⟨o,e,f⟩ (b:=lu u (.tup E)) (by cases u<;>rfl) (λz=>nomatch z) h
 |lst E =>
  obtain⟨a,j,rfl,q,hr⟩:=s;cases B;obtain⟨v,_,⟨o,n,e,f,_⟩,_⟩:=I.list q.sq;exact Qs ahq I.gO ⟨o,e,f⟩ (b:=lu u (.lst E)) (by cases u<;>rfl) (λz=>nomatch z) h
 |ref n =>
  obtain⟨a,rfl,i⟩:=s;cases B;have l:n<g.length:=by rw[<- G0.len];exact(mT.mp i.1).1
  obtain⟨j,e,f⟩:=G0.at (nz l) i;obtain⟨v,_,⟨o,n,e,f,_⟩,_⟩:=I.list (dy.of e);exact Qs ahq I.gO ⟨o,e,f⟩ (b:=true&&lu u (.lst [])) (by cases u<;>rfl) (λz=>nomatch z) (by cases u<;>exact h)
 |dI =>
  obtain⟨a,rfl,i,_⟩:=s;cases B;obtain⟨_,_,j,_,p⟩:=(show dJ X.prog X.w H c.heap a (.dK []) from I.aW a _ i)
  obtain⟨o,M,Y,e,f,_⟩:=p;exact Qs ahr I.gO ⟨o,e,f.1⟩ (b:=lu u .dI) (by cases u<;>rfl) (λz=>nomatch z) h
 |az n =>
  obtain⟨a,rfl,i⟩:=s;cases B;have l:n<g.length:=by rw[<- G0.len];exact(mT.mp i.1).1
  obtain⟨M,j,U,e,_⟩:=G0.rQ (nz l) i;have f:=((show dJ X.prog X.w H c.heap a (dO a M U) from I.aW a _ e)).1;exact Qs ahr I.gO ⟨_,f,rfl⟩ (b:=lu u (.az n)) (by cases u<;>rfl) (λz=>nomatch z) h
 |fn y=>cases C
def N0 {C:FE}(T:Ty)(J:X.mg "isinstance" = none)(L:X.mg (vx T.name)=none)(M:DE X e C)(N:Gl X "isinstance")(K:Gl X (vx T.name))(E:ni [e,.Name (vx T.name) A] X.env=(false,eval e X.env)::ni [.Name (vx T.name) A] X.env):DE X (.Call (.Name "isinstance" j) [e,.Name (vx T.name) A] [] t) (Bn T C):=.of (by
 have l:L0 (vx T.name)=some (.type T.name):=by
   cases T
   . exact ah3
   . exact PyProof.Rows.boot_bool
   . exact PyProof.Rows.boot_str
   . exact ahA
   . exact PyProof.Rows.boot_list
   . exact PyProof.Rows.boot_dict
 have i:dM X (.builtin "isinstance") (λO H Q=>∃x B g d,O = [x,.ty T.name]/\au X.kw H B g/\Rel X.kw H B d x/\HT d=false/\Q (.bl (lu T d)) H):=by intro Z s R H O us Q I r q;obtain⟨x,B,g,d,rfl,G0,p,nf,q⟩:=q;obtain⟨u,w',rfl,f,rt⟩:=baj r;cases rt;exact baq T I G0 p nf f λtk=>⟨.bl _,H,I.tok _,rfl,q⟩
 refine PE.imp (wc i N J PyProof.Rows.boot_isinstance (ik M.un (ik (Jw (v:=.ty T.name) K L l rfl (by cases T<;>decide) (by cases T<;>decide)) lQ (by rfl)) E) (by decide) (by decide) E) λR H Q h=>?_;obtain⟨B,U,g,d,a,G0,o,h,j⟩:=h;obtain⟨⟨z,g1⟩,h1,h⟩:=bind_some h;dsimp only at h;split at h
 . cases h
 rename_i nf;cases h;exact tD.bind G0 o h1 λY b v y c S1 n=>⟨v,b,a,z,rfl,c,n,by simpa using nf,j Y b _ y c (by simp[Rel])⟩)
end
variable {A:List D}{a:G}{d:Sg}{h:Fn}{v:D}{C:FE}{Y:FT}
section
open PyProof.Rows
open Sem (wp)
open Builtin
variable {Z:TO}
def bas (l b:Addr)(y r:Array Value)(n o:Nat)(u p:Option Addr)(v q:Array (Option Value))(x:y.isEmpty=true):
  Meets (um.«tuple.__add__» ⟨[.ref l,.ref b],[]⟩) (λ_ R s=>s.heap.get? l=some { cls:=.type "tuple",dict:=u,data:=.seq y n,slots:=v }/\s.heap.get? b=some { cls:=.type "tuple",dict:=p,data:=.seq r o,slots:=q }/\R (.ok (.ret (FX b))) { s with heap:=s.heap,toks:=s.toks }):=
 .of_wp λprog w A R s h=>by obtain⟨e,g,d,i,os⟩:=s;obtain⟨a,c,h⟩:=h;have B:=adn;have C:=acP;have j:=aet;have E:=af9;have f:=af_;wp_walk using PN a,PN c;exact⟨_,rfl,h⟩
def qJ:fillsNumberSlot (.type "tuple") "mul" = pure false :=
 afP (id:="tuple.__mul__") (r:=some (.builtin "tuple.__rmul__")) F.slot_tuple_mul.lookup (by decide +kernel) F.slot_tuple_rmul.lookup (by decide +kernel)
def wM:agK (.type "tuple")=pure (some (.builtin "tuple.__mul__")):=by unfold agK;rw[aeD (T:="tuple") (name:="__mul__") (id:="tuple.__mul__") F.slot_tuple_mul.lookup (by decide +kernel),aeD (T:="tuple") (name:="__rmul__") (id:="tuple.__rmul__") F.slot_tuple_rmul.lookup (by decide +kernel)];rfl
def vh (a:Int)(t:Tok)(l:Addr)(p:Array Value)(n:Nat)(f:Option Addr)(i:Array (Option Value)):
  Meets (um.«int.__mul__» ⟨[.int a t,.ref l],[]⟩) (λ_ R s=>s.heap.get? l=some { cls:=.type "tuple",dict:=f,data:=.seq p n,slots:=i }/\R (.ok (.ret agL)) s):=
 .of_wp λprog w A R s h=>by obtain⟨b,g,d,e,os⟩:=s;obtain⟨c,h⟩:=h;wp_walk;exact⟨_,rfl,h⟩
def Bo (l:Addr)(v:Array Value)(n:Nat)(f:Option Addr)(j:Array (Option Value))(x:Int)(u:Tok)(i:¬(decide (x < -(2 ^ 63))||decide (x>=2 ^ 63))=true)(p:¬(v.isEmpty||x == 1)=true)(o:¬(decide (x<=0)||v.isEmpty)=true)
  (e:¬(v.size:Int)*x>(2 ^ 63-1) / 8) (r:¬agl ((v.size:Int)*x)=true) (q:((nN x.toNat v).foldl (· ++ ·) #[]).size<=m6):
  Meets (um.«tuple.__mul__» ⟨[.ref l,.int x u],[]⟩) (λ_ R s=>s.heap.get? l=some { cls:=.type "tuple",dict:=f,data:=.seq v n,slots:=j }/\R (.ok (.ret (FX s.heap.objs.size))) { s with heap:=s.heap.push { cls:=wo "tuple",data:=Data.seq ((nN x.toNat v).foldl (· ++ ·) #[]) },toks:=s.toks }):=
 .of_wp λprog w A R s h=>by
  obtain⟨b,g,d,c,os⟩:=s;obtain⟨a,h⟩:=h;have y:=adn;have B:=acP
  wp_walk using PN a
  refine ad2 (decide_eq_false i) ?_
  wp_walk using PN a
  refine ad2 (decide_eq_false e) ?_
  wp_walk using PN a
  exact⟨_,rfl,h⟩
def yI (l:Addr)(p:Array Value)(n:Nat)(e:Option Addr)(i:Array (Option Value))(x:Int)(u:Tok)(f:¬(decide (x < -(2 ^ 63))||decide (x>=2 ^ 63))=true)(j:(p.isEmpty||x == 1)=true):
  Meets (um.«tuple.__mul__» ⟨[.ref l,.int x u],[]⟩) (λ_ R s=>s.heap.get? l=some { cls:=.type "tuple",dict:=e,data:=.seq p n,slots:=i }/\R (.ok (.ret (FX l))) { s with heap:=s.heap,toks:=s.toks }):=
 .of_wp λprog w A R s h=>by
  obtain⟨b,g,d,c,os⟩:=s;obtain⟨a,h⟩:=h;have q:=adn;have r:=acP
  wp_walk using PN a
  refine ad2 (decide_eq_false f) ?_
  wp_walk using PN a
  exact⟨_,rfl,h⟩
def yJ (l:Addr)(p:Array Value)(n:Nat)(e:Option Addr)(i:Array (Option Value))(x:Int)(u:Tok)(f:¬(decide (x < -(2 ^ 63))||decide (x>=2 ^ 63))=true)(o:¬(p.isEmpty||x == 1)=true)(j:(decide (x<=0)||p.isEmpty)=true):
  Meets (um.«tuple.__mul__» ⟨[.ref l,.int x u],[]⟩) (λ_ R s=>s.heap.get? l=some { cls:=.type "tuple",dict:=e,data:=.seq p n,slots:=i }/\R (.ok (.ret (FX s.heap.objs.size))) { s with heap:=s.heap.push { cls:=wo "tuple",data:=Data.seq #[] },toks:=s.toks }):=
 .of_wp λprog w A R s h=>by
  obtain⟨b,g,d,c,os⟩:=s;obtain⟨a,h⟩:=h;have q:=adn;have r:=acP
  wp_walk using PN a
  refine ad2 (decide_eq_false f) ?_
  wp_walk using PN a
  exact⟨_,rfl,h⟩
noncomputable def RP (K:KW):R2:=λx y H Q=>∃a k c,x = .int k/\y = .ref a/\fz K H a c /\ -(2 ^ 63)<=k/\k<2 ^ 63/\c.length*k.toNat<=16777216 /\
 ((c = []\/k=1)->Q (.ref a) H)/\(c ≠ []->k<=0->∀p,H p=none->Q (.ref p) (upd H p (.tup [])))/\(c ≠ []->2<=k->∀p,H p=none->Q (.ref p) (upd H p (.tup (nN k.toNat c).flatten)))
def Ki:bJ X (ta .Mult) (RP X.kw):=by
 intro cv s σ H x y v u Q I O R h;obtain⟨a,k,B,rfl,rfl,hq,h1,h2,o,Y,Z,q2⟩:=h;cases R;obtain⟨t,rfl⟩:=O;obtain⟨c,r,ht,Zz⟩:=I.tuple hq;have E:=r.length;obtain⟨⟨cls,i,data,f⟩,d,p,n,hd⟩:=id ht;simp only at p hd;subst p hd;have j:¬(decide (k < -(2 ^ 63))||decide (k>=2 ^ 63))=true:=by rw[yN,decide_eq_true_eq,decide_eq_true_eq];omega
 refine PySem.lm_binaryOp_repeat_right (T:="tuple") (U:="int") (by decide) (λs'=>afL s' k t) ⟨_,d,rfl⟩ F.fills_int_mul qJ F.slot_int_mul PySem.lm_noRepeat_int wM F.slot_int_index.lookup
   (SJ F.slot_int_mul (afL s k t) F.entry_int_mul (F.args_int_mul_2 _ _) (vh k t a c.toArray n i f) ⟨d,rfl,⟨_,d,rfl⟩,?_⟩)
 by_cases g:B = []\/k=1
 . refine SJ F.slot_tuple_mul ⟨_,d,rfl⟩ F.entry_tuple_mul (F.args_tuple_mul_2 _ _) (yI a c.toArray n i f k t j ?_) ⟨d,.ref a,H,I,rfl,Y g⟩
   rcases g with g|g
   . subst g
     cases r;simp
   . subst g;simp
 . have l:B ≠ []:=λe=>g (.inl e)
   have Dx:k≠1:=λe=>g (.inr e);have z:c ≠ []:=λe=>l (by subst e;cases r;rfl);have q:¬(c.toArray.isEmpty||k == 1)=true:=by simp[z,Dx]
   have fresh:H s.heap.objs.size=none:=I.aW.fresh (nc _);by_cases C:k<=0
   . refine SJ F.slot_tuple_mul ⟨_,d,rfl⟩ F.entry_tuple_mul (F.args_tuple_mul_2 _ _) (yJ a c.toArray n i f k t j q (by simp[C])) ⟨d,?_⟩
     refine⟨.ref _,_,I.laid (t':=s.toks) (λb u e=>nG _ e) (nc _) ?_,rfl,Z l C _ fresh⟩;exact⟨tc _,[],.nil,⟨_,p9 _ rfl,rfl,⟨_,rfl⟩,rfl⟩⟩
   . have J:agH (λx1 x2=>x1++x2) #[] (nN k.toNat c.toArray)=(nN k.toNat c).flatten.toArray:=by
       have:=bam c k.toNat [];rw[Q5]at this;exact this
     have hs:m6=16777216:=IV;have jG:(c.length:Int)*k<=16777216:=by have M:((B.length*k.toNat:Nat):Int)<=16777216:=Int.ofNat_le.mpr o;rw[Int.natCast_mul,ZU (by omega),E]at M;exact M
     refine SJ F.slot_tuple_mul ⟨_,d,rfl⟩ F.entry_tuple_mul (F.args_tuple_mul_2 _ _) (Bo a c.toArray n i f k t j q (by simp[C,z]) (by rw[om];omega) ?_ ?_) ⟨d,?_⟩
     . rw[om]
       unfold agl;simp;omega
     . rw[J,om,len_rep,<- E,WM,hs];exact o
     . rw[J]
       refine⟨.ref _,_,I.laid (t':=s.toks) (λb u e=>nG _ e) (nc _) ?_,rfl,q2 l (by omega) _ fresh⟩;exact⟨by rw[len_rep,WM,hs];exact o,_,r.rep k.toNat,⟨_,p9 _ rfl,rfl,⟨_,rfl⟩,rfl⟩⟩
theorem ai.rep {K H ι}{c:List D}{g:List V}(r:ai K H ι c g):∀k:Nat,ai K H ι (nN k c).flatten (nN k g).flatten
 | 0=>by simp[ai]|k+1=>by rw[UQ,UQ,PK,PK];exact ai.append r (ai.rep r k)
noncomputable def cK (b a:D)(g:G):Option (D×G):=match b,a with
 |.int i,.int j=>if cR i j=true then some (.int (i*j),g)else none|.int k,.tup c=>if(fA k&&ax (c.length*k.toNat))=true then some (.tup (nN k.toNat c).flatten,g)else none|_,_=>none
def wO:bJ X (ta .Mult) (dD X.kw cK):=by
 intro J s M H x y v u Q I o O q;obtain⟨E,g,Z,d2,d,U,G0,f,h,q,p⟩:=q;unfold cK at q;split at q
 . split at q
   . rename_i i j z
     exact Kc J s M H x y v u Q I o O ⟨E,g,.int i,.int j,d,U,G0,f,h,by simp only[cu];rw[if_pos z];exact q,p⟩
   . cases q
 . split at q
   . rename_i k B z
     simp only[mS]at z;have z1:=fA.and z.1;have Y:=ax.le z.2;cases q;simp only[Rel]at f h;obtain⟨a,n,rfl,r,e⟩:=h;subst f;have R:=e.length;have new:∀{zs:List D} {C:List V},ai X.kw H E zs C->zs=(nN k.toNat B).flatten->∀q,H q=none->Q (.ref q) (upd H q (.tup C)):=fun {zs C} rz ez q b=>by subst ez;refine p _ _ _ (Ext.lay b) (G0.lay b) ?_;simp only[Rel];exact⟨q,C,rfl,.inl ⟨.inl aR,G0.fresh b⟩,ai.ext (Ext.lay b) _ rz⟩
     refine Ki J s M H _ _ v u Q I o O ⟨a,k,n,rfl,rfl,r.sq,(by omega),(by omega),by rw[<- R];exact Y,λc=>?_,λhx hk=>?_,λhx hk=>?_⟩
     . refine p H E _ Ext.refl G0 ?_
       simp only[Rel];refine⟨a,n,rfl,r,?_⟩;rcases c with c|c
       . subst c
         have:B = []:=adz (by simpa using R);subst this;have l:(nN k.toNat ([]:List D)).flatten = []:=by simp
         rw[l];exact e
       . subst c
         have l:(nN (1:Int).toNat B).flatten=B:=by simp
         rw[l];exact e
     . refine new (zs:=[]) (by simp[ai]) ?_
       have:k.toNat=0:=by omega
       rw[this];simp
     . exact new (e.rep k.toNat) rfl
   . cases q
 . cases q
def Gm:bJ X (ta .Add) (λx y H Q=>∃a b B,x = .ref a/\y = .ref b/\fz X.kw H a []/\fz X.kw H b B/\Q (.ref b) H):=by
 intro O s R H x y v u Q I C E h;obtain⟨a,b,B,rfl,rfl,z,hb,q⟩:=h;cases C;cases E;obtain⟨o,r,p1,_⟩:=I.tuple z;obtain⟨i,U,J,_⟩:=I.tuple hb;obtain⟨⟨cls,p,data,l⟩,f,c,n,hd⟩:=id p1;obtain⟨⟨Y,j,data2,M⟩,e,d,n2,g⟩:=id J;simp only at c hd d g;subst c hd d g;exact afX ⟨_,f,rfl⟩ ⟨_,e,rfl⟩ afY agP aeq aem (ad5 _ _)
  (bas a b o.toArray i.toArray n n2 p j l M (by cases r;simp)) ⟨f,e,.ref b,H,I,rfl,q⟩
def zB:bJ X (ta .Add) (λx y H Q=>∃a b B C,x = .ref a/\y = .ref b/\dy X.kw H a B/\dy X.kw H b C/\B.length+C.length<=m6 /\ ∀p,H p=none->Q (.ref p) (upd H p (.lst (B++C)))):=by
 intro Y s Z H x y v u Q I E J h;obtain⟨a,b,B,C,rfl,rfl,M,hb,hz,q⟩:=h;cases E;cases J;obtain⟨d,l,p1,_⟩:=I.list M;obtain⟨c,z,O,_⟩:=I.list hb;obtain⟨⟨cls,dd,data,sl⟩,n,ho,f,i,hd⟩:=id p1;obtain⟨⟨FR,uz,data2,R⟩,n2,o,j,r,g⟩:=id O;simp only at f hd j g i r;subst f hd j g i r;have e:d.toArray++c.toArray=(d++c).toArray:=by simp
 have U:d.length+c.length<=m6:=by rw[<- l.length,<- z.length];exact hz
 refine afX ⟨_,ho,rfl⟩ ⟨_,o,rfl⟩ noFill_list_add seq_list_add PySem.F.slot_list_add PySem.F.entry_list_add (PySem.F.args_list_add_2 _ _) (list_addW a b d.toArray c.toArray n n2 none none sl R (by simpa using U)) ⟨ho,o,?_⟩;rw[e];exact⟨.ref _,_,I.VU (t':=s.toks) (l.append z) (by rw[nv];exact hz),rfl,q _ I.fresh⟩
noncomputable def fg (d:D)(g:G):Option (List D):=match d with
 |.lst c=>some c|.ref n=>g[n]?|_=>none
def ib {K H ι g d v xs}(G0:au K H ι g)(r:Rel K H ι d v)(h:fg d g=some xs):∃a p,v = .ref a/\dy K H a p/\ai K H ι xs p:=by
 cases d with
 |lst q =>
  cases h;obtain⟨a,p,rfl,e,i⟩:=r;exact⟨a,p,rfl,e.sq,i⟩
 |ref n =>
  obtain⟨a,rfl,b⟩:=r;obtain⟨p,c,f⟩:=G0.at h b;exact⟨a,p,rfl,.of c,f⟩
 |_=>cases h
noncomputable def bf (b a:D)(g:G):Option (D×G):=match b,a with
 |.int i,.int j=>some (.int (i+j),g)|.tup c,.tup h=>if ax (c.length+h.length)=true then some (.tup (c++h),g)else none|.str i,.str j=>if ax (i.length+j.length)=true then some (.str (i++j),g)else none
 |b,a=>match fg b g,fg a g with
  |some c,some h=>if ax (c.length+h.length)=true then some (.lst (c++h),g)else none|_,_=>none
def N1:bJ X (ta .Add) (dD X.kw bf):=by
 intro B s C H x y v u Q I r E q;obtain⟨O,g,d1,d2,d,Z,G0,l,n,q,p⟩:=q;unfold bf at q;split at q
 . rename_i i j
   exact Kb B s C H x y v u Q I r E ⟨O,g,.int i,.int j,d,Z,G0,l,n,q,p⟩
 . split at q
   . rename_i U Y z
     cases q;simp only[Rel]at l n;obtain⟨a,o,rfl,hq,h⟩:=l;obtain⟨b,J,rfl,M,f⟩:=n;by_cases hx:o = []
     . subst hx
       have:U = []:=adz (by simpa using h.length);subst this;refine Gm B s C H _ _ v u Q I r E ⟨a,b,J,rfl,rfl,hq.sq,M.sq,p H O _ Ext.refl G0 ?_⟩;simp only[Rel,Q5];exact⟨b,J,rfl,M,f⟩
     . refine JN B s C H _ _ v u Q I r E ⟨a,b,o,J,rfl,rfl,hq.sq,M.sq,hx,by rw[<- h.length,<- f.length];exact ax.le z,λe=>?_,λe R c=>?_⟩
       . subst e
         have:Y = []:=adz (by simpa using f.length);subst this;refine p H O _ Ext.refl G0 ?_;simp only[Rel,wz];exact⟨a,o,rfl,hq,h⟩
       . refine p _ _ _ (Ext.lay c) (G0.lay c) ?_
         simp only[Rel];exact⟨R,_,rfl,.inl ⟨.inl aR,G0.fresh c⟩,ai.ext (Ext.lay c) _ (ai.append h f)⟩
   . cases q
 . split at q
   . rename_i x1 y1 z
     cases q;simp only[Rel]at l n;subst l n;exact A4 B s C H _ _ v u Q I r E ⟨x1,y1,rfl,rfl,ax.le z,p H O _ Ext.refl G0 (by simp[Rel])⟩
   . cases q
 . split at q
   . rename_i U Y e1 e2
     split at q
     . rename_i z
       cases q;obtain⟨a,o,rfl,hq,h⟩:=ib G0 l e1;obtain⟨b,J,rfl,M,f⟩:=ib G0 n e2;refine zB B s C H _ _ v u Q I r E ⟨a,b,o,J,rfl,rfl,hq,M,by rw[<- h.length,<- f.length];exact ax.le z,λR c=>?_⟩;refine p _ _ _ (Ext.lay c) (G0.lay c) ?_;simp only[Rel];exact⟨R,_,rfl,.inl ⟨.inl aR,G0.fresh c,G0.iK c⟩,ai.ext (Ext.lay c) _ (ai.append h f)⟩
     . cases q
   . cases q
noncomputable abbrev FO:=Sg->G->Option (Option Int×G)
inductive T4 (K:KW)(f:FO)(σ:mO)(H:Hp)(Q:(Option Int->Hp->Prop)):Prop
 |mk (ι:Ix) (σd:Sg) (g:G) (o:Option Int) (g':G) (h0:au K H ι g) (h1:bC K H ι σd σ) (h2:f σd g=some (o,g')) (h3:rR K H ι g' (Q o)):T4 K f σ H Q
structure DO (X:Cx)(e:Option Expr)(f:FO):Prop where of ::
 un:PO X e (T4 X.kw f)
def PO.imp {e:Option Expr}{g:TO}(h:PO X e Z)(i:∀c H Q,g c H Q->Z c H Q):PO X e g:=λn s c H Q I q=>h n s c H Q I (i c H Q q)
noncomputable def fE:FO:=λ_ g=>some (none,g)
noncomputable def bL (f:FE):FO:=λc g=>(f c g).bind λr=>match r.1 with|.int i=>some (some i,r.2)|_=>none
def Kj:DO X none fE:=.of (PO.imp JL λn H Q h=>by obtain⟨i,a,g,o,b,G0,c,h,p⟩:=h;cases h;exact p H i Ext.refl G0)
def zC (h:DE X e C):DO X (some e) (bL C):=.of (PO.imp (JM h.un) λx H Q h=>by
 obtain⟨y,r,g,o,q,G0,b,h,p⟩:=h;obtain⟨⟨d,B⟩,n,h⟩:=bind_some h;cases d with
 |int i =>
  cases h;exact tD.bind G0 b n λu c v j l s a=>⟨i,by simpa[Rel]using a,p u c j l⟩
 |_=>cases h)
noncomputable def wu (c:List D)(a b:Option Int):List D:=(c.drop (bo c.length 0 a)).take (bo c.length c.length b-bo c.length 0 a)
noncomputable def l_ (n:Nat)(b a:Option Int):Bool:=decide (bo n 0 b=0)&&decide (bo n n a=n)
noncomputable def N2 (d:D)(b a:Option Int)(g:G):Option (D×G):=match d with
 |.tup c=>if l_ c.length b a=true then none else some (.tup (wu c b a),g)|.lst c=>some (.lst (wu c b a),g)|.ref n=>match g[n]? with|some c=>some (.lst (wu c b a),g)|none=>none
 |_=>none
def ai.N3 {K H ι}(r:ai K H ι A U)(b a:Option Int):ai K H ι (wu A b a) (oo U b a):=by unfold wu oo;rw[<- r.length];exact ai.take _ (ai.drop _ r)
noncomputable def N4 (K:KW):V->Option Int->Option Int->Hp->VK->Prop:=λx c a H Q=>MO K x c a H Q\/MY K x c a H Q
def Kk:qf X (N4 X.kw):=by
 intro g s n H x v b c p i e Q I a f d pu h;rcases h with h|h
 . exact MP g s n H x v b c p i e Q I a f d pu h
 . exact JP g s n H x v b c p i e Q I a f d pu h
def big (I:mn X b r H c):M7<c.heap.objs.size:=by obtain⟨o,g,h,e,_⟩:=I.mod.glob;have a:=nI (I.bk _ _ e);exact af0 (by decide) a
def Gn:DE X (.Dict [] [] j) (fC .dI):=.of (by
 intro i s n H Q I h;obtain⟨q,f,g,d,a,G0,c,h,p⟩:=h;cases h;have hf:H s.heap.objs.size=none:=I.aW.fresh (nc _);refine wpAny_Dict_empty ⟨.ref s.heap.objs.size,upd H s.heap.objs.size (.dK []),I.laid (t':=s.toks) (λb u e=>nG _ e) (nc _) ?_,rfl,p _ _ _ (Ext.lay hf) (G0.lay hf) ?_⟩
 . exact⟨tc _,beq_eq_false_iff_ne.mpr (n7 (ro (big I))),[],.nil,Heap.DictOf.new _⟩
 . simp only[Rel]
   exact⟨_,rfl,aR,G0.fresh hf⟩)
end
section
open PyProof.Rows
noncomputable def oLt:=rY λi j=>decide (i<j)
noncomputable def oLe:=rY λi j=>decide (i<=j)
noncomputable def ma:=rY λi j=>decide (j<i)
noncomputable def zD:=rY λi j=>decide (j<=i)
noncomputable def tJ (S:Scope)(a N:List Str)(fr:List (Option Nat))(c:Scope):Bool :=
 decide (c.kind = .function)&&c.names.all (λy=>!decide (y.2 = .cell)||decide (c.names.lookup y.1=some .cell))&&c.names.all (λy=>!decide (y.2 = .local)||decide (c.names.lookup y.1=some .local)) &&
 c.names.all (λy=>!decide (y.2 = .free)||(decide (c.names.lookup y.1=some .free)&&(decide (S.names.lookup y.1=some .cell)||decide (S.names.lookup y.1=some .free)))) &&
 decide (fr.length=N.length)&&(r6 fr.length).all (λj=>match fr[j]? with
  |some (some i)=>match N[j]? with
   |some x=>decide (a[i]? = some x)&&decide (c.names.lookup x=some .free)|none=>false
  |_=>true)
def Dz {S:Scope}{q:List Str}(s:X.env.scope=S)(r:X.N=q)(h:tJ S q K u J=true):dB X K u J:=by
 unfold tJ at h;simp only[mS,decide_eq_true_eq,IU,yN,yA,decide_eq_false_iff_not]at h;obtain⟨⟨⟨⟨⟨d,o⟩,c⟩,f⟩,n⟩,p⟩:=h;refine⟨d,λy a e=>?_,λy a e=>?_,λy a e=>?_,n,λj i hf=>?_⟩
 . rcases o y a with z|z
   . exact absurd e z
   . exact z
 . rcases c y a with z|z
   . exact absurd e z
   . exact z
 . rcases f y a with z|z
   . exact absurd e z
   . refine⟨z.1,?_⟩
     show X.env.scope.names.lookup y.1=_\/X.env.scope.names.lookup y.1=_;rw[s];exact z.2
 . have b:j∈r6 u.length:=aed.mpr (mT.mp hf).1
   have:=p j b;rw[hf]at this;dsimp only at this;split at this
   . rename_i x l
     simp only[mS,decide_eq_true_eq]at this;exact⟨x,l,by rw[r];exact this.1,this.2⟩
   . cases this
noncomputable def dg (f:FE):FI:=λh g=>(f h g).bind λr=>match r.1 with|.tup c=>some (c,r.2)|.lst c=>some (c,r.2)|_=>none
def wR (n:DE X y C):DI X e y (dg C):=.of (by
 intro q s r H R I h;obtain⟨u,b,g,ds,a,G0,v,h,p⟩:=h;obtain⟨⟨i,B⟩,f,d⟩:=bind_some h;cases i with
 |tup x =>
  have c:vz C b g=some (ds,a):=by unfold vz;rw[f];exact d
  exact(ND n).un q s r H R I ⟨u,b,g,ds,a,G0,v,c,p⟩
 |lst x =>
  have c:vA C b g=some (ds,a):=by unfold vA;rw[f];exact d
  exact(NF n).un q s r H R I ⟨u,b,g,ds,a,G0,v,c,p⟩
 |_=>cases d)
end
section
variable {m:List D->G->Option (D×G)}{b T:FS}{X:FE}{t:FG}{U:FA}{j:Int}{R:FT}{Q:ql}{O:FI}{g:G}
@[simp] def Bp {σ}:fC σ d g=some (σ,g):=rfl
@[simp] def Kl:aa n d g=(match d[n]? with|some (some c)=>some (c,g)|_=>none):=rfl
@[simp] def ZA {o:D->D->G->Option (D×G)}:ag o C X d g=(C d g).bind λr=>(X d r.2).bind λq=>o r.1 q.1 q.2:=rfl
@[simp] def ZC {o:D->G->Option (D×G)}:rS o C d g=(C d g).bind λr=>o r.1 r.2:=rfl
@[simp] def ZE:fL (some (.bl Z,g))=some (Z,g):=rfl
@[simp] def cD:ay C d g=fL (C d g):=rfl
@[simp] def Km:ia C d g=(C d g).bind λr=>(jQ r.1 r.2).map λb=>(b,r.2):=rfl
@[simp] def T5:jQ (.bl Z) g=some Z:=rfl
@[simp] def RQ:jQ (.int i) g=some (i != 0):=rfl
@[simp] def tK:iM Y R d g=(Y d g).bind λr=>if r.1=true then R d r.2 else some (false,r.2):=rfl
@[simp] def N5:wB Y R d g=(Y d g).bind λr=>if r.1=true then some (true,r.2)else R d r.2:=rfl
@[simp] def Yi:Bf Y d g=(Y d g).bind λr=>some (!r.1,r.2):=rfl
@[simp] def Wj:jy C X d g=(fL (C d g)).bind λr=>if r.1=true then X d r.2 else some (.bl false,r.2):=rfl
@[simp] def Yj:F4 C X d g=(fL (C d g)).bind λr=>if r.1=true then some (.bl true,r.2)else X d r.2:=rfl
@[simp] def Kn:tF Y C X d g=(Y d g).bind λr=>if r.1=true then C d r.2 else X d r.2:=rfl
@[simp] def cy:af d g=some ([],g):=rfl
@[simp] def bX:ae C U d g=(C d g).bind λr=>(U d r.2).bind λq=>some (r.1::q.1,q.2):=rfl
@[simp] def me:aJ m U d g=(U d g).bind λr=>m r.1 r.2:=rfl
def Ko:ax n=decide (n<=16777216):=rfl
@[simp] def RR (h:n<=16777216):ax n=true:=decide_eq_true h
@[simp] def T6:aB A g=if ax A.length=true then some (.tup A,g)else none:=rfl
@[simp] def T7:dP A g=if ax A.length=true then some (.lst A,g)else none:=rfl
@[simp] def T9:mkRef A g=if ax A.length=true then some (.ref g.length,g ++ [A])else none:=rfl
@[simp] def Wk:a_ d g=some (.nx,d,g):=rfl
@[simp] def pF:aw b T d g=(b d g).bind λr=>match r.1 with|.nx=>T r.2.1 r.2.2|_=>some r:=rfl
@[simp] def zE:aP C d g=(C d g).bind λr=>some (.rt r.1,d,r.2):=rfl
@[simp] def DB:cA Y b T d g=(Y d g).bind λr=>if r.1=true then b d r.2 else T d r.2:=rfl
@[simp] def Wn:dw C d g=(C d g).bind λr=>some (.nx,d,r.2):=rfl
@[simp] def kh:aF C t d g=(C d g).bind λr=>(t r.1 d r.2).bind λq=>some (.nx,q.1,q.2):=rfl
@[simp] def abV:gN n v d g=some (d.set n (some v),g):=rfl
@[simp] def Wo:eZ [] d g=some (d,g):=rfl
@[simp] def T_:aY t Q (v::A) d g=(t v d g).bind λq=>Q A q.1 q.2:=rfl
@[simp] def abW:gT n Q (.tup A) d g=if A.length=n then Q A d g else none:=rfl
@[simp] def ic:aj h U d g=(U d g).bind λr=>h r.1 r.2:=rfl
@[simp] def Yk {T:Ty}:Bn T C d g=(C d g).bind λr=>if HT r.1=true then none else some (.bl (lu T r.1),r.2):=rfl
@[simp] def iq:dF O t b d g=(O d g).bind λr=>forL t b r.1 d r.2:=rfl
@[simp] def Yl:dg C d g=(C d g).bind λr=>match r.1 with|.tup c=>some (c,r.2)|.lst c=>some (c,r.2)|_=>none:=rfl
@[simp] def Wq:vz C d g=(C d g).bind λr=>match r.1 with|.tup c=>some (c,r.2)|_=>none:=rfl
@[simp] def Wr:vA C d g=(C d g).bind λr=>match r.1 with|.lst c=>some (c,r.2)|_=>none:=rfl
@[simp] def jh:bH m O u t Y C d g=(O d g).bind λr=>if ax r.1.length=true then(cZ t Y C r.1 (bZ u d) r.2).bind λq=>m q.1 q.2 else none:=rfl
@[simp] def Ym:bA A g=some (.lst A,g):=rfl
@[simp] def Wt:cN d g=some (true,g):=rfl
@[simp] def ZF {c:Int->Int->Bool}{f:Int->Int->Int}:cu c f (.int i) (.int j) g=if c i j=true then some (.int (f i j),g)else none:=rfl
@[simp] def Wu:eE i j=true:=rfl
@[simp] def ZG:oLt (.int i) (.int j) g=some (.bl (decide (i<j)),g):=rfl
@[simp] def ZH:oLe (.int i) (.int j) g=some (.bl (decide (i<=j)),g):=rfl
@[simp] def ZI:ma (.int i) (.int j) g=some (.bl (decide (j<i)),g):=rfl
@[simp] def ZJ:zD (.int i) (.int j) g=some (.bl (decide (j<=i)),g):=rfl
@[simp] def Yn:mZ (.int i) g=some (.int (-i),g):=rfl
@[simp] def Yo:bf (.int i) (.int j) g=some (.int (i+j),g):=rfl
@[simp] def Yp:cK (.int i) (.int j) g=if cR i j=true then some (.int (i*j),g)else none:=rfl
@[simp] def ZK:gS v (.int i) g=(bD v g).bind λc=>(eI c i).map λe=>(e,g):=rfl
@[simp] def Yq:bD (.tup A) g=some A:=rfl
@[simp] def Yr:bD (.lst A) g=some A:=rfl
@[simp] def Ys:bD (.ref n) g=g[n]?:=rfl
@[simp] def Yt:cg [v] g=(bD v g).map λc=>(.int c.length,g):=rfl
@[simp] def Yu:lK [.int i,.int j] g=some (.int (if j<i then j else i),g):=rfl
@[simp] def Ww:jR [.bl Z] g=some (.int (if Z then 1 else 0),g):=rfl
@[simp] def Wx:jR [.int i] g=some (.int i,g):=rfl
@[simp] def zF:gL [v] g=(bD v g).bind λc=>if ax c.length=true then some (.tup c,g)else none:=rfl
@[simp] def Yv:oEq (.int i) (.int j) g=some (.bl (i == j),g):=rfl
@[simp] def Yw {j:Bool}:oEq (.bl Z) (.bl j) g=some (.bl (Z == j),g):=rfl
@[simp] def Yx {j:Str}:oEq (.str x) (.str j) g=some (.bl (x == j),g):=rfl
@[simp] def Yy:Gk v .aA g=some (.bl (m7 v),g):=rfl
@[simp] def Wy:Bm v .aA g=some (.bl (!m7 v),g):=rfl
def bS {σ':Sg}(i:A.length=p)(h:b (A.map some++nN (n-p) none) g=some (.rt v,σ',a))(f:a.length=g.length):ak false n p b A g=some (v,a):=by
 unfold ak;rw[if_pos i,h];have e:HH g.length v a=some (v,a):=by unfold HH;rw[if_pos f]
 simpa using e
def zG {σ':Sg}(e:A.length=p)(h:b (A.map some++nN (n-p) none) g=some (.rt v,σ',a)):ak true n p b A g=some (v,a):=by unfold ak;rw[if_pos e,h];rfl
theorem fF {t:FG}{c:FT}{e:FE}{h:D->D}(I:Sg->Prop):∀(ds:List D) (p:Sg) (g:G),I p->(∀d∈ds,∀p,I p->∃n,t d p g=some (n,g)/\c n g=some (true,g)/\e n g=some (h d,g)/\I n)->cZ t c e ds p g=some (ds.map h,g)
 | [],_,_,_,_=>rfl|d::ds,p,g,r,q=>by obtain⟨n,b,j,a,f⟩:=q d sv p r;simp only[cZ,b,j,a,m5,if_true,fF I ds n g f λx i=>q x (p8 _ i),yp]
@[simp] def Wz {a:Type}{c:List (Option a)}:bZ [] c = []:=rfl
@[simp] def Ua {a:Type}{c:List (Option a)}:bZ (none::u) c=none::bZ u c:=rfl
@[simp] def Ub {a:Type}{c:List (Option a)}:bZ (some n::u) c=(c[n]?).join::bZ u c:=rfl
end
section
open PyProof.Rows
noncomputable def Bq (c:Bool):D->Bool
 |.bl b=>b == c|_=>false
noncomputable def isLit (a b:D):Option Bool:=match b with
 |.aA=>some (m7 a)|.bl c=>some (Bq c a)|_=>none
noncomputable def qp (c a:D)(g:G):Option (D×G):=(isLit c a).map λb=>(.bl b,g)
noncomputable def vC (c a:D)(g:G):Option (D×G):=(isLit c a).map λb=>(.bl (!b),g)
def DC {K H ι d v u c}(r:Rel K H ι d v)(f:mI v u):(u == afI c)=Bq c d/\PySem.plainIs u (.bool c)=true:=by
 cases d with
 |aA=>cases r;cases f;exact⟨rfl,rfl⟩|bl b=>cases r;cases f;exact⟨by cases b<;>cases c<;>rfl,rfl⟩|int _=>cases r;obtain⟨t,rfl⟩:=f;exact⟨rfl,rfl⟩
 |str _=>cases r;obtain⟨t,rfl⟩:=f;exact⟨rfl,rfl⟩
 |tup _=>obtain⟨a,e,rfl,_⟩:=r;cases f;exact⟨rfl,rfl⟩
 |lst _=>obtain⟨a,e,rfl,_⟩:=r;cases f;exact⟨rfl,rfl⟩
 |dI=>obtain⟨a,rfl,_⟩:=r;cases f;exact⟨rfl,rfl⟩
 |ref _=>obtain⟨a,rfl,_⟩:=r;cases f;exact⟨rfl,rfl⟩
 |az _=>obtain⟨a,rfl,_⟩:=r;cases f;exact⟨rfl,rfl⟩
 |fn _=>obtain⟨a,_,rfl,_⟩:=r;cases f;exact⟨rfl,rfl⟩
def RS:bJ X (u3 .Is) (dD X.kw qp):=by
 intro r s B H x y v u Q I b h q;obtain⟨n,g,l,j,d,i,G0,a,f,q,p⟩:=q;cases j with
 |aA=>exact NV r s B H x y v u Q I b h ⟨n,g,l,.aA,d,i,G0,a,f,q,p⟩
 |bl c =>
  cases f;cases h;simp only[qp,isLit,E6]at q;cases q;obtain⟨e,z⟩:=DC (c:=c) a b;refine wpAny_is_plain z ?_;rw[e];exact⟨.bl _,H,I,rfl,p H n _ Ext.refl G0 (by simp[Rel])⟩
 |_=>cases q
def Kp:bJ X (u3 .IsNot) (dD X.kw vC):=by
 intro r s B H x y v u Q I b h q;obtain⟨n,g,l,j,d,i,G0,a,f,q,p⟩:=q;cases j with
 |aA=>exact Kf r s B H x y v u Q I b h ⟨n,g,l,.aA,d,i,G0,a,f,q,p⟩
 |bl c =>
  cases f;cases h;simp only[vC,isLit,E6]at q;cases q;obtain⟨e,z⟩:=DC (c:=c) a b;refine wpAny_isNot_plain z ?_;rw[e];exact⟨.bl _,H,I,rfl,p H n _ Ext.refl G0 (by simp[Rel])⟩
 |_=>cases q
@[simp] def ZM {c:D}:qp v c a=(isLit v c).map λb=>(.bl b,a):=rfl
@[simp] def WA {c:D}:vC v c a=(isLit v c).map λb=>(.bl (!b),a):=rfl
@[simp] def Uc:isLit v .aA=some (m7 v):=rfl
@[simp] def Ud:isLit v (.bl Z)=some (Bq Z v):=rfl
@[simp] def Yz {c:Bool}:Bq c (.bl Z)=(Z == c):=rfl
noncomputable def Ix.none (c:Ix):Ix:=⟨[],c.ix++c.hd,c.kd⟩
noncomputable def Gp:HO->Bool
 |.tup _=>true|.nH _ _=>true|.dK _=>true|.iX _=>true|_=>false
mutual
theorem Rel.toN {K H ι}:∀(d:D) {v:V},bU 0 d=true->Rel K H ι d v->Rel K H (Ix.none ι) d v
 |.aA,v,_,h=>h|.bl _,v,_,h=>h|.int _,v,_,h=>h|.str _,v,_,h=>h
 |.tup n,v,z,h=>by
  simp only[Rel]at h ⊢;obtain⟨a,i,e,b,f⟩:=h;refine⟨a,i,e,?_,ai.toN n z f⟩;rcases b with⟨b,hn⟩|b
  . exact .inl ⟨b,by simp[Ix.none]⟩
  . exact .inr b
 |.lst n,v,z,h=>by
  simp only[Rel]at h ⊢;obtain⟨a,i,e,b,f⟩:=h;refine⟨a,i,e,?_,ai.toN n z f⟩;rcases b with⟨b,hn,hh⟩|b
  . exact .inl ⟨b,by simp[Ix.none],λm=>(nQ.mp m).elim hn hh⟩
  . exact .inr b
 |.dI,v,_,h=>by simp only[Rel]at h ⊢;obtain⟨a,e,b,f⟩:=h;exact⟨a,e,b,by simp[Ix.none]⟩
 |.ref k,v,z,h=>by simp[bU]at z|.az k,v,z,h=>by simp[bU]at z|.fn x ds,v,z,h=>by simp only[Rel]at h ⊢;obtain⟨a,i,e,b,f⟩:=h;exact⟨a,i,e,b.mono λc u _ q=>⟨q.1,by simp[Ix.none],λy m=>(nQ.mp m).elim q.2.1 (q.2.2 y)⟩,ai.toN ds z f⟩
theorem ai.toN {K H ι}:∀(ds:List D) {g:List V},aC 0 ds=true->ai K H ι ds g->ai K H (Ix.none ι) ds g
 | [],g,_,h=>h|d::ds,g,z,h=>by simp only[ai]at h ⊢;simp only[aC,mS]at z;obtain⟨v,a,e,b,c⟩:=h;exact⟨v,a,e,Rel.toN d z.1 b,ai.toN ds z.2 c⟩
end
mutual
theorem Rel.se {K H g p}(r:p.hd=g.ix++g.hd)(n:∀a∈g.ix,∃o,H a=some o/\Gp o=false):∀(d:D) {v:V},bU 0 d=true->Rel K H p d v->Rel K H g d v
 |.aA,v,_,h=>h|.bl _,v,_,h=>h|.int _,v,_,h=>h|.str _,v,_,h=>h
 |.tup C,v,z,h=>by
  simp only[Rel]at h ⊢;obtain⟨a,l,i,b,j⟩:=h;refine⟨a,l,i,?_,ai.se r n C z j⟩;rcases b with⟨b,hn⟩|b
  . refine .inl ⟨b,λm=>?_⟩
    obtain⟨E,e,f⟩:=n a m;rcases b with b|⟨o,b⟩<;>rw[e]at b<;>cases b<;>cases f
  . exact .inr b
 |.lst C,v,z,h=>by
  simp only[Rel]at h ⊢;obtain⟨a,l,i,b,j⟩:=h;refine⟨a,l,i,?_,ai.se r n C z j⟩;rcases b with⟨b,hn,hk⟩|b
  . rw[r]at hk
    exact .inl ⟨b,λm=>hk (nQ.mpr (.inl m)),λm=>hk (nQ.mpr (.inr m))⟩
  . exact .inr b
 |.dI,v,_,h=>by simp only[Rel]at h ⊢;obtain⟨a,i,b,j⟩:=h;refine⟨a,i,b,λm=>?_⟩;obtain⟨E,e,f⟩:=n a m;rw[e]at b;cases b;cases f
 |.ref k,v,z,h=>by simp[bU]at z|.az k,v,z,h=>by simp[bU]at z
 |.fn x ds,v,z,h=>by
  simp only[Rel]at h ⊢;obtain⟨a,l,i,b,j⟩:=h;exact⟨a,l,i,b.mono λc u y q=>⟨q.1,λm=>(by
    cases I:TM u with
    |true=>exact q.2.2 I (by rw[r];exact ade _ m)
    |false =>
     obtain⟨E,e,f⟩:=n c m;rw[q.1]at e;cases e;cases u<;>first| (cases f;done)| (cases I;done)| (cases y;done)),λz m=>q.2.2 z (by rw[r];exact N_ _ m)⟩,ai.se r n ds z j⟩
theorem ai.se {K H g i}(r:i.hd=g.ix++g.hd)(j:∀a∈g.ix,∃o,H a=some o/\Gp o=false):∀(ds:List D) {B:List V},aC 0 ds=true->ai K H i ds B->ai K H g ds B
 | [],B,_,h=>h|d::ds,B,z,h=>by simp only[ai]at h ⊢;simp only[aC,mS]at z;obtain⟨v,b,f,c,e⟩:=h;exact⟨v,b,f,Rel.se r j d z.1 c,ai.se r j ds z.2 e⟩
end
def au.lst {K H q g}(h:au K H q g)(p:f∈q.ix):∃o,H f=some o/\Gp o=false:=by
 obtain⟨i,d,e⟩:=OX.mp p;have j:i<g.length:=by rw[<- h.len];exact d
 obtain⟨b,o,n,a,l,c,_⟩:=h.at_ i _ (nz j);rw[nz d,e]at a;cases a;generalize q.kd i=r at c;exact⟨o,l,by cases c<;>rfl⟩
noncomputable def gW (fn:Fn):Fn:=λds g=>if aC 0 ds=true then(fn ds []).bind λr=>if bU 0 r.1=true then some (r.1,g)else none else none
def jA {ds g d g'}(fn:gW h ds g=some (d,g')):aC 0 ds=true/\(∃gx,h ds []=some (d,gx))/\bU 0 d=true/\g'=g:=by
 unfold gW at fn;split at fn
 . rename_i z
   obtain⟨⟨c,i⟩,b,fn⟩:=bind_some fn;split at fn
   . rename_i a
     cases fn;exact⟨z,⟨i,b⟩,a,rfl⟩
   . cases fn
 . cases fn
def Kq {K:KW}{k n f fd ps}(F:d9 q K.w K.fr K.mg I iI k f fd ps (k_ K n h)):d9 q K.w K.fr K.mg I iI k f fd ps (k_ K n (gW h)):=
 d9.imp F λj H Q E ⟨J,B,g,ds,d,O,G0,r,P,p⟩=>by
  obtain⟨z,⟨gx,hx⟩,u,rfl⟩:=jA P;refine⟨J,Ix.none B,[],ds,d,gx,⟨TF,rfl,λb hb=>⟨by simp[Ix.none],?_⟩,λi R base=>by simp at base,λbase y=>⟨(G0.tb base y).1,by simp[Ix.none]⟩⟩,ai.toN ds z r,hx,λl M v e U x=>?_⟩
  . rcases nQ.mp hb with m|m
    . exact G0.kX m
    . exact(G0.cF b m).2
  . have same:∀a∈B.ix,l a=H a:=λa c=>by
      obtain⟨j,C,_⟩:=G0.lst c;rw[C];exact e.same a _ C (by simp[Ix.none])
    have s:Ext H B l B:=⟨λa o base _=>e.same a o base (by simp[Ix.none]),e.there,⟨[],by simp,λ_ base=>by simp at base⟩,rfl,λ_ _=>rfl⟩
    refine p l B v s (G0.ext s same) (Rel.se e.cF (λa c=>?_) d u x);obtain⟨j,C,f⟩:=G0.lst c;exact⟨j,by rw[same a c];exact C,f⟩
def Br (fn:∀ds g r,h ds g=some r->ds.length=n):∀ds g r,gW h ds g=some r->ds.length=n:=λds g r q=>by obtain⟨_,⟨gx,a⟩,_⟩:=jA (d:=r.1) (g':=r.2) q;exact fn _ _ _ a
end
section
variable {Q:D×G->Prop}{b:FS}
noncomputable def mX {b:Type}(o:Option b)(Q:b->Prop):Prop:=∃a,o=some a/\Q a
section
variable {α β:Type}{o:Option α}{Q R:α->Prop}
@[simp] def gu {a:α}:mX (some a) Q=Q a:=by simp[mX]
@[simp] def YA:mX (none:Option α) Q=False:=by simp[mX]
@[simp] def bav {f:α->Option β}{Q:β->Prop}:mX (o.bind f) Q=mX o λa=>mX (f a) Q:=by cases o<;>simp[mX]
@[simp] def baw {f:α->β}{Q:β->Prop}:mX (o.map f) Q=mX o λa=>Q (f a):=by cases o<;>simp[mX]
def MN (h:mX o R)(i:∀a,R a->Q a):mX o Q:=let⟨a,e,r⟩:=h;⟨a,e,i a r⟩
end
@[simp] def ZN {o:Option (D×G)}{Q:Bool×G->Prop}:mX (fL o) Q=mX o λr=>∃b,r.1 = .bl b/\Q (b,r.2):=by
 cases o with
 |none=>simp[fL]
 |some r =>
  obtain⟨d,g⟩:=r;cases d with
  |bl b=>cases b<;>simp[fL]|_=>simp[fL]
@[simp] def Gq {c:List D}:bf (.tup A) (.tup c) a=if ax (A.length+c.length)=true then some (.tup (A++c),a)else none:=rfl
@[simp] def WB {c:List D}:bf (.lst A) (.lst c) a=if ax (A.length+c.length)=true then some (.lst (A++c),a)else none:=rfl
@[simp] def WC {y:Str}:bf (.str x) (.str y) a=if ax (x.length+y.length)=true then some (.str (x++y),a)else none:=rfl
@[simp] def YB:fE d a=some (none,a):=rfl
@[simp] def WD:bL C d a=(C d a).bind λr=>match r.1 with|.int c=>some (some c,r.2)|_=>none:=rfl
def WE {g:G}{xs:List D}{k:Int}(c:k<=1000)(d:-1000<=k)(b:xs.length<=1000):cK (.int k) (.tup xs) g=some (.tup (nN k.toNat xs).flatten,g):=by
 show(if(fA k&&ax (xs.length*k.toNat))=true then some (D.tup (nN k.toNat xs).flatten,g)else none)=_;rw[if_pos];have a:k.toNat<=1000:=by omega
 have:xs.length*k.toNat<=1000*1000:=ae9 b a;rw[fA.of (by omega) (by omega),RR (by omega)];rfl
def wU (h:p<=n):bo n n (some (p:Int))=p:=by rw[yT];omega
def m8 (h:p<=n):bo n 0 (some (p:Int))=p:=by rw[yT];omega
theorem fQ {t:FG}{b:FS}{Q:F×Sg×G->Prop}(I:Nat->Sg->G->Prop):∀(ds:List D) (i:Nat) (n:Sg) (g:G),I i n g ->
  (∀(j:Nat) (d:D) n g,ds[j]? = some d->I (i+j) n g->mX (t d n g) λq=>mX (b q.1 q.2) λr=>match r.1 with
   |.nx=>I (i+j+1) r.2.1 r.2.2|.ct=>I (i+j+1) r.2.1 r.2.2|.bk=>Q (.nx,r.2.1,r.2.2)|.rt d=>Q (.rt d,r.2.1,r.2.2))->(∀n g,I (i+ds.length) n g->Q (.nx,n,g))->mX (forL t b ds n g) Q
 | [],i,n,g,p,_,u=>by simp only[forL,gu];exact u n g p
 |d::ds,i,n,g,p,hs,u=>by
  simp only[forL,bav];refine MN (hs 0 d n g rfl p) λq f=>MN f λr a=>?_;have go:I (i+0+1) r.2.1 r.2.2->mX (forL t b ds r.2.1 r.2.2) Q:=λz =>
   fQ I ds (i+1) _ _ z (λj d n g e h=>by have q:=hs (j+1) d n g (by simpa using e) (by rw[show i+(j+1)=i+1+j by omega];exact h);rw[show i+(j+1)+1=i+1+j+1 by omega]at q;exact q) λn g h=>u n g (by rw[z6,show i+(ds.length+1)=i+1+ds.length by omega];exact h)
  obtain⟨c,l⟩:=r;cases c with
  |nx=>exact go a|ct=>exact go a|bk=>simp only[gu];exact a|rt d=>simp only[gu];exact a
theorem kI {t:FG}{c:FT}{e:FE}{Q:List D×G->Prop}(I:Nat->List D->Sg->G->Prop):∀(ds:List D) (i:Nat) (u:Sg) (g:G) (p:List D),I i p u g ->
  (∀(j:Nat) (d:D) p u g,ds[j]? = some d->I (i+j) p u g->mX (t d u g) λq=>mX (c q.1 q.2) λk=>if k.1=true then mX (e q.1 k.2) λr=>I (i+j+1) (p ++ [r.1]) q.1 r.2 else I (i+j+1) p q.1 k.2) ->
  (∀v u g,I (i+ds.length) (p++v) u g->Q (v,g))->mX (cZ t c e ds u g) Q
 | [],i,u,g,p,y,_,x=>by simp only[cZ,gu];exact x [] u g (by simpa using y)
 |d::ds,i,u,g,p,y,hs,x=>by
  simp only[cZ,bav];refine MN (hs 0 d p u g rfl y) λq l=>MN l λk b=>?_;have go:∀(a:List D) (s:Sg) (h:G) (R:List D×G->Prop),I (i+1) a s h->(∀v u g,I (i+1+ds.length) (a++v) u g->R (v,g))->mX (cZ t c e ds s h) R:=λa s h R z x =>
    kI I ds (i+1) s h a z (λj d p u g e h=>by have q:=hs (j+1) d p u g (by simpa using e) (by rw[show i+(j+1)=i+1+j by omega];exact h);rw[show i+(j+1)+1=i+1+j+1 by omega]at q;exact q) x
  have n:i+(d::ds).length=i+1+ds.length:=by rw[z6];omega
  rw[n]at x;by_cases hc:k.1=true
  . rw[if_pos hc]at b ⊢
    simp only[bav];refine MN b λr f=>?_;refine go (p ++ [r.1]) q.1 r.2 _ f λv u g h=>?_;simp only[gu];exact x (r.1::v) u g (by simpa using h)
  . rw[if_neg hc]at b ⊢
    exact go p q.1 k.2 _ b x
def OU (l:A.length=p)(h:mX (b (A.map some++nN (n-p) none) a) λr=>match r.1 with
  |.rt g=>r.2.2.length=a.length/\Q (g,r.2.2)|.nx=>r.2.2.length=a.length/\Q (.aA,r.2.2)|_=>False):mX (ak false n p b A a) Q:=by
 obtain⟨⟨r,i,f⟩,e,q⟩:=h;unfold ak;rw[if_pos l,e];cases r with
 |rt g =>
  obtain⟨c,j⟩:=q;dsimp only at c j;refine⟨_,?_,j⟩;simp[HH,c]
 |nx =>
  obtain⟨c,j⟩:=q;dsimp only at c j;refine⟨_,?_,j⟩;simp[HH,c]
 |bk=>exact q.elim|ct=>exact q.elim
def Kr (i:A.length=p)(h:mX (b (A.map some++nN (n-p) none) a) λr=>match r.1 with
  |.rt c=>Q (c,r.2.2)|.nx=>Q (.aA,r.2.2)|_=>False):mX (ak true n p b A a) Q:=by
 obtain⟨⟨r,g,f⟩,e,q⟩:=h;unfold ak;rw[if_pos i,e];cases r with
 |rt c=>exact⟨_,rfl,q⟩|nx=>exact⟨_,rfl,q⟩|bk=>exact q.elim|ct=>exact q.elim
def mf (v:A.length=s)(h:mX (b (A.map some++nN (n-s) none) a) λr=>match r.1 with
  |.rt g=>bU a.length g=true/\(r.2.2.take a.length).all (aC a.length)=true/\a.length<=r.2.2.length/\Q (g,r.2.2.take a.length)|.nx=>(r.2.2.take a.length).all (aC a.length)=true/\a.length<=r.2.2.length/\Q (.aA,r.2.2.take a.length)|_=>False):mX (ak false n s b A a) Q:=by
 obtain⟨⟨r,y,ds⟩,e,q⟩:=h;unfold ak;rw[if_pos v,e];have fin:∀g,bU a.length g=true->(ds.take a.length).all (aC a.length)=true->a.length<=ds.length->Q (g,ds.take a.length)->mX (HH a.length g ds) Q:=λg l u p i=>by
  by_cases x:ds.length=a.length
  . rw[Vu (by omega)]at i
    exact⟨_,by unfold HH;rw[if_pos x],i⟩
  . refine⟨_,?_,i⟩
    unfold HH;rw[if_neg x,if_pos u];cases g with
    |ref k =>
     have z:k<a.length:=by simpa[bU]using l
     simp only[if_pos z]
    |_=>simp only[if_pos l]
 cases r with
 |rt g =>
  obtain⟨o,c,j,f⟩:=q;exact fin g o c j f
 |nx =>
  obtain⟨c,j,f⟩:=q;exact fin .aA rfl c j f
 |bk=>exact q.elim|ct=>exact q.elim
end
section
open PyProof.Rows
open SeqAt
variable {Z:List (Str×D)}
def sf {A:Model}{a:Type}(f:Nat->a->Sem (ForInStep a))(I:List Nat->a->my->Prop)(Q:a->my->Prop){b:a}(turn:∀x rest b c,I (x::rest) b c->wpAny A M (f x b) (λr i=>match r with|.yield g=>I rest g i|.done g=>Q g i) E c)(fin:∀b c,I [] b c->Q b c)(h:I (Pb n (p-n)) b c):wpAny A M (forIn [n:p] b f) Q E c:=by
 rw[agX];refine ado f I Q turn fin _ b ?_;simpa[akl]using h
def vi (l:Addr)(J:Array Value)(n:Nat)(E:Option Addr)(H:Array (Option Value))(x:Value)(e:Value->Bool)(j:Nat)(I:j<J.size)
  (B:e J[j]=true) (C:∀m (hm:m<J.size),m<j->e J[m]=false):
  Meets (um.«tuple.index» ⟨[.ref l,x],[]⟩)
   (λA R s=>s.heap.get? l=some { cls:=.type "tuple",dict:=E,data:=.seq J n,slots:=H }/\(∀y,y∈J->EqAt A.in1 s y x (e y))/\R (.ok (.ret (.int j s.toks))) { s with toks:=s.toks+1 }):=
 .of_wp λprog w A R s h=>by
  obtain⟨o,g,d,q,os⟩:=s;obtain⟨v,M,h⟩:=h
  wp_walk using wpAny_loadPart' v,sf _ (λrest b c=>b.1=none/\c=⟨o,g,d,q,os⟩ /\ ∃i,rest=Pb i (J.size-i)/\i<=j) _
  case turn =>
   rintro y rest b c ⟨z,rfl,i,a,p⟩;have f:i<J.size:=by omega
   have r:Pb i (J.size-i)=i::Pb (i+1) (J.size-(i+1)):=by rw[show J.size-i=(J.size-(i+1))+1 by omega,af3]
   rw[r]at a;injection a with h1 h2
   subst h1 h2;have u:J[y]? = some J[y]:=by simp[f]
   rw[u];refine l8 (M _ (afF f) prog w _ _ ?_);by_cases O:y=j
   . subst O
     rw[B]
     wp_walk
     exact⟨_,rfl,h⟩
   . rw[C y f (by omega)]
     wp_walk
     exact⟨rfl,rfl,y+1,rfl,by omega⟩
  case fin =>
   rintro⟨Q,U⟩ c ⟨z,rfl,i,a,p⟩;have:(Pb i (J.size-i)).length=0:=by rw[<- a];rfl
   rw[List.length_range']at this;omega
  case h=>exact⟨rfl,rfl,0,by simp,tc _⟩
noncomputable def iD:D->Bool
 |.aA=>true|.bl _=>true|.int _=>true|.str _=>true|_=>false
noncomputable def toV:D->V
 |.bl b=>.bl b|.int i=>.int i|.str x=>.str x|_=>.aA
def pG {K H ι d v}(h:iD d=true)(r:Rel K H ι d v):v=toV d/\j2 v=true:=by
 cases d with
 |aA=>cases r;exact⟨rfl,rfl⟩|bl _=>cases r;exact⟨rfl,rfl⟩|int _=>cases r;exact⟨rfl,rfl⟩|str _=>cases r;exact⟨rfl,rfl⟩|_=>cases h
def tL {K H ι d}(h:iD d=true):Rel K H ι d (toV d):=by
 cases d with
 |aA=>simp[Rel,toV]|bl _=>simp[Rel,toV]|int _=>simp[Rel,toV]|str _=>simp[Rel,toV]|_=>cases h
theorem wV {K H ι}:∀{i:List D} {g:List V},i.all iD=true->ai K H ι i g->g=i.map toV/\g.all j2=true
 | [],g,_,r=>by cases r;exact⟨rfl,rfl⟩|d::i,g,h,r=>by obtain⟨v,f,rfl,b,a⟩:=r;rw[Z_,mS]at h;obtain⟨e,n⟩:=pG h.1 b;obtain⟨c,p⟩:=wV h.2 a;subst e c;exact⟨rfl,by rw[Z_,n,p];rfl⟩
theorem wW {K H ι}:∀{c:List D},c.all iD=true->ai K H ι c (c.map toV)
 | [],_=>by simp[ai]|d::c,h=>by rw[Z_,mS]at h;simp only[yp,ai];exact⟨_,_,rfl,tL h.1,wW h.2⟩
def RT {b:D}(c:iD v=true)(d:iD b=true):uA (toV v) (toV b)=bq v b:=by cases v<;>cases b<;>first| (simp[toV,uA,bq];done)| (simp[iD]at c;done)| (simp[iD]at d;done)
noncomputable def Gr (b a:FE):FE:=λh g=>(b h g).bind λr=>(jQ r.1 r.2).bind λc=>if c=true then some r else a h r.2
def N6 {A:FE}(J:DE X e C)(E:DE X (.BoolOp .Or (y::B) j) A):DE X (.BoolOp .Or (e::y::B) j) (Gr C A):=.of (by
 intro R s O H Q I h;obtain⟨Y,l,g,d,b,G0,r,h,p⟩:=h;obtain⟨⟨u,U⟩,h1,h⟩:=bind_some h;obtain⟨c,h2,h⟩:=bind_some h;have Z:=J.un R s O H (λx M=>∃rest,Ext H Y M rest/\au X.kw M rest U/\bC X.kw M rest l O/\Rel X.kw M rest u x) I ⟨Y,l,g,u,U,G0,r,h1,λM rest v f i a=>⟨rest,f,i,r.ext f,a⟩⟩;refine BoolOp_or (aV Z λv s1 n=>?_);obtain⟨x,M,I1,a,rest,f,i,S1,o⟩:=n;have hT:=CI R s1 O M x v (λk H'=>k=c/\H'=M) I1 a ⟨c,zj i o h2,rfl,rfl⟩;refine aV hT λk s2 n=>?_;obtain⟨H2,q,e2,z⟩:=n;subst e2 z;cases k with
 |true =>
  simp only[if_true]at h ⊢;cases h;exact⟨x,_,q,a,p _ rest x f i o⟩
 |false =>
  simp only[rk,if_false]at h ⊢;exact E.un R s2 O _ Q q ⟨rest,l,U,d,b,i,S1,h,p.mono f⟩)
noncomputable def wX (K:KW)(d:D)(v:V):Prop:=(iD d=true/\v=toV d) \/
 ∃c a o g n,d = .tup c/\c.all iD=true/\v = .ref a/\K.fr.lookup a=some o/\o.cls = .type "tuple" /\ o.dict=none/\o.data = .seq g n/\g.size<=m6/\Vals (c.map toV) g.toList
noncomputable def pH (w:World)(K:KW):List qt->List (Str×D)->Prop
 | [],cp=>cp = []|e::c,cp=>∃x d rest,cp=(x,d)::rest/\(∃t,e.key = .str x t)/\e.hash=hashStr w x/\(∃v,mI v e.val/\wX K d v)/\pH w K c rest
structure jB (w:World)(K:KW)(a:Addr)(cp:List (Str×D)):Prop where
 ex:∃o es ep,K.fr.lookup a=some o/\o.ExactDict/\o.data = .dict es ep/\pH w K es.toList cp
 sys:(a == M7)=false
noncomputable def qK (a:List (Str×D))(x:Str):Option D:=(a.find? λp=>decide (p.1=x)).map (·.2)
theorem pH.keys {P:uy}{w:World}{K:KW}:∀{i:List qt} {cp:List (Str×D)},pH w K i cp->∀e∈i,∃k,(fq P w).is k e.key=true/\e.hash=(fq P w).hash k
 | [],_,_,e,g=>nomatch g
 |n::i,cp,h,e,g=>by
  obtain⟨x,d,rest,rfl,⟨t,a⟩,c,_,b⟩:=h;rcases nF.mp g with rfl|g
  . exact⟨.inr x,by rw[a];exact pY P w x t,c⟩
  . exact b.keys e g
def N7 {y:Str}{t:Tok}:(fq q l).is (.inr x) (.str y t)=decide (y=x):=by
 show aeu x (.str y t)=_;by_cases h:y=x
 . subst h;simp[aeu]
 . simp[aeu,h,n7 h]
theorem pH.find {P:uy}{w:World}{K:KW}{x:Str}:∀{g:List qt} {cp:List (Str×D)},pH w K g cp ->
  match qK cp x with
  |some d=>∃u v,(g.find? λe=>(fq P w).is (.inr x) e.key).map (·.val)=some u/\mI v u/\wX K d v|none=>(g.find? λe=>(fq P w).is (.inr x) e.key).map (·.val)=none
 | [],cp,h=>by have b:cp = []:=h;subst b;rfl
 |q::g,cp,h=>by
  obtain⟨y,d,rest,rfl,⟨t,f⟩,l,⟨v,c,i⟩,j⟩:=h;have n:=j.find (P:=P) (x:=x);have a:(fq P w).is (.inr x) q.key=decide (y=x):=by rw[f];exact N7
  unfold qK at n ⊢;rw[ahV,ahV];by_cases p:y=x
  . subst p
    simp only[decide_true,a];exact⟨_,v,rfl,c,i⟩
  . simp only[p,decide_false,a]
    exact n
def jB.map {P:uy}{K:KW}(h:jB l K f Z)(r:K.fr.In I):∃a,I.MapOf (fq P l) f a /\ ∀x:Str,match qK Z x with
  |some d=>∃u v,a (.inr x)=some u/\mI v u/\wX K d v|none=>a (.inr x)=none:=by
 obtain⟨o,w,j,i,n,c,b⟩:=h.ex;refine⟨_,⟨o,w,j,r f o i,n,c,λe g=>b.keys e (by simpa using g),λk=>rfl⟩,λx=>?_⟩;have:=b.find (P:=P) (x:=x);unfold findBy;rw[<- Array.find?_toList];exact this
noncomputable def WG (K:KW)(a:Addr)(b:List (Str×D)):R2:=λx y H Q=>∃k d,x = .ref a/\y = .str k/\qK b k=some d /\ ∀v,wX K d v->Q v H
def N8 (hD:jB X.w X.kw f Z):nK X (WG X.kw f Z):=by
 intro value slice g s B H x y v u Q I n z h o;obtain⟨k,d,rfl,rfl,hd,q⟩:=h;cases n;obtain⟨a,hm,hf⟩:=hD.map (P:=X.prog) I.gO;have e:=hf k;rw[hd]at e;obtain⟨b,c,p,l,j⟩:=e;obtain⟨t,rfl⟩:=z;exact adx (x:=b) hm.typeIs aep.lookup
  (wpAny_getItem_of (k:=(.inr k:Key)) (Q:=λr i=>r=b/\EP X g B Q r i) (pY X.prog X.w k t) hm p ⟨rfl,c,H,I.tok _,l,q c j⟩) o
noncomputable def Bs (c:List D)(d:D):Option Nat:=c.findIdx? λy=>bq y d
noncomputable def Bu (cp:List (Str×D))(c b:FE):FE:=λh g=>(c h g).bind λr=>match r.1 with
 |.str x=>match qK cp x with
  |some (.tup i)=>(b h r.2).bind λq=>if(iD q.1&&i.all iD)=true then(Bs i q.1).map λj=>(.int j,q.2)else none|_=>none
 |_=>none
noncomputable def RU (K:KW):V->List V->Hp->VK->Prop:=λx a H Q=>∃c y j,wX K (.tup c) x/\a = [toV y]/\iD y=true/\c.all iD=true/\Bs c y=some j/\Q (.int j) H
def DD:MQ X "tuple.index" (RU X.kw):=by
 intro cv s σ H x vs v us Q I M O h;obtain⟨g,y,j,e,rfl,d,f,c,q⟩:=h;rcases e with⟨e,_⟩|⟨DF,a,o,B,n,e0,uk,rfl,h1,h2,h3,h4,h5,h6⟩
 . cases e
 cases e0;cases M;obtain⟨u,rfl,R⟩:=O.one;have p:=I.gO a o h1;obtain⟨cls,dd,data,sl⟩:=o;simp only at h2 h3 h4;subst h2 h3 h4;have U:j2 (toV y)=true:=(pG d (tL (K:=X.kw) (H:=H) (ι:=⟨[],[],λ_=>0⟩) d)).2;have Y:(g.map toV).all j2=true:=(wV f (wW (K:=X.kw) (H:=H) (ι:=⟨[],[],λ_=>0⟩) f)).2;unfold Bs at c;rw[aes]at c;obtain⟨Z,E,CO⟩:=c;have C:(g.map toV).length=B.toList.length:=h6.length;rw[qV]at C;have J:j<B.size:=by rw[<- ad0];omega
 have item:∀m (hm:m<g.length) (r:m<B.size),HS (toV y) B[m]=bq g[m] y:=λm hm r=>by obtain⟨u',l,r'⟩:=h6.get (i:=m) (x:=toV g[m]) (by rw[qd,nz hm];rfl);rw[adH,Oa r]at l;cases l;have b:iD g[m]=true:=IU.mp f _ (Cv hm);rw[CQ r' (pG b (tL (K:=X.kw) (H:=H) (ι:=⟨[],[],λ_=>0⟩) b)).2,RT b d]
 refine SJ F.slot_tuple_index ⟨_,p,rfl⟩ F.entry_tuple_index (F.args_tuple_index_2 _ _) (vi a B n none sl u (HS (toV y)) j J (by rw[item j Z J];exact E) (λm hm ZO=>by
   have rP:m<g.length:=by omega
   rw[item m rP hm];simpa using CO m ZO)) ⟨p,λz hz=>wj R U h6 Y z (by simpa using hz),?_⟩
 exact⟨.int j,H,I.tok _,⟨_,rfl⟩,q⟩
def Ks {A B E:Pos}{I:FE}(hD:jB X.w X.kw f Z)(N:X.mg x=some (.ref f))(O:DE X e C)(S:DE X y I)(R:Gl X x)(L:pA e)(U:(x == ("__debug__":Str))=false)(T:aex (.Subscript (.Name x j) e A) "index" X.env (eval (.Subscript (.Name x j) e A) X.env)=eval (.Subscript (.Name x j) e A) X.env)(M:((v3 E (ni [y] X.env)).all (λy=>!y.1)&&(backToKw E (ahx [] X.env)).all (λy=>y.1.isSome)
   && decide ([y].length+([]:List UD).length+(if([]:List UD).isEmpty then 0 else 1)<30))=true)(P:(B.endLine == E.line)=true)(J:ni [y] X.env=(false,eval y X.env)::ni [] X.env):
  DE X (.Call (.Attribute (.Subscript (.Name x j) e A) "index" B) [y] [] E) (Bu Z C I):=.of (
 PE.imp (Rw PySem.F.plainAttrs_tuple PySem.F.slot_tuple_index PySem.F.type_tuple_index DD (HR (N8 hD) (td (v:=.ref f) R N rfl U) O.un L) (ik S.un lQ J) T M P J (by rfl)) λσ H Q h=>by
  obtain⟨ι,σd,g,d,g',G0,q,h,j⟩:=h;obtain⟨⟨s,g1⟩,h1,h⟩:=bind_some h;refine tD.bind G0 q h1 λH1 ι1 v r G1 S1 l=>?_;cases s with
  |str k =>
   cases l;dsimp only at h;cases hk:qK Z k with
   |none=>rw[hk]at h;cases h
   |some d2 =>
    rw[hk]at h;cases d2 with
    |tup xs =>
     dsimp only at h;obtain⟨⟨c,g3⟩,a,h⟩:=bind_some h;refine⟨k,_,rfl,rfl,hk,λv b=>⟨?_,?_⟩⟩
     . rcases b with⟨b,_⟩|⟨DF,a',o,aq,n,e0,uk,rfl,q1,q2,q3,q4,q5,q6⟩
       . cases b
       . exact .inr (.inl ⟨rfl,o,q1,q2,q3⟩)
     . refine tD.bind G1 S1 a λi Y u e2 G2 S2 K=>?_
       dsimp only at h;split at h
       . rename_i z
         rw[mS]at z;cases hj:Bs xs c with
         |none=>rw[hj]at h;cases h
         |some p =>
          rw[hj]at h;cases h;refine⟨xs,c,p,b,by rw[(pG z.1 K).1],z.1,z.2,hj,j i Y _ (r.trans e2) G2 (by simp[Rel])⟩
       . cases h
    |_=>cases h
  |_=>cases h)
end
section
open PyProof.Rows
variable {Z:Array Value}{R:List D->G->Option (D×G)}{w:FA}{t:FG}{s:Int->Int->Int}{m:Expr}{k:Option Int}{h pt:Pos}{g fs:FO}{vs:Value}
def wY (l:Addr)(B:Array Value)(n:Nat)(b:Addr)(p:Array Value)(r:Nat)(v:Array (Option Value))(y:¬(!B.isEmpty&&acm (B.size+p.size))=true)(u:B.size<=m6)(q:B.size+p.size<=m6+1):
  Meets (um.«list.extend» ⟨[.ref l,.ref b],[]⟩) (λ_ R s=>s.heap.get? l=some { cls:=.type "list",dict:=none,data:=.seq B n,slots:=#[] }/\s.heap.get? b=some { cls:=.type "list",dict:=none,data:=.seq p r,slots:=v }/\R (.ok (.ret Ad)) { s with heap:=s.heap.update l (HG λx=>x++p),toks:=s.toks }):=
 .of_wp λprog w A R s h=>by
  obtain⟨f,g,d,i,os⟩:=s;obtain⟨a,e,h⟩:=h;have C:=adn;have E:=acP;have o:=aet;have H:=af9;have j:=af_;have c:(B++p).size<=m6+1:=by rw[Array.size_append];exact q
  wp_walk using (aeT a rfl (hz:=u) (_hz':=c)),wpAny_loadPart' a,wpAny_loadPart' e
  exact⟨_,rfl,h⟩
noncomputable def Gs (K:KW):V->List V->Hp->VK->Prop:=λx a H Q=>∃l b c zs,x = .ref l/\a = [.ref b]/\H l=some (.lst c)/\dy K H b zs/\c.length+zs.length<=m6/\Q .aA (upd H l (.lst (c++zs)))
def Bv:Tw X "list.extend" (Gs X.kw):=by
 intro R s U H x vs v Y Q I B p h;obtain⟨l,b,Z,zs,rfl,rfl,f,C,hz,q⟩:=h;cases B;obtain⟨u,rfl,o⟩:=p.one;cases o;obtain⟨z,a,n,r,hl,e⟩:=I.M1 f;obtain⟨c,j,E,_⟩:=I.list C;obtain⟨⟨FR,uz,data2,J⟩,n2,M,d,i,g⟩:=id E;simp only at d g i;subst d g i;have Nb:=j.length;have O:a.toArray.size+c.toArray.size<=m6:=by rw[om,om];omega
 have y:¬(!a.toArray.isEmpty&&acm (a.toArray.size+c.toArray.size))=true:=by rw[wq O,aif];exact L8
 refine SJ F.slot_list_extend ⟨_,e,rfl⟩ F.entry_list_extend (F.args_list_extend_2 _ _)
  (wY l a.toArray n b c.toArray n2 J y (by rw[om];omega) (by omega)) ⟨e,M,?_⟩
 refine⟨.aA,_,I.M0 (its':=a++c) f e (by simp) (r.append j) ?_,rfl,q⟩;rw[nv];omega
noncomputable def oC (i j:Nat)(fr:FA):FS:=λc g=>(fr c g).bind λr=>match r.1 with
 | [a,b]=>some (.nx,(c.set i (some a)).set j (some b),r.2)|_=>none
def N9 {a:Str}{A:Pos}{kt k2 pt2}(E:X.calm=true)(M:X.N.Nodup)(P:X.N[n]? = some x)(O:X.N[p]? = some a)(I:n≠p)(L:X.env.scope.names.lookup x=some .local)(K:X.env.scope.names.lookup a=some .local)(J:DA X [e,y] w)(hw:Ql [.Tuple [.Name x j,.Name a h] kt pt] (.Tuple [e,y] k2 pt2) X.env=pure (some [x,a]))(C:UT [.Tuple [.Name x j,.Name a h] kt pt] (.Tuple [e,y] k2 pt2) A.line X.env=pure false):
  DS X (.Assign [.Tuple [.Name x j,.Name a h] kt pt] (.Tuple [e,y] k2 pt2) A) (oC n p w):=.of (
 PS.imp (Mp E M P O I L K J.un hw C) λU Y H B=>by
  obtain⟨Z,Q,g,r,bY,g',G0,d,B,i⟩:=B;obtain⟨⟨ds,g1⟩,q,B⟩:=bind_some B;refine iL.bind G0 d q λR b vs f o s c=>?_;dsimp only at B;split at B
  . rename_i e y
    cases B;obtain⟨v,z,rfl,fr,u,ur,rfl,l,rfl⟩:=c;exact⟨v,u,rfl,i R b f o _ ((s.set fr n).set l p)⟩
  . cases B)
def vj {a:Addr}{x:Value}(prog:c.heap.IsTupleIter f a n)(r:c.heap.IsTuple a Z)(A:Z[n]? = some x)(p:∀g,g.IsTupleIter f a (n+1)->M9 f c.heap g->Q x { c with heap:=g }):wpAny (model q l) M (Wd (.ref f)) Q E c:=by
 obtain⟨o,w,e,b⟩:=id prog;obtain⟨h,s,_,j,d⟩:=r;unfold Wd;refine l8 (HX (name:=vx "__next__") prog.typeIs F.slot_tuple_iterator_next (yc F.slot_tuple_iterator_next prog.typeIs F.entry_tuple_iterator_next ?_ (F.args_tuple_iterator_next_1 _)));change wpAny _ _ (field (.ref f) 0 >>= λ_=>_) _ _ _;refine l8 (Ft w b (x:=.ref a) rfl ?_);change wpAny _ _ (if(FX a == Ad)=true then _ else _) _ _ _;rw[if_neg (by exact L8)];change wpAny _ _ (field (.ref f) 1 >>= λ_=>_) _ _ _;refine l8 (Ft w b (x:=.int n 0) rfl ?_);change wpAny _ _ (seqItems? (.ref a) >>= λ_=>_) _ _ _;refine l8 (adJ s d ?_);simp only[Nc,A];refine l8 (WT w b (by simp) ?_);refine mA ⟨x,rfl,mA (p _ ⟨_,NU _ w (agx (ad9 b _)),(ahs ..).trans e,?_⟩ (NT ..))⟩;rw[ad9 b];simp[wQ]
def w4 {a:Addr}(i:M.handled=none)(A:c.heap.IsTupleIter f a n)(u:c.heap.IsTuple a Z)(r:Z[n]? = none)(s:∀g e,agi f c.heap g->(∃o,g.get? e=some o/\o.cls = .type "StopIteration")->E (.ref e) { c with heap:=g }):wpAny (model q l) M (Wd (.ref f)) Q E c:=by
 obtain⟨o,b,j,w⟩:=id A;obtain⟨h,p,_,prog,d⟩:=u;unfold Wd;refine l8 (HX (name:=vx "__next__") A.typeIs F.slot_tuple_iterator_next (yc F.slot_tuple_iterator_next A.typeIs F.entry_tuple_iterator_next ?_ (F.args_tuple_iterator_next_1 _)));change wpAny _ _ (field (.ref f) 0 >>= λ_=>_) _ _ _;refine l8 (Ft b w (x:=.ref a) rfl ?_);change wpAny _ _ (if(FX a == Ad)=true then _ else _) _ _ _;rw[if_neg (by exact L8)];change wpAny _ _ (field (.ref f) 1 >>= λ_=>_) _ _ _;refine l8 (Ft b w (x:=.int n 0) rfl ?_);change wpAny _ _ (seqItems? (.ref a) >>= λ_=>_) _ _ _;refine l8 (adJ p d ?_);simp only[Nc,r];refine l8 (DK (l8 (WT b w (by simp) ?_)));change wpAny _ _ (newExc (.type "StopIteration") [] >>= λ_=>_) _ _ _;refine l8 ?_;simp only[newExc,newTuple];refine l8 (z5 ?_ (by size_fits));refine l8 (m:=ae7 _ _) (ahy (a:=Ad) (by first|rfl| (simp only[ae7];rfl)) ?_);refine z5 ?_ (by size_fits);simp only[raiseNew];refine l8 (agT ?_);rw[show M.in1.handled=none from i];exact l8 (mA (ahz (s _ _ (((NT ..).extBut.push _).push _) ⟨_,p9 _ rfl,rfl⟩)))
def zI {s:my}{t':Nat}{ch:List Addr}(y:mn X b r H s)(k:∀g o,g ∉ ch->s.heap.get? g=some o->I.get? g=some o)(x:∀g∈ch,gI X b H g):
   mn X b r H { s with heap:=I,toks:=t' }:=by
 have d:∀g u,H g=some u->g ∉ ch:=λg u e z=>by rw[(x g z).1]at e;cases e
 refine y.step (g':=s.gens) (d':=s.drawn) (ch:=ch) (λg p=>?_) (λg o _ _ a e _=>k g o a e) (λg o _ _ a e _=>⟨o.slots,k g o a e⟩) (λ_ _ _ _ n=>n)
   (λg o a e=>⟨o,k g o a e⟩) (λ_ _ e=>e) (λ_ _ _ e=>e) (λ_ _ _ e=>e) (λm hm=>?_) (λg u e=>?_) y.bare
 . obtain⟨J,B,M,l,C,f⟩:=x g p
   exact⟨l,B,C,f⟩
 . obtain⟨o,i,h,j,E⟩:=hm
   exact⟨o,i,h,k _ o (λz=>(x _ z).2.1 rfl) j,E⟩
 . refine(y.aW g u e).cY (λc v a q=>k c v ?_ q) (λ_ q=>q) (λ_ _ q=>q) λ_ _ q=>q
   rcases a with z|z
   . rw[z];exact d g u e
   . exact d c _ z
noncomputable def qL (i:Nat)(o:Int->Int->Int)(c:FE):FS:=λh g=>match h[i]? with
 |some (some (.int a))=>(c h g).bind λr=>match r.1 with
  |.int b=>some (.nx,h.set i (some (.int (o a b))),r.2)|_=>none
 |_=>none
def DH {op:U1}(E:X.N.Nodup)(I:X.N[n]? = some x)(K:EB X.env.scope x)(M:HK X op (Mr s))(J:DE X e C)(L:X.fn x=true\/X.env.scope.names.lookup x=some .local):DS X (.AugAssign (.Name x j) op e h) (qL n s C):=.of (
 PS.imp (Mq E I K J.un M L) λU Y H A=>by
  obtain⟨Z,O,g,r,bY,g',G0,c,A,p⟩:=A;unfold qL at A;split at A
  . rename_i a o
    obtain⟨⟨B,g1⟩,h1,A⟩:=bind_some A;obtain⟨v,z,f⟩:=c.2 n _ o;cases f;refine⟨.int a,z,?_⟩;refine tD.bind G0 c h1 λQ l u q y R i=>?_;cases B with
    |int b =>
     cases A;cases i;exact⟨a,b,rfl,rfl,p Q l q y _ (R.set (d:=.int (s a b)) (by simp[Rel]) n)⟩
    |_=>cases A
  . cases A)
noncomputable def pI (b a:D)(g:G):Option (D×G):=match fg b g,fg a g with
 |some c,some h=>if ax (c.length+h.length)=true then some (.ref g.length,g ++ [c++h])else none|_,_=>none
def Kt:bJ X (ta .Add) (dD X.kw pI):=by
 intro B s C H x y v u Q I l E q;obtain⟨R,g,U,Y,d,Z,G0,i,n,q,p⟩:=q;unfold pI at q;split at q
 . rename_i xs ys j J
   split at q
   . rename_i z
     cases q;obtain⟨a,h,rfl,r,f⟩:=ib G0 i j;obtain⟨b,M,rfl,O,c⟩:=ib G0 n J;refine zB B s C H _ _ v u Q I l E ⟨a,b,h,M,rfl,rfl,r,O,by rw[<- f.length,<- c.length];exact ax.le z,λo e=>?_⟩;refine p _ _ _ (Ext.push e) (G0.push e (ai.append f c)) ?_;simp only[Rel];exact⟨o,rfl,dU.new G0.len⟩
   . cases q
 . cases q
@[simp] def YC:qL n s C d a=(match d[n]? with
 |some (some (.int c))=>(C d a).bind λr=>match r.1 with
  |.int g=>some (.nx,d.set n (some (.int (s c g))),r.2)|_=>none
 |_=>none):=rfl
@[simp] def YD:oC n p w d a=(w d a).bind λr=>match r.1 with
 | [i,b]=>some (.nx,(d.set n (some i)).set p (some b),r.2)|_=>none:=rfl
@[simp] def YE {g:FE}:Gr C g d a=(C d a).bind λr=>(jQ r.1 r.2).bind λc=>if c=true then some r else g d r.2:=rfl
@[simp] def RV:jQ .aA a=some false:=rfl
@[simp] def RW:jQ (.tup A) a=some (!A.isEmpty):=rfl
@[simp] def RX:jQ (.lst A) a=some (!A.isEmpty):=rfl
noncomputable def cY (g:List Addr)(h i:Heap):Prop:=∀c o,c ∉ g->h.get? c=some o->i.get? c=some o
def cY.tr {cs h d h2}(a:cY cs h d)(b:cY cs d h2):cY cs h h2:=λc o n e=>b c o n (a c o n e)
def cY.of {cs h h1 c}(a:M9 c h h1)(m:c∈cs):cY cs h h1:=λb o n e=>(a.2 b λz=>n (z ▸ m)).trans e
def RY {g:Addr}(I:mn X b r H c)(s:gI X b H g)(h:fz X.kw H f U):f≠g:=λz=>by
 subst z;obtain⟨p,u,v,d,x,e⟩:=s;rcases h with h|⟨o,aq,n,hk,_⟩
 . rcases h with h|⟨o,h⟩<;>rw[p]at h<;>cases h
 . have i:X.base.get? f=some o:=I.ok.mod.rD f o hk
   rcases d with q|q
   . exact I.ok.qy f o i q
   . exact GW _ (wi (nI (I.ok.bs f o i).1) q)
noncomputable def oD (c g:List D):List D:=(c.zip g).map λp=>.tup [p.1,p.2]
noncomputable def bt (n:Nat)(c b:Option Int)(a:Int):Int×Nat:=((TL c b a (n:Int)).1,XP (TL c b a (n:Int)).1 (TL c b a (n:Int)).2 a)
noncomputable def gv {c:Type}(g:List c)(l:Int)(n:Nat)(a:Int):List c:=(r6 n).filterMap λ(k:Nat)=>g[(l+(k:Int)*a).toNat]?
noncomputable def tM (d:D)(b a c:Option Int)(g:G):Option (D×G):=match d,c with
 |.tup h,some k=>if(!(k == 0) && !(k == 1)&&ax (bt h.length b a k).2)=true then some (.tup (gv h (bt h.length b a k).1 (bt h.length b a k).2 k),g)else none|_,_=>none
def DJ {i:D}{b c:Option Int}{n:G}(h:tM v k b c a=some (i,n)):∃g d,v = .tup g/\c=some d/\d≠0/\d≠1/\ax (bt g.length k b d).2=true/\i = .tup (gv g (bt g.length k b d).1 (bt g.length k b d).2 d)/\n=a:=by
 unfold tM at h;split at h
 . rename_i g d
   split at h
   . rename_i z
     rw[mS,mS]at z;cases h;exact⟨g,d,rfl,rfl,by simpa using z.1.1,by simpa using z.1.2,z.2,rfl,rfl⟩
   . cases h
 . cases h
noncomputable def w5 (b:FE)(c a fs:FO):FE:=λi g=>(b i g).bind λr=>(c i r.2).bind λl=>(a i l.2).bind λh=>(fs i h.2).bind λk=>tM r.1 l.1 h.1 k.1 k.2
def uJ {b:Type}(c:List b)(l:Int)(n:Nat)(a:Int):(gv c l n a).length<=n:=by unfold gv;exact rK (List.length_filterMap_le _ _) (by simp)
theorem ai.pick {K H ι}{g:List D}{vs:List V}(r:ai K H ι g vs)(l:Int)(c:Int):∀n k,ai K H ι ((Pb k n).filterMap λ(k:Nat)=>g[(l+(k:Int)*c).toNat]?) ((Pb k n).filterMap λ(k:Nat)=>vs[(l+(k:Int)*c).toNat]?)
 | 0,k=>by simp[ai]
 |n+1,k=>by
  rw[af3,H0,H0];have h:=ai.pick r l c n (k+1);cases hx:g[(l+(k:Int)*c).toNat]? with
  |none =>
   have a:vs[(l+(k:Int)*c).toNat]? = none:=by rw[adg]at hx ⊢;rw[<- r.length];exact hx
   rw[a];exact h
  |some d =>
   obtain⟨v,a,b⟩:=r.get hx;rw[a];simp only[ai];exact⟨v,_,rfl,b,h⟩
theorem uK {vs:List V}{e:List Value}(r:Vals vs e)(l:Int)(c:Int):∀n k,Vals ((Pb k n).filterMap λ(k:Nat)=>vs[(l+(k:Int)*c).toNat]?) ((Pb k n).filterMap λ(k:Nat)=>e[(l+(k:Int)*c).toNat]?)
 | 0,k=>.nil
 |n+1,k=>by
  rw[af3,H0,H0];have g:=uK r l c n (k+1);cases hx:vs[(l+(k:Int)*c).toNat]? with
  |none =>
   have a:e[(l+(k:Int)*c).toNat]? = none:=by rw[adg]at hx ⊢;rw[<- r.length];exact hx
   rw[a];exact g
  |some d =>
   obtain⟨v,a,b⟩:=r.get hx;rw[a];exact .cons b g
def Gu {e:Value}{w:Option Int}{Q:Int×Int×Nat->my->Prop}(j:c.heap.IsSliceOf f T e vs)(o:CV T k)(p:CV e w)(ps:CV vs (some i))(prog:i≠0)(h:Q ((bt n k w i).1,i,(bt n k w i).2) c):wpAny (model q l) M (ac8 (.ref f) (pure (n:Int))) Q E c:=by
 obtain⟨os,b,d,a⟩:=id j;unfold ac8 afK;refine l8 (l8 (Ft b a (x:=T) rfl (l8 (Ft b a (x:=e) rfl (l8 (Ft b a (x:=vs) rfl (mA ?_)))))));refine l8 (iH ps ?_);change wpAny _ _ (if(i == 0)=true then _ else _) _ _ c;rw[if_neg (by simpa using prog)];exact l8 (iH o (l8 (iH p (l8 (mA (mA h))))))
def RZ {j:Addr}{n:Value}{prog:Option Int}(t:IsTup c.heap f Z)(g:c.heap.IsSliceOf j T n vs)(r:CV T k)(u:CV n prog)(ps:CV vs (some i))(p:i≠0)(v:i≠1)(h:Q (.ref c.heap.objs.size) { c with heap:=c.heap.push { cls:=.type "tuple",data:=.seq (gv Z.toList (bt Z.size k prog i).1 (bt Z.size k prog i).2 i).toArray } })(hz:(bt Z.size k prog i).2<=m6):wpAny (model q l) M (Pd (.ref f) (.ref j)) Q E c:=by
 have ok:sizeOk (.seq (gv Z.toList (bt Z.size k prog i).1 (bt Z.size k prog i).2 i).toArray):=by show(gv Z.toList (bt Z.size k prog i).1 (bt Z.size k prog i).2 i).toArray.size<=m6;rw[om];exact rK (uJ ..) hz
 obtain⟨os,b,a,o⟩:=id g;have ty:c.TypeIs (.ref j) "slice":=⟨os,b,a⟩
 unfold Pd;try with_reducible refine wh ?_
 first|refine l8 (mA ?_)|skip
 refine l8 (adA t.typeIs (by decide) (l8 (HX (name:=vx "__getitem__") t.typeIs PF (yc PF t.typeIs ae0 ?_ (afk _ _)))));change wpAny _ _ (ac9 (.ref f) >>= λ_=>_) _ _ c;refine l8 (agQ t (l8 (YX ty ?_)));rw[if_pos (by decide)];refine l8 (Gu g r u ps p ?_);have x:¬(((bt Z.size k prog i).1 == 0&&i == 1&&(bt Z.size k prog i).2 == Z.size)=true):=by intro d;rw[mS,mS]at d;exact v (eq_of_beq d.1.2)
 change wpAny _ _ (if((bt Z.size k prog i).1 == 0&&i == 1&&(bt Z.size k prog i).2 == Z.size)=true then _ else _) _ _ c;rw[if_neg x];have e:((r6 (bt Z.size k prog i).2).filterMap λ(m:Nat)=>Z[((bt Z.size k prog i).1+(m:Int)*i).toNat]?).toArray=(gv Z.toList (bt Z.size k prog i).1 (bt Z.size k prog i).2 i).toArray:=by unfold gv;simp only[adH]
 rw[e];first
  |exact l8 (m:=UY _) (z5 (mA ⟨_,rfl,mA h⟩) ok)
  |exact l8 (m:=UY _) (z5 (l8 (mA (mA ⟨_,rfl,mA h⟩))) ok)
  |exact l8 (l8 (m:=UY _) (z5 (mA (mA ⟨_,rfl,mA h⟩)) ok))
  |exact l8 (l8 (m:=UY _) (z5 (mA ⟨_,rfl,mA h⟩) ok))
def DL {E J:Option Expr}{M:FO}(O:DE X e C)(R:DO X E g)(hu:DO X J M)(P:DO X (some y) fs):DE X (.Subscript e (.Slice E J (some y) j) h) (w5 C g M fs):=.of (by
 intro cv s σ H Q I K;obtain⟨ι,U,L,d,g',G0,S0,K,p⟩:=K;obtain⟨⟨d1,g1⟩,h1,K⟩:=bind_some K;obtain⟨⟨l,g2⟩,h2,K⟩:=bind_some K;obtain⟨⟨u,g3⟩,h3,K⟩:=bind_some K;obtain⟨⟨k,g4⟩,h4,K⟩:=bind_some K;refine Subscript_ (aV (O.un cv s σ H (λx Y=>∃f,Ext H ι Y f/\au X.kw Y f g1/\bC X.kw Y f U σ/\Rel X.kw Y f d1 x) I ⟨ι,U,L,d1,g1,G0,S0,h1,λY f v e1 G1 r1=>⟨f,e1,G1,S0.ext e1,r1⟩⟩) λv s1 r=>?_);obtain⟨x,Y,I1,r1,f,e1,G1,S1,rd⟩:=r;refine wpAny_Slice (aV (R.un cv s1 σ Y (λo N=>o=l /\ ∃i,Ext Y f N i/\au X.kw N i g2) I1 ⟨f,U,g1,l,g2,G1,S1,h2,λN i e2 G2=>⟨rfl,i,e2,G2⟩⟩) λvl s2 r=>?_);obtain⟨o,N,I2,pl,eo,i,e2,G2⟩:=r;subst eo;refine aV (hu.un cv s2 σ N (λo H3=>o=u /\ ∃B,Ext N i H3 B/\au X.kw H3 B g3) I2 ⟨i,U,g2,u,g3,G2,S1.ext e2,h3,λH3 B e3 G3=>⟨rfl,B,e3,G3⟩⟩) λvu s3 r=>?_;obtain⟨o',H3,I3,pu,eo,B,e3,G3⟩:=r;subst eo;refine aV (P.un cv s3 σ H3 (λo H4=>o=k /\ ∃z,Ext H3 B H4 z/\au X.kw H4 z g4) I3 ⟨B,U,g3,k,g4,G3,S1.ext (e2.trans e3),h4,λH4 z e4 G4=>⟨rfl,z,e4,G4⟩⟩) λvs Z r=>?_;obtain⟨ab,H4,I4,ps,eo,z,e4,G4⟩:=r;subst eo;have oE:=Rel.ext (e2.trans (e3.trans e4)) _ rd;obtain⟨xs,kk,rfl,ek,z0,z1,z2,rfl,rfl⟩:=DJ K;cases ek;obtain⟨a,ws,rfl,hq,hr⟩:=oE;cases r1;have I5:mn X cv σ H4 { Z with heap:=Z.heap.push { cls:=.type "slice",data:=.fields #[vl,vu,vs] } }:=I4.kept (t':=Z.toks) λb ob q=>nG _ q;obtain⟨aq,rv,pt,hz⟩:=I5.tuple hq.sq;have hlen:aq.toArray.size=xs.length:=by rw[om,<- rv.length,<- hr.length]
 change wpAny (model X.prog X.w) X.A (agR e (.Slice E J (some y) j) (.ref a) (.ref Z.heap.objs.size)) (EP X cv σ Q) X.xe { Z with heap:=Z.heap.push { cls:=.type "slice",data:=.fields #[vl,vu,vs] } };refine tail_any (ops:=[.ref a,.ref Z.heap.objs.size]) pt.typeIs PF.lookup ?_ (by with_unfolding_all rfl);refine RZ pt (aha ..) pl pu ps z0 z1 ?_ (by rw[hlen];exact ax.le z2);rw[hlen];have hp:∀{α:Type} (ys:List α) (l:Int) (n:Nat) (c:Int),gv ys l n c=(Pb 0 n).filterMap λ(k:Nat)=>ys[(l+(k:Int)*c).toNat]?:=λys l n c=>by unfold gv;rw[List.range_eq_range']
 have kF:=I5.fresh;refine⟨.ref _,_,I5.laid (t':=Z.toks) (o:=.tup (gv ws (bt xs.length o o' kk).1 (bt xs.length o o' kk).2 kk)) (λb ob q=>nG _ q) (nc _) ⟨rK (uJ ..) (ax.le z2),_,by rw[hp,hp];exact uK rv _ _ _ _,fV.new _ _⟩,rfl,?_⟩;refine p _ z _ ((e1.trans (e2.trans (e3.trans e4))).trans (Ext.lay kF)) (G4.lay kF) ?_;simp only[Rel];refine⟨_,_,rfl,.inl ⟨.inl aR,G4.fresh kF⟩,?_⟩;rw[hp,hp];exact ai.ext (Ext.lay kF) _ (ai.pick hr _ _ _ _))
@[simp] def Ku {b:FO}:w5 C g b fs d a=(C d a).bind λr=>(g d r.2).bind λl=>(b d l.2).bind λh=>(fs d h.2).bind λk=>tM r.1 l.1 h.1 k.1 k.2:=rfl
noncomputable def bp (a b:D)(g:G):Option (D×G):=if(flat a&&flat b&&decide (dep a<=60))=true then some (.bl (!bq a b),g)else none
def Ob (hu:X.A.units+64<cLine):bJ X (u3 .NotEq) (dD X.kw bp):=by
 intro r s B H x y v u Q I c h q;obtain⟨n,g,e,a,d,i,G0,b,f,q,p⟩:=q;unfold bp at q;split at q
 . rename_i z
   simp only[mS,decide_eq_true_eq]at z;cases q;exact(Iu I e a z.1.1 z.1.2 b f c h (by omega)).2 _ _ _ _ ⟨.bl _,H,I,rfl,p H n _ Ext.refl G0 (by simp[Rel])⟩
 . cases q
@[simp] def YF {b:D}:bp v b a=if(flat v&&flat b&&decide (dep v<=60))=true then some (.bl (!bq v b),a)else none:=rfl
noncomputable def fG:List D->Option (List Int)
 | []=>some []|.int i::ds=>(fG ds).map (i :: ·)|_=>none
def Bx (h:fG (v::A)=some z):∃i c,v = .int i/\z=i::c/\fG A=some c:=by
 cases v with
 |int i =>
  simp only[fG,oN]at h;obtain⟨c,a,rfl⟩:=h;exact⟨i,c,rfl,rfl,a⟩
 |_=>simp[fG]at h
theorem oF {K H ι}:∀{q:List D} {vs:List V} {g:List Value} {n:List Int},fG q=some n->ai K H ι q vs->Vals vs g->Bb g n
 | [],vs,g,n,h,r,p=>by cases r;cases p;cases h;exact .nil
 |d::ds,vs,g,n,h,r,p=>by
  obtain⟨i,y,rfl,rfl,a⟩:=Bx h;obtain⟨v,c,rfl,rfl,b⟩:=r;cases p with
  |cons u x =>
   obtain⟨t,rfl⟩:=u;exact .cons i t (oF a b x)
theorem m9:∀{g:List Value} {i:List Int},Bb g i->∃c:List (Int×Tok),g=c.map (λp=>ZQ p.1 p.2)/\i=c.map (·.1)
 |_,_,.nil=>⟨[],rfl,rfl⟩|_,_,.cons n t h=>by obtain⟨c,rfl,rfl⟩:=m9 h;exact⟨(n,t)::c,rfl,rfl⟩
noncomputable def iR (ds:List D)(g:G):Option (D×G):=match ds with| [d]=>(fg d g).bind λc=>(fG c).bind λh=>h.min?.map λm=>(.int m,g)|_=>none
def Kw (B:X.A.handled=none):dM X (.builtin "min") (lX X.kw iR):=by
 intro cv s σ H xs us Q I r q;obtain⟨C,g,ds,d,g',G0,u,q,p⟩:=q;cases ds with
 |nil=>cases q|cons e E =>
 cases E with
 |cons _ _=>cases q
 |nil =>
  simp only[iR]at q;obtain⟨ys,hx,q⟩:=bind_some q;obtain⟨ns,y,q⟩:=bind_some q;obtain⟨m,hm,q⟩:=oN.mp q;cases q;obtain⟨v,_,rfl,n,rfl⟩:=u;obtain⟨a,vs,rfl,hq,hr⟩:=ib G0 n hx;cases r with
  |cons J M =>
   cases M;cases J;obtain⟨aq,f_,o,_⟩:=I.list hq;obtain⟨b,rfl,rfl⟩:=m9 (oF y hr f_);obtain⟨l,O⟩:=agy.mp hm;have R:(b.map (λp=>ZQ p.1 p.2)).toArray=intItems b.toArray:=by simp[intItems]
   have h:=o.isList;rw[R]at h;have f:0<b.toArray.size:=by
    cases b with
    |nil=>simp at l|cons _ _=>simp
   refine min_intList B h f λv h' tk U hk=>?_;obtain⟨t,rfl⟩:=intItems_at U;obtain⟨h1,z⟩:=argBest_lt (numAt b.toArray) (b.toArray.size-1);have e:numAt b.toArray (argBest (λi j=>decide (numAt b.toArray i<numAt b.toArray j)) (b.toArray.size-1))=m:=by
    have Y:∀j,j<b.length->numAt b.toArray j=(b.map (·.1)).getD j 0:=λj c=>by rw[agM]
    have Z:numAt b.toArray (argBest (λi j=>decide (numAt b.toArray i<numAt b.toArray j)) (b.toArray.size-1))∈b.map (·.1):=by rw[agM];exact getD_mem (by rw[qV];simp at f h1 ⊢;omega)
    refine Int.le_antisymm ?_ (O _ Z);obtain⟨j,c,x⟩:=mem_getD l;rw[<- x];have:=z j (by simp at c ⊢;omega);rw[agM]at this;rw[agM];simpa[agM]using this
   rw[e];exact⟨.int m,H,I.kept hk,⟨_,rfl⟩,p H C _ Ext.refl G0 (by simp[Rel])⟩
theorem baS:∀{c:List Value} {g:List Int},Bb c g->Vals (g.map V.int) c
 |_,_,.nil=>.nil|_,_,.cons n t h=>.cons ⟨t,rfl⟩ (baS h)
theorem sg {K:KW}{H:Hp}{g:Ix}:∀c:List Int,ai K H g (c.map D.int) (c.map V.int)
 | []=>by simp[ai]|n::c=>by simp only[yp,ai];exact⟨_,_,rfl,by simp[Rel],sg c⟩
noncomputable def R0 (i j k:Nat)(b:TA):TS:=λD c H=>b c H λa g=>∃v w z,a = [v,w,z]/\D.nx (((c.set i (some v)).set j (some w)).set k (some z)) g
def Kx {k z:Str}{K:TA}{J B:Pos}{kt k2 pt2}(P:X.calm=true)(C:X.N.Nodup)(W:X.N[n]? = some x)(U:X.N[p]? = some k)(S:X.N[o]? = some z)(Q:n≠p)(T:n≠o)(Y:p≠o)(M:X.env.scope.names.lookup x=some .local)(L:X.env.scope.names.lookup k=some .local)(hz:X.env.scope.names.lookup z=some .local)(R:PA X [e,y,m] K)(hw:Ql [.Tuple [.Name x j,.Name k h,.Name z J] kt pt] (.Tuple [e,y,m] k2 pt2) X.env=pure (some [x,k,z]))(O:UT [.Tuple [.Name x j,.Name k h,.Name z J] kt pt] (.Tuple [e,y,m] k2 pt2) B.line X.env=pure false):
  PS X (.Assign [.Tuple [.Name x j,.Name k h,.Name z J] kt pt] (.Tuple [e,y,m] k2 pt2) B) (R0 n p o K):=by
 intro Z s σ H D I c;rw[exec_Assign_arm];refine l8 (Y4 ?_);rw[O];refine l8 (mA ?_);rw[if_neg (by decide)];refine l8 (Tuple_ (aV (R _ Z s σ H _ I c) λus g aO=>?_));obtain⟨vs,H1,I1,r1,l⟩:=aO;obtain⟨v,w,u,e1,l⟩:=l;subst e1;obtain⟨f,d,E,rfl,rv,vZ,r⟩:∃f d E,us = [f,d,E]/\mI v f/\mI w d/\mI u E:=by
  cases r1 with
  |cons i q =>
   cases q with
   |cons p' q' =>
    cases q' with
    |cons ZR ZS =>
     cases ZS;exact⟨_,_,_,rfl,i,p',ZR⟩
 refine z5 ?_ (by show 3<=m6;decide);have I2:mn X Z σ H1 { g with heap:=g.heap.push { cls:=.type "tuple",data:=.seq [f,d,E].toArray } }:=I1.kept (t':=g.toks) λy px a=>nG _ a;rw[hw];refine l8 (mA ?_);show wpAny (model X.prog X.w) X.A (do rule "assign.swapped-stores";let items <- unpackItems (.ref g.heap.objs.size) 3 none;aev [λv=>OL X.env z v,λv=>OL X.env k v,λv=>OL X.env x v] items.reverse;pure ag8) _ _ _;refine l8 (DK (l8 (unpackItems_tuple (items:=#[f,d,E]) (I.ok.hd P) (IsTup.new g.heap _) λh' uk=>?_)));have I3:=I2.kept (h':=h') (t':=g.toks) λy px a=>uk y px (ro (nI a)) a;show wpAny _ _ (aev [λv=>OL X.env z v,λv=>OL X.env k v,λv=>OL X.env x v] [E,d,f] >>= λ_=>pure ag8) _ _ _;refine l8 (Zt (aee (fW I3 C S (.inl hz) r (λs2 I4=>?_) (.inr hz))));refine Zt (aee (fW I4 C U (.inl L) vZ (λs3 I5=>?_) (.inr L)));refine Zt (aee (fW I5 C W (.inl M) rv (λs4 b=>afB (mA ?_)) (.inr M)));rw[aft _ _ (n7 Q),aft _ _ (n7 T),aft _ _ (n7 Y)]at b;exact⟨_,H1,b,l⟩
noncomputable def By (i j k:Nat)(fr:FA):FS:=λh g=>(fr h g).bind λr=>match r.1 with
 | [a,b,c]=>some (.nx,((h.set i (some a)).set j (some b)).set k (some c),r.2)|_=>none
def Ky {k z:Str}{C A:Pos}{kt k2 pt2}(I:X.calm=true)(Q:X.N.Nodup)(S:X.N[n]? = some x)(R:X.N[p]? = some k)(L:X.N[o]? = some z)(J:n≠p)(M:n≠o)(T:p≠o)(P:X.env.scope.names.lookup x=some .local)(O:X.env.scope.names.lookup k=some .local)(hz:X.env.scope.names.lookup z=some .local)(K:DA X [e,y,m] w)(hw:Ql [.Tuple [.Name x j,.Name k h,.Name z C] kt pt] (.Tuple [e,y,m] k2 pt2) X.env=pure (some [x,k,z]))(E:UT [.Tuple [.Name x j,.Name k h,.Name z C] kt pt] (.Tuple [e,y,m] k2 pt2) A.line X.env=pure false):
  DS X (.Assign [.Tuple [.Name x j,.Name k h,.Name z C] kt pt] (.Tuple [e,y,m] k2 pt2) A) (By n p o w):=.of (
 PS.imp (Kx I Q S R L J M T P O hz K.un hw E) λDn σ H c=>by
  obtain⟨ι,B,g,r,bY,g',G0,a,c,i⟩:=c;obtain⟨⟨ds,g1⟩,s,c⟩:=bind_some c;refine iL.bind G0 a s λU f vs l q Y d=>?_;dsimp only at c;split at c
  . rename_i e y m
    cases c;obtain⟨v,vr,rfl,fr,u,ur,rfl,b,t,tr,rfl,Z,rfl⟩:=d;exact⟨v,u,t,rfl,i U f l q _ (((Y.set fr n).set b p).set Z o)⟩
  . cases c)
@[simp] def WH:By n p o w d a=(w d a).bind λr=>match r.1 with
 | [i,b,c]=>some (.nx,((d.set n (some i)).set p (some b)).set o (some c),r.2)|_=>none:=rfl
@[simp] def WI:iR [v] a=(fg v a).bind λc=>(fG c).bind λg=>g.min?.map λm=>(.int m,a):=rfl
def n9 {t:Addr}{j:Option Int}(i:IsTup c.heap f Z)(n:c.heap.IsSliceOf t T vs .none)(o:CV T k)(r:CV vs j)(hw:bo Z.size 0 k=0/\bo Z.size Z.size j=Z.size)(h:Q (.ref f) c):wpAny (model q l) M (Pd (.ref f) (.ref t)) Q E c:=by
 obtain⟨os,b,d,e⟩:=id n;have a:c.TypeIs (.ref t) "slice":=⟨os,b,d⟩
 unfold Pd;try with_reducible refine wh ?_
 first|refine l8 (mA ?_)|skip
 refine l8 (adA i.typeIs (by decide) ?_);refine l8 (HX (name:=vx "__getitem__") i.typeIs PF
  (yc PF i.typeIs ae0 ?_ (afk _ _)))
 show wpAny _ _ (ac9 (.ref f) >>= _) _ _ c;refine l8 (agQ i ?_);refine l8 (YX a ?_);rw[if_pos (by decide)];refine l8 (ky n o r ?_);have g:((((bo Z.size 0 k:Nat):Int)== 0&&(1:Int)== 1&&(bo Z.size Z.size j-bo Z.size 0 k)== Z.size)=true):=by rw[hw.1,hw.2];simp
 show wpAny _ _ (if(((bo Z.size 0 k:Nat):Int)== 0&&(1:Int)== 1&&(bo Z.size Z.size j-bo Z.size 0 k)== Z.size)=true then _ else _) _ _ c;rw[if_pos g];unfold Builtin.Tuple.tupleIsExact;refine l8 (l8 (YX i.typeIs (mA ?_)));rw[if_pos (by decide)];refine l8 (DK (mA ⟨_,rfl,mA h⟩))
noncomputable def WK (K:KW):V->Option Int->Option Int->Hp->VK->Prop:=λx g b H Q=>∃a c,x = .ref a/\fz K H a c/\(bo c.length 0 g=0/\bo c.length c.length b=c.length)/\Q (.ref a) H
def Gv:qf X (WK X.kw):=by
 intro y s B H x v o j C n l Q I e f d pu h;obtain⟨a,u,rfl,i,hw,q⟩:=h;cases e;obtain⟨c,r,b,p⟩:=I.tuple i;have g:c.toArray.size=u.length:=by rw[om];exact r.length.symm
 refine⟨"tuple",_,PF.lookup,b.typeIs,?_⟩;exact n9 b f d pu (by rw[g];exact hw) ⟨.ref a,H,I,rfl,q⟩
noncomputable def jS (d:D)(b a:Option Int)(g:G):Option (D×G):=match d with
 |.tup c=>some (.tup (wu c b a),g)|d=>N2 d b a g
def DN {a:Option Int}(h:l_ A.length k a=true):wu A k a=A:=by unfold l_ at h;rw[mS,decide_eq_true_eq,decide_eq_true_eq]at h;unfold wu;rw[h.1,h.2];simp
noncomputable def d_ (b:FE)(c a:FO):FE:=λi g=>(b i g).bind λr=>(c i r.2).bind λl=>(a i l.2).bind λh=>jS r.1 l.1 h.1 h.2
def DP {K E:Option Expr}(A:DE X e C)(M:DO X K g)(R:DO X E fs):DE X (.Subscript e (.Slice K E none j) h) (d_ C g fs):=.of (
 PE.imp (FV (qf.or Kk Gv) A.un M.un R.un) λσ H Q L=>by
  obtain⟨ι,O,I,d,g',G0,S0,L,p⟩:=L;obtain⟨⟨d1,g1⟩,h1,L⟩:=bind_some L;obtain⟨⟨l,g2⟩,h2,L⟩:=bind_some L;obtain⟨⟨u,g3⟩,h3,L⟩:=bind_some L;refine tD.bind G0 S0 h1 λH1 U v e1 G1 S1 r1=>?_;refine⟨U,O,g1,l,g2,G1,S1,h2,λH2 Y s G2=>?_⟩;refine⟨Y,O,g2,u,g3,G2,S1.ext s,h3,λy Z e3 i=>?_⟩;have o:=Rel.ext (s.trans e3) _ r1;have r:=p.mono (e1.trans (s.trans e3));have lst:∀{B:List D} {e:Addr} {J:List V},v = .ref e->dy X.kw y e J->ai X.kw y Z B J->some (D.lst (wu B l u),g3)=some (d,g')->N4 X.kw v l u y Q:=fun {B e J} ev a f R=>by cases R;refine .inr ⟨e,J,ev,a,λq b=>r _ _ _ (Ext.lay b) (i.lay b) ?_⟩;simp only[Rel];exact⟨q,_,rfl,.inl ⟨.inl aR,i.fresh b,i.iK b⟩,ai.ext (Ext.lay b) _ (f.N3 l u)⟩
  dsimp only at L;cases d1 with
  |tup B =>
   simp only[jS]at L;cases L;have r4:=o;obtain⟨e,J,rfl,a,f⟩:=o;by_cases z:l_ B.length l u=true
   . refine .inr ⟨e,J,rfl,a.sq,?_,r _ _ _ Ext.refl i ?_⟩
     . unfold l_ at z
       rw[f.length,mS,decide_eq_true_eq,decide_eq_true_eq]at z;exact z
     . rw[DN z];exact r4
   . refine .inl (.inl ⟨e,J,rfl,a.sq,λc=>z ?_,λq b=>r _ _ _ (Ext.lay b) (i.lay b) ?_⟩)
     . unfold l_
       rw[f.length,mS,decide_eq_true_eq,decide_eq_true_eq];exact c
     . simp only[Rel]
       exact⟨q,_,rfl,.inl ⟨.inl aR,i.fresh b⟩,ai.ext (Ext.lay b) _ (f.N3 l u)⟩
  |lst B =>
   simp only[jS,N2]at L;obtain⟨e,J,x,a,f⟩:=o;exact .inl (lst x a.sq f L)
  |ref n =>
   simp only[jS,N2]at L;split at L
   . rename_i B hx
     obtain⟨e,x,A⟩:=o;obtain⟨J,hv,f⟩:=i.at hx A;exact .inl (lst x (.of hv) f L)
   . cases L
  |_=>cases L)
@[simp] def YG:d_ C g fs d a=(C d a).bind λr=>(g d r.2).bind λl=>(fs d l.2).bind λh=>jS r.1 l.1 h.1 h.2:=rfl
mutual
noncomputable def sm:D->Bool
 |.aA=>true|.bl _=>true|.int i=>decide (i.natAbs<10 ^ 19)|.str x=>decide ((reprText x).length<=20)|.tup c=>Ue c|.lst _=>false|.dI=>false|.ref _=>false|.az _=>false|.fn _ _=>false
noncomputable def Ue:List D->Bool
 | []=>true|d::ds=>sm d&&Ue ds
end
mutual
noncomputable def nd:D->Nat
 |.tup c=>Ug c+1|_=>1
noncomputable def Ug:List D->Nat
 | []=>0|d::ds=>nd d+Ug ds
end
noncomputable def kJ (nn L:Nat)(t:FG)(c:FT)(e:FE):Nat->Sg->G->Option (List D×G)
 | 0,_,g=>(g[nn]?).bind λh=>if h.length=L then some ([],g)else none|r+1,i,g=>(g[nn]?).bind λh=>if h.length=L then(h[L-(r+1)]?).bind λd=>(t d i g).bind λq=>(c q.1 q.2).bind λk=>if k.1=true then(e q.1 k.2).bind λa=>(kJ nn L t c e r q.1 a.2).bind λz=>some (a.1::z.1,z.2)else kJ nn L t c e r q.1 k.2 else none
noncomputable abbrev iu:=Sg->G->Option (Nat×Nat×G)
noncomputable def Bz (K:KW)(J:It)(H:Hp)(q:Ix)(nn L:Nat):Prop :=
 ∀(i:Nat) g c n,iZ H q g c->au K g c n->∀p,n[nn]? = some p->p.length=L->(L<=i->J.stop i g) /\ ∀d,p[i]? = some d->J.go i g /\ ∀x h,J.yR i g x h->Ext g c h c/\au K h c n/\Rel K h c d x
inductive Od (K:KW)(f:iu)(σ:mO)(H:Hp)(R:(It->Hp->Prop)):Prop
 |mk (ι:Ix) (σd:Sg) (g:G) (nn:Nat) (L:Nat) (g':G) (h0:au K H ι g) (h1:bC K H ι σd σ) (h2:f σd g=some (nn,L,g')) (h3:∀H' ι' J,Ext H ι H' ι'->au K H' ι' g'->Bz K J H' ι' nn L->R J H'):Od K f σ H R
structure Iy (X:Cx)(tg iter:Expr)(f:iu):Prop where of ::
 un:PI X tg iter (Od X.kw f)
noncomputable def Gw (f:FE):iu:=λc g=>(f c g).bind λr=>match r.1 with|.ref n=>(r.2[n]?).bind λh=>some (n,h.length,r.2)|_=>none
def Bz.ref {K H ι a n L}(h:dU ι n a false):Bz K (HM K a) H ι n L:=λi g r u l f B p s=>by obtain⟨vs,o,c⟩:=f.at p (l.at h);have b:dy K g a vs:=.inl (.inl o);refine⟨λh=>⟨vs,b,by rw[<- c.length];omega⟩,λd hd=>?_⟩;obtain⟨v,e,j⟩:=c.get hd;refine⟨⟨vs,v,b,e⟩,λx q y=>?_⟩;obtain⟨rfl,y⟩:=y;have:=y vs b;rw[e]at this;cases this;exact⟨Ext.refl,f,j⟩
def zJ (B:DE X y C):Iy X e y (Gw C):=.of (PI.imp (yS B.un) λI H Q h=>by
 obtain⟨J,M,g,nn,L,u,G0,f,h,p⟩:=h;obtain⟨⟨o,O⟩,r,h⟩:=bind_some h;cases o with
 |ref n =>
  obtain⟨R,s,h⟩:=bind_some h;cases h;refine tD.bind G0 f r λE i v j c z l=>?_;obtain⟨a,rfl,b⟩:=l;obtain⟨d,q,x⟩:=c.at s b;exact⟨a,rfl,⟨d,.inl (.inl q)⟩,p E i _ j c (.ref b)⟩
 |_=>cases h)
noncomputable def mh (mk:List D->G->Option (D×G))(a:iu)(fr:List (Option Nat))(t:FG)(c:FT)(e:FE):FE:=λh g=>(a h g).bind λr=>if ax r.2.1=true then(kJ r.1 r.2.1 t c e r.2.1 (bZ fr h) r.2.2).bind λq=>mk q.1 q.2 else none
noncomputable def Oe (a:iu):nR:=λc g=>(a c g).map λr=>(λg=>g[r.1]?,r.2.1,r.2.2)
def zK {s:iu}(h:Iy X e y s):qm X e y (Oe s):=.of (PI.imp h.un λB H Q q=>by obtain⟨u,j,g,r,L,o,G0,f,d,p⟩:=q;obtain⟨⟨nn,L1,v⟩,n,x⟩:=oN.mp d;cases x;exact⟨u,j,g,nn,L1,v,G0,f,n,λb c J i l a=>p b c J i l a⟩)
theorem w6 {nn L:Nat}{t:FG}{c:FT}{e:FE}:∀(k:Nat) (h:Sg) (g:G),kJ nn L t c e k h g=c9 (λg=>g[nn]?) L t c e k h g
 | 0,h,g=>by simp only[kJ,c9]|k+1,h,g=>by simp only[kJ,c9,w6 k]
def w8 {a:iu}:mh R a u t Y C=iO R (Oe a) u t Y C:=by
 funext σ g;unfold mh iO Oe;cases a σ g with
 |none=>rfl|some r=>simp only[m5,E6,w6]
def Gx {p:iu}(d:X.xe=λ_ _=>False)(h:X.calm=true)(ok:dB X K u J)(a:Iy X e y p)(f:∀c g H i n,DG (aN X K J c g H i n) e t/\fD (aN X K J c g H i n) B Y/\DE (aN X K J c g H i n) m C)(b:∀x,zg y X.env x=pure x):DE X (.ListComp m [⟨e,y,B,0⟩] J j) (mh bA p u t Y C):=by
 rw[w8];exact qH d h ok (zK a) f b
@[simp] def YH:Gw C d a=(C d a).bind λr=>match r.1 with|.ref c=>(r.2[c]?).bind λg=>some (c,g.length,r.2)|_=>none:=rfl
@[simp] def Uh {mk:iu}:mh R mk u t Y C d a=(mk d a).bind λr=>if ax r.2.1=true then(kJ r.1 r.2.1 t Y C r.2.1 (bZ u d) r.2.2).bind λq=>R q.1 q.2 else none:=rfl
def Gy {p:FI}(d:X.xe=λ_ _=>False)(h:X.calm=true)(ok:dB X K u J)(a:DI X e y p)(f:∀c g H i n,DG (aN X K J c g H i n) e t/\fD (aN X K J c g H i n) B Y/\DE (aN X K J c g H i n) m C)(b:∀x,zg y X.env x=pure x):DE X (.ListComp m [⟨e,y,B,0⟩] J j) (bH gJ p u t Y C):=by
 rw[pC];exact oz d h ok (oA a) f b
noncomputable def bM:FE:=λ_ _=>none
def bN:DE X e bM:=.of (λi s n H Q I h=>by obtain⟨q,a,g,d,b,G0,c,h,p⟩:=h;cases h)
@[simp] def WL:bM d a=none:=rfl
end
section
open PyProof.Rows
open Sem (wp)
open Builtin
def baz:fillsNumberSlot (.type "list") "mul" = pure false :=
 afP (id:="list.__mul__") (r:=some (.builtin "list.__rmul__")) F.slot_list_mul.lookup (by decide +kernel) F.slot_list_rmul.lookup (by decide +kernel)
def baA:agK (.type "list")=pure (some (.builtin "list.__mul__")):=by unfold agK;rw[aeD (T:="list") (name:="__mul__") (id:="list.__mul__") F.slot_list_mul.lookup (by decide +kernel),aeD (T:="list") (name:="__rmul__") (id:="list.__rmul__") F.slot_list_rmul.lookup (by decide +kernel)];rfl
def vk (a:Int)(t:Tok)(l:Addr)(p:Array Value)(n:Nat)(f:Option Addr)(i:Array (Option Value)):
  Meets (um.«int.__rmul__» ⟨[.int a t,.ref l],[]⟩) (λ_ R s=>s.heap.get? l=some { cls:=.type "list",dict:=f,data:=.seq p n,slots:=i }/\R (.ok (.ret agL)) s):=
 .of_wp λprog w A R s h=>by obtain⟨b,g,d,e,os⟩:=s;obtain⟨c,h⟩:=h;wp_walk;exact⟨_,rfl,h⟩
def DQ (l:Addr)(r:Array Value)(n:Nat)(f:Option Addr)(i:Array (Option Value))(x:Int)(u:Tok)(q:¬(!adW x)=true)
  (j:¬r.size*x.toNat>(2 ^ 63-1) / 8) (p:¬acm (r.size*x.toNat)=true) (e:r.isEmpty=false) (o:((nN x.toNat r).foldl (· ++ ·) #[]).size<=m6):
  Meets (um.«list.__mul__» ⟨[.ref l,.int x u],[]⟩) (λ_ R s=>s.heap.get? l=some { cls:=.type "list",dict:=f,data:=.seq r n,slots:=i }/\R (.ok (.ret (FX s.heap.objs.size))) { s with heap:=s.heap.push { cls:=wo "list",data:=Data.seq ((nN x.toNat r).foldl (· ++ ·) #[]) },toks:=s.toks }):=
 .of_wp λprog w A R s h=>by
  obtain⟨b,g,d,c,os⟩:=s;obtain⟨a,h⟩:=h;have v:=adn;have y:=aet
  wp_walk using PN a
  exact⟨_,rfl,by rw[if_neg (by simp[e])];exact h⟩
noncomputable def R5 (K:KW):R2:=λx y H Q=>∃a k c,x = .ref a/\y = .int k/\dy K H a c/\c ≠ []/\0<=k/\k<2 ^ 62/\c.length*k.toNat<=16777216 /\ ∀p,H p=none->Q (.ref p) (upd H p (.lst (nN k.toNat c).flatten))
def zL:bJ X (ta .Mult) (R5 X.kw):=by
 intro cv s σ H x y v u Q I g B h;obtain⟨a,k,C,rfl,rfl,hq,hx,h1,h2,q,E⟩:=h;cases g;obtain⟨t,rfl⟩:=B;obtain⟨c,r,ht,Zz⟩:=I.list hq;have J:=r.length;obtain⟨⟨cls,dd,data,l⟩,n,d,j,o,hd⟩:=id ht;simp only at j hd o;subst j hd o;refine wpAny_binaryOp_repeat_ref (T:="list") (U:="int") (by decide) ⟨_,d,rfl⟩ (λz=>afL z k t) baz F.fills_int_mul F.slot_int_rmul baA F.slot_int_index.lookup
   (SJ F.slot_int_rmul (afL s k t) F.entry_int_rmul (F.args_int_rmul_2 _ _) (vk k t a c.toArray n none l) ⟨d,rfl,⟨_,d,rfl⟩,?_⟩)
 have M:c ≠ []:=λe=>hx (by subst e;cases r;rfl);have fresh:H s.heap.objs.size=none:=I.aW.fresh (nc _);have p:agH (λO R=>O++R) #[] (nN k.toNat c.toArray)=(nN k.toNat c).flatten.toArray:=by have:=bam c k.toNat [];rw[Q5]at this;exact this
 have f:m6=16777216:=IV;have i:c.length*k.toNat<=16777216:=by rw[<- J];exact q
 have Y:¬(!adW k)=true:=by unfold adW;simp;omega
 have Z:¬acm (c.toArray.size*k.toNat)=true:=by rw[wq (by rw[om,f];exact i)];simp
 refine SJ F.slot_list_mul ⟨_,d,rfl⟩ F.entry_list_mul (F.args_list_mul_2 _ _) (DQ a c.toArray n none l k t Y (by rw[om];omega) Z (by simp[M]) ?_) ⟨d,?_⟩
 . rw[p,om,len_rep,WM,f];exact i
 . rw[p]
   refine⟨.ref _,_,I.laid (t':=s.toks) (λb u e=>nG _ e) (nc _) (show dJ X.prog X.w _ _ _ (.lst (nN k.toNat C).flatten) from⟨by rw[len_rep,WM,f];exact q,_,0,r.rep k.toNat,p9 _ rfl⟩),rfl,E _ fresh⟩
noncomputable def j5 (b a:D)(g:G):Option (D×G):=match b,a with
 |.lst c,.int k=>if(!c.isEmpty&&decide (0<=k)&&fA k&&ax (c.length*k.toNat))=true then some (.lst (nN k.toNat c).flatten,g)else none|b,a=>cK b a g
def Kz:bJ X (ta .Mult) (dD X.kw j5):=by
 intro B s C H x y v u Q I i l q;obtain⟨E,g,J,r,d,n,G0,c,h,q,p⟩:=q;unfold j5 at q;split at q
 . rename_i O k
   split at q
   . rename_i z
     simp only[mS,decide_eq_true_eq,yA]at z;cases q;simp only[Rel]at c h;subst h;obtain⟨a,o,rfl,hq,f⟩:=c;have hk:=fA.and z.1.2;have j:=ax.le z.2;rw[IV]at j;refine zL B s C H _ _ v u Q I i l ⟨a,k,o,rfl,rfl,hq.sq,?_,z.1.1.2,hk.2,by rw[<- f.length];exact j,λM b=>?_⟩
     . intro e
       subst e;have:=f.length;simp at this;subst this;simp at z
     . refine p _ _ _ (Ext.lay b) (G0.lay b) ?_
       simp only[Rel];exact⟨M,_,rfl,.inl ⟨.inl aR,G0.fresh b,G0.iK b⟩,ai.ext (Ext.lay b) _ (f.rep _)⟩
   . cases q
 . exact wO B s C H x y v u Q I i l ⟨E,g,J,r,d,n,G0,c,h,q,p⟩
@[simp] def Ui {j:Int}:j5 (.int i) (.int j) a=if cR i j=true then some (.int (i*j),a)else none:=rfl
@[simp] def Uj:j5 (.tup A) (.int i) a=cK (.tup A) (.int i) a:=rfl
@[simp] def Uk:j5 (.lst A) (.int i) a=if(!A.isEmpty&&decide (0<=i)&&fA i&&ax (A.length*i.toNat))=true then some (.lst (nN i.toNat A).flatten,a)else none:=rfl
end
section
open PyProof.Rows
def Of {g:Addr}(I:mn X b r H c)(s:gI X b H g)(h:dy X.kw H f U):f≠g:=λz=>by
 subst z;obtain⟨p,u,v,d,x,e⟩:=s;rcases h with h|⟨o,aq,n,hk,_⟩
 . rcases h with h|⟨o,h⟩<;>rw[p]at h<;>cases h
 . have i:X.base.get? f=some o:=I.ok.mod.rD f o hk
   rcases d with q|q
   . exact I.ok.qy f o i q
   . exact GW _ (wi (nI (I.ok.bs f o i).1) q)
end
section
open PyProof.Rows SeqAt
variable {Z:Array qt}{Y:Ix}
noncomputable def gw (s:my)(m:Nat)(u:Value):Prop:=∀(prog:uy) (w:World) (A:qc) (E:Value->my->Prop) (Q:Bool->my->Prop),Q true s->wpAny (model prog w) A (age m u) Q E s
structure Iz (A:qc)(s:my)(key:Value)(h:Int)(es:Array qt)(t:Nat->Bool):Prop where
 eq:∀i e,es[i]? = some e->e.hash=h->EqAt A s e.key key (t i)
 hs:∀i e,es[i]? = some e->t i=true->e.hash=h
 qk:gw s 8 key
 qe:∀e∈es,gw s 8 e.key
 rf:∀e∈es,e.key=key->e.hash=h
 un:∀i j,i<es.size->j<es.size->t i=true->t j=true->i=j
 st:∀x tk,key = .str x tk->∀i e,es[i]? = some e->isExactStrKey e.key=true->e.key.isStr x=t i
def qM {Q:Bool->my->Prop}(f:gw c 8 T)(e:∀v∈R,gw c 8 v)(prog:Q false c):wpAny (model q l) M (tableMayTell T R) Q E c:=by
 unfold tableMayTell;split
 . exact mA prog
 refine l8 (f q l _ _ _ ?_);simp only[Zx,rk,if_false];refine l8 (ado _ (λrest r z=>z=c/\r=(none,()) /\ ∀v∈rest,gw c 8 v) _ ?_ ?_ _ _ ⟨rfl,rfl,e⟩)
 . rintro x rest r z ⟨rfl,rfl,a⟩
   refine l8 (a x sv q l _ _ _ ?_);simp only[Zx,rk,if_false];exact mA ⟨rfl,rfl,λv b=>a v (p8 _ b)⟩
 . rintro r z ⟨rfl,rfl,_⟩
   exact mA prog
def m_:n∈F2 Z.size (λn=>Z[n]?.map (·.hash)) i ↔ ∃e,Z[n]? = some e/\e.hash=i:=by
 unfold F2;simp only[EZ,aed,beq_iff_eq,oN];constructor
 . rintro⟨_,e,a,b⟩;exact⟨e,a,b⟩
 . rintro⟨e,a,b⟩;exact⟨(ac_.mp a).1,e,a,b⟩
def w9 {es:Array qt}{h:Int}:(F2 es.size (λi=>es[i]?.map (·.hash)) h).Nodup:=by unfold F2;exact af4.sublist adp
def tN {s:my}{o:Obj}{es:Array qt}{h:Int}{t:Nat->Bool}{Q:Option Nat->my->Prop}(C:s.heap.get? f=some o)(B:o.data = .dict es n)(K:Iz M s T h es t)(I:(∀i,i<es.size->t i=false)->Q none s)(H:∀i,i<es.size->t i=true->Q (some i) s):
  wpAny (model q l) M (dictFind f T h) Q E s:=by
 have none_of:(∀i∈F2 es.size (λi=>es[i]?.map (·.hash)) h,t i=false)->Q none s:=λz=>I λi c=>by
  cases ht:t i with
  |false=>rfl
  |true =>
    have prog:=Oa c;rw[z i (m_.mpr ⟨_,prog,K.hs i _ prog ht⟩)]at ht;cases ht
 have gen:∀tells:Bool,tells=false->wpAny (model q l) M (do
    let mut J:Option Nat:=none
    for i in F2 es.size (λi=>es[i]?.map (·.hash)) h do
      if let some e:=es[i]? then
        if e.hash == h then
          let before <- dictEpoch f (keyPart T);let same <- eqBool e.key T
          if(<- dictEpoch f (keyPart T)) != before then unsupported "dict.changed-during-lookup"
          if same then
            if J.isSome then unsupported "dict.find:order-among-keys-of-one-hash"
            rule "dict.find.hit"
            if((F2 es.size (λi=>es[i]?.map (·.hash)) h).filterMap λi=>es[i]?.map (·.key)).length<2 then return some i
            J:=some i
          else
            rule "dict.find.same-hash-other-key"
            if tells && !(0<=h&&h<32)then unsupported "dict.find:asked-again-or-not-hangs-on-the-table"
    return J) Q E s:=λtells U=>by
  subst U
  refine l8 (ado _ (λrest (b:Option (Option Nat)×Option Nat) z=>z=s /\ ∃done,F2 es.size (λi=>es[i]?.map (·.hash)) h=done++rest/\b.1=none /\
    ((b.2=none /\ ∀i∈done,t i=false) \/ ∃i,b.2=some i/\i∈done/\i<es.size/\t i=true)) _ ?_ ?_ _ _ ⟨rfl,[],rfl,rfl,.inl ⟨rfl,λi z=>by simp at z⟩⟩)
  . rintro x rest ⟨X,J⟩ z ⟨rfl,done,d,rfl,j⟩
    have u:x∈F2 es.size (λi=>es[i]?.map (·.hash)) h:=by rw[d];simp
    obtain⟨e,g,A⟩:=m_.mp u;have p:x<es.size:=(ac_.mp g).1
    have R:F2 es.size (λi=>es[i]?.map (·.hash)) h=(done ++ [x])++rest:=by rw[d];simp
    rw[g];dsimp only at j ⊢;rw[if_pos (by simpa using A)];refine l8 (S3 C B (l8 (K.eq x e g A q l _ _ (l8 (S3 C B ?_)))));rw[if_neg (by simp)];cases ht:t x with
    |true =>
      have O:J=none:=by
        rcases j with⟨O,_⟩|⟨i,_,c,eJ,kK⟩
        . exact O
        . have:=K.un i x eJ p kK ht
          subst this;have nd:=w9 (es:=es) (h:=h);rw[d,TJ]at nd;exact absurd rfl (nd.2.2 i c i sv)
      subst O;simp only[if_true,ahe,rk,if_false];try refine l8 (mA ?_)
      refine l8 (DK ?_);split
      . exact mA (mA (H x p ht))
      . exact mA ⟨rfl,done ++ [x],R,rfl,.inr ⟨x,rfl,by simp,p,ht⟩⟩
    |false =>
      simp only[rk,if_false,agp];refine l8 (DK ?_);refine mA ⟨rfl,done ++ [x],R,rfl,?_⟩;rcases j with⟨O,hz⟩|⟨i,w,c,eJ,kK⟩
      . exact .inl ⟨O,λi c=>by
          rcases nQ.mp c with c|c
          . exact hz i c
          . simp at c;subst c;exact ht⟩
      . exact .inr ⟨i,w,nQ.mpr (.inl c),eJ,kK⟩
  . rintro⟨X,J⟩ z ⟨rfl,done,d,rfl,j⟩
    dsimp only at j ⊢;refine mA ?_;rcases j with⟨rfl,hz⟩|⟨i,rfl,_,eJ,kK⟩
    . exact none_of (by rw[d];simpa using hz)
    . exact H i eJ kK
 have plain:wpAny (model q l) M (dictWalkPlain f T h es (F2 es.size (λi=>es[i]?.map (·.hash)) h)) Q E s:=by
  unfold dictWalkPlain
  refine l8 (ado _ (λrest b z=>z=s /\ ∃done,F2 es.size (λi=>es[i]?.map (·.hash)) h=done++rest/\b=(none,()) /\ ∀i∈done,t i=false) _ ?_ ?_ _ _ ⟨rfl,[],rfl,rfl,λi z=>by simp at z⟩)
  . rintro x rest b z ⟨rfl,done,d,rfl,j⟩
    have u:x∈F2 es.size (λi=>es[i]?.map (·.hash)) h:=by rw[d];simp
    obtain⟨e,g,A⟩:=m_.mp u;have p:x<es.size:=(ac_.mp g).1;rw[g];dsimp only;rw[if_pos (by simpa using A)];refine l8 (S3 C B (l8 (K.eq x e g A q l _ _ (l8 (S3 C B ?_)))));rw[if_neg (by simp)];cases ht:t x with
    |true =>
      simp only[if_true];refine l8 (DK ?_);exact mA (mA (H x p ht))
    |false =>
      simp only[rk,if_false];refine l8 (DK ?_);refine mA ⟨rfl,done ++ [x],by rw[d];simp,rfl,λi c=>?_⟩;rcases nQ.mp c with c|c
      . exact j i c
      . simp at c;subst c;exact ht
  . rintro b z ⟨rfl,done,d,rfl,j⟩
    exact mA (none_of (by rw[d];simpa using j))
 have keys:∀v∈(F2 es.size (λi=>es[i]?.map (·.hash)) h).filterMap (λi=>es[i]?.map (·.key)),gw s 8 v:=λv Y=>by obtain⟨i,_,c⟩:=Rx.mp Y;obtain⟨e,g,rfl⟩:=oN.mp c;exact K.qe e (aeJ g)
 unfold dictFind;refine wh ?_;refine l8 (adb C B ?_);cases T with
 |str x Z =>
  refine Em (λkz=>?_) (λ_=>?_)
  . unfold foundByValue
    have y:∀i e,es[i]? = some e->e.key.isStr x=t i:=λi e g=>K.st x Z rfl i e g (Array.all_eq_true_iff_forall_mem.mp kz e (aeJ g))
    cases hf:es.findIdx? (·.key.isStr x)with
    |none =>
      refine mA (I λi c=>?_);rw[<- y i _ (Oa c)];simpa using (Array.findIdx?_eq_none_iff.mp hf) es[i] (afF c)
    |some i =>
      obtain⟨c,w,_⟩:=Array.findIdx?_eq_some_iff_getElem.mp hf;have prog:=Oa c;rw[y i _ prog]at w;dsimp only;rw[prog];refine l8 (S3 C B (l8 (K.eq i _ prog (K.hs i _ prog w) q l _ _ (l8 (S3 C B ?_)))));refine Em (λz=>by simp at z) (λ_=>?_);rw[w];exact l8 (DK (mA (H i c w)))
  . refine Em (λ_=>plain) (λ_=>?_)
    refine Em (λ_=>l8 (mA ?_)) (λ_=>l8 (qM K.qk keys ?_))<;>
      exact Em (λz=>by simp at z) (λ_=>gen false rfl)
 |ref a =>
  refine Em (λz=>by simp[carriedByValue]at z) (λ_=>?_);refine Em (λz=>?_) (λ_=>?_)
  . rw[<- Array.any_toList,aeC]at z
    obtain⟨e,g,r⟩:=z;simp only[mS,beq_iff_eq,bne_iff_ne,ne_eq]at r;exact absurd (K.rf e (Array.mem_toList_iff.mp g) r.1) r.2
  . refine Em (λ_=>l8 (mA ?_)) (λ_=>l8 (qM K.qk keys ?_))<;>
      exact Em (λz=>by simp at z) (λ_=>gen false rfl)
 |_ =>
  refine Em (λ_=>plain) (λ_=>?_);refine Em (λ_=>l8 (mA ?_)) (λ_=>l8 (qM K.qk keys ?_))<;>
    exact Em (λz=>by simp at z) (λ_=>gen false rfl)
mutual
theorem si:∀(d:D) {n:Nat} {s:my} {A:qc} {x:V} {u:Value} {Q:Int->my->Prop},mn X b r H s->aU n d=true->Rel X.kw H Y d x->mI x u->A.units+n<cLine ->
  (∀J,Q (hD X.w d) { s with toks:=J })->wpAny (model q X.w) A (pyHash u) Q E s
 |.aA,n,s,A,x,u,Q,I,k,B,C,hu,g=>by cases B;cases C;simp only[hD]at g;exact agY (T:="NoneType") rfl F.slot_NoneType_hash F.entry_NoneType_hash (F.args_NoneType_hash_1 _) (af5 _) (.inr (by omega)) (l8 (mA (l8 (wpAny_mkInt (mA ⟨_,_,rfl,g _⟩)))))|.int i,n,s,A,x,u,Q,I,k,B,C,hu,g=>by cases B;obtain⟨t,rfl⟩:=C;simp only[hD]at g;exact wpAny_pyHash_int (g _)
 |.str y,n,s,A,x,u,Q,I,k,B,C,hu,g=>by cases B;obtain⟨t,rfl⟩:=C;simp only[hD]at g;exact wpAny_pyHash_str (g _)
 |.tup U,n+1,s,A,x,u,Q,I,k,B,C,hu,g=>by obtain⟨a,z,rfl,f,l⟩:=B;cases C;obtain⟨v,h,⟨o,c,j,m,e⟩,_⟩:=I.tuple f.sq;simp only[hD]at g;simp only[aU]at k;refine agY (T:="tuple") ⟨o,c,j⟩ F.slot_tuple_hash F.entry_tuple_hash (F.args_tuple_hash_1 _) (af5 _) (.inr (by omega)) ?_;show wpAny _ _ (ac9 (.ref a) >>= _) _ _ s;refine l8 (wpAny_tupleItemsOf c e (l8 ?_));rw[<- ahf];refine zM U (acc:=#[]) I k l h (by rw[in1_units];omega) λJ M p=>?_;show wpAny _ _ (retInt (afM M.toList)) _ _ _;rw[p];exact l8 (wpAny_mkInt (mA ⟨_,_,rfl,g _⟩))
 |.tup U,0,s,A,x,u,Q,I,k,B,C,hu,g=>by simp[aU]at k|.bl _,n,s,A,x,u,Q,I,k,B,C,hu,g=>by simp[aU]at k|.lst _,n,s,A,x,u,Q,I,k,B,C,hu,g=>by simp[aU]at k|.dI,n,s,A,x,u,Q,I,k,B,C,hu,g=>by simp[aU]at k|.ref _,n,s,A,x,u,Q,I,k,B,C,hu,g=>by simp[aU]at k|.az _,n,s,A,x,u,Q,I,k,B,C,hu,g=>by simp[aU]at k|.fn _ _,n,s,A,x,u,Q,I,k,B,C,hu,g=>by simp[aU]at k
theorem zM:∀(ds:List D) {n:Nat} {s:my} {A:qc} {O:List V} {R:List Value} {acc:Array Int} {Q:Array Int->my->Prop},mn X b r H s->kC n ds=true->ai X.kw H Y ds O->Vals O R->A.units+n<cLine ->
  (∀J M,M.toList=acc.toList++C6 X.w ds->Q M { s with toks:=J }) ->
  wpAny (model q X.w) A (forIn R acc λx B=>do let h <- pyHash x;pure agN;pure (TV (B.push h))) Q E s
 | [],n,s,A,O,R,acc,Q,I,k,B,C,hu,g=>by cases B;cases C;exact mA (g s.toks acc (by simp[C6]))
 |d::ds,n,s,A,O,R,acc,Q,I,k,B,C,hu,g=>by
  obtain⟨v,i,rfl,e,a⟩:=B;simp only[kC,mS]at k;cases C with
  |cons Z rr =>
   rw[ad1];refine l8 (l8 (si d I k.1 e Z hu λJ=>l8 (mA (mA ?_))));exact zM ds (I.tok J) k.2 a rr hu λc M f=>g c M (by simp[f,C6])
end
mutual
theorem tO:∀(d:D) {n m:Nat} {s:my} {x:V} {u:Value},mn X b r H s->aU n d=true->n<=m->Rel X.kw H Y d x->mI x u->gw s m u
 |.aA,n,m,s,x,u,I,k,hm,g,B=>by cases g;cases B;intro q w A E Q J;unfold age;exact mA J|.int i,n,m,s,x,u,I,k,hm,g,B=>by cases g;obtain⟨t,rfl⟩:=B;intro q w A E Q J;unfold age;exact mA J
 |.str y,n,m,s,x,u,I,k,hm,g,B=>by cases g;obtain⟨t,rfl⟩:=B;intro q w A E Q J;unfold age;exact mA J
 |.tup R,n+1,m,s,x,u,I,k,hm,g,B=>by
  obtain⟨a,M,rfl,hq,C⟩:=g;cases B;obtain⟨p,f_,⟨o,h,h2,z,l⟩,_⟩:=I.tuple hq.sq;simp only[aU]at k;intro q w A E Q J;have e:s.TypeIs (.ref a) "tuple":=⟨o,h,h2⟩
  obtain⟨m,rfl⟩:∃j,m=j+1:=⟨m-1,by omega⟩
  unfold age;refine l8 (agd e F.slot_tuple_eq.lookup ?_);show wpAny _ _ (isInstance (.ref a) (.type "tuple") >>= _) _ _ s;refine l8 (adQ e isSubtype_tuple_tuple ?_);simp only[Zx,rk,if_false];refine l8 (adJ h l (l8 ?_));show wpAny _ _ (forIn p.toArray _ _) _ _ s;rw[<- ahf];have U:=w_ R (m:=m) I k (by omega) C f_;refine ado _ (λrest g c=>g.1=none/\c=s /\ ∀v∈rest,gw s m v) _ ?_ ?_ _ _ ⟨rfl,rfl,U⟩
  . rintro v rest g c ⟨C,rfl,f⟩
    refine l8 (f v sv q w _ _ _ ?_);simp only[Zx,rk,if_false];exact mA ⟨rfl,rfl,λu Z=>f u (p8 _ Z)⟩
  . rintro⟨r1,r2⟩ c ⟨C,rfl,_⟩
    simp only at C;subst C;exact mA J
 |.tup R,0,m,s,x,u,I,k,hm,g,B=>by simp[aU]at k|.bl _,n,m,s,x,u,I,k,hm,g,B=>by simp[aU]at k|.lst _,n,m,s,x,u,I,k,hm,g,B=>by simp[aU]at k|.dI,n,m,s,x,u,I,k,hm,g,B=>by simp[aU]at k|.ref _,n,m,s,x,u,I,k,hm,g,B=>by simp[aU]at k|.az _,n,m,s,x,u,I,k,hm,g,B=>by simp[aU]at k|.fn _ _,n,m,s,x,u,I,k,hm,g,B=>by simp[aU]at k
theorem w_:∀(ds:List D) {n m:Nat} {s:my} {M:List V} {O:List Value},mn X b r H s->kC n ds=true->n<=m->ai X.kw H Y ds M->Vals M O->∀v∈O,gw s m v
 | [],n,m,s,M,O,I,k,hm,g,B=>by cases g;cases B;intro v C;simp at C
 |d::ds,n,m,s,M,O,I,k,hm,g,B=>by
  obtain⟨v,e,rfl,C,c⟩:=g;simp only[kC,mS]at k;cases B with
  |cons r0 rr =>
   intro z a;rcases nF.mp a with rfl|a
   . exact tO d I k.1 hm C r0
   . exact w_ ds I k.2 hm c rr z a
end
mutual
theorem fH:∀(d:D) {n:Nat},aU n d=true->flat d=true/\dep d<=n
 |.aA,n,h=>⟨rfl,tc _⟩|.int _,n,h=>⟨rfl,tc _⟩|.str _,n,h=>⟨rfl,tc _⟩|.tup g,n+1,h=>by simp only[aU]at h;obtain⟨a,b⟩:=uL g h;exact⟨a,by simp only[dep];omega⟩
 |.tup g,0,h=>by simp[aU]at h|.bl _,n,h=>by simp[aU]at h|.lst _,n,h=>by simp[aU]at h|.dI,n,h=>by simp[aU]at h|.ref _,n,h=>by simp[aU]at h|.az _,n,h=>by simp[aU]at h|.fn _ _,n,h=>by simp[aU]at h
theorem uL:∀(ds:List D) {n:Nat},kC n ds=true->aS ds=true/\bG ds<=n
 | [],n,h=>⟨rfl,tc _⟩|d::ds,n,h=>by simp only[kC,mS]at h;obtain⟨a,b⟩:=fH d h.1;obtain⟨c,e⟩:=uL ds h.2;exact⟨by simp[aS,a,c],by simp only[bG];omega⟩
end
mutual
theorem gh:∀(d e:D) {n m:Nat},aU n d=true->aU m e=true->(bq d e=true ↔ d=e)
 |.aA,e,n,m,h,k=>by cases e<;>simp_all[aU,bq]|.int _,e,n,m,h,k=>by cases e<;>simp_all[aU,bq]|.str _,e,n,m,h,k=>by cases e<;>simp_all[aU,bq]
 |.tup g,e,n+1,m,h,k=>by
  cases e with
  |tup i =>
   cases m with
   |zero=>simp[aU]at k
   |succ m =>
    simp only[aU]at h k;simp only[bq,D.tup.injEq];exact zN g i h k
  |_=>simp_all[aU,bq]
 |.tup g,e,0,m,h,k=>by simp[aU]at h|.bl _,e,n,m,h,k=>by simp[aU]at h|.lst _,e,n,m,h,k=>by simp[aU]at h|.dI,e,n,m,h,k=>by simp[aU]at h|.ref _,e,n,m,h,k=>by simp[aU]at h|.az _,e,n,m,h,k=>by simp[aU]at h|.fn _ _,e,n,m,h,k=>by simp[aU]at h
theorem zN:∀(ds c:List D) {n m:Nat},kC n ds=true->kC m c=true->(gK ds c=true ↔ ds=c)
 | [],c,n,m,h,k=>by cases c<;>simp[gK]|d::ds,[],n,m,h,k=>by simp[gK]|d::ds,e::c,n,m,h,k=>by simp only[kC,mS]at h k;simp only[gK,mS,List.cons.injEq,gh d e h.1 k.1,zN ds c h.2 k.2]
end
end
section
noncomputable def aI:List D->D->Option D
 |k::v::r,c=>if bq k c=true then some v else aI r c|_,_=>none
noncomputable def aQ:List D->D->D->List D
 |k::v::r,c,val=>if bq k c=true then k::val::r else k::v::aQ r c val|_,c,val=>[c,val]
noncomputable def tq:List D->D->Nat->Bool
 |k::_::_,c,0=>bq k c|_::_::r,c,i+1=>tq r c i|_,_,_=>false
end
section
open PyProof.Rows SeqAt
variable {i U:List qt}{Y:Ix}{J u:V}{m:D->List D->G->Option (D×G)}{Q z:String}{O:D}{K:D->Bool}{w:Pos}{t:List (Option Expr)}{s:Value}
inductive Ent (K:KW)(H:Hp)(ι:Ix):List D->List qt->Prop
 |nil:Ent K H ι [] []
 |cons {k v:D} {kv vv:V} {r:List D} {e:qt} {es:List qt}:aU 6 k=true->e.hash=hD K.w k->Rel K H ι k kv->mI kv e.key->Rel K H ι v vv->mI vv e.val->Ent K H ι r es->Ent K H ι (k::v::r) (e::es)
theorem Ent.of {K H ι}:∀{p:List qt} {n:List D} {q:List V},Vals q (j3 p)->kD K.w n p->ai K H ι n q->Ent K H ι n p
 | [],n,q,g,h,r=>by cases h;exact .nil
 |e::p,n,q,g,h,r=>by
  cases h with
  |cons h1 h2 u =>
   obtain⟨a,i,rfl,d,b,j,rfl,f,c⟩:=r;cases g with
   |cons v g=>cases g with
    |cons x g=>exact .cons h1 h2 d v f x (Ent.of g u c)
theorem Ent.out {K H ι}:∀{i:List qt} {g:List D},Ent K H ι g i->kD K.w g i /\ ∃n,Vals n (j3 i)/\ai K H ι g n
 | [],g,h=>by cases h;exact⟨.nil,[],.nil,by simp[ai]⟩
 |e::i,g,h=>by
  cases h with
  | @cons k v p q r _ _ h1 h2 u x y B C =>
   obtain⟨a,n,b,c⟩:=C.out;refine⟨.cons h1 h2 a,p::q::n,.cons x (.cons B b),?_⟩;simp only[ai];exact⟨p,_,rfl,u,q,_,rfl,y,c⟩
theorem Ent.at {K H ι}:∀{r:List qt} {n:List D} {i:Nat} {e:qt},Ent K H ι n r->r[i]? = some e->∃k p,aU 6 k=true/\(aK n)[i]? = some k/\e.hash=hD K.w k/\Rel K H ι k p/\mI p e.key /\ ∀g,tq n g i=bq k g
 | [],n,i,e,h,q=>by simp at q
 |y::r,n,i,e,h,q=>by
  cases h with
  |cons h1 h2 u v B C x =>
   cases i with
   |zero=>simp at q;subst q;exact⟨_,_,h1,rfl,h2,u,v,λ_=>rfl⟩
   |succ i =>
    obtain⟨k,p,a,b,c,d,j,f⟩:=x.at (i:=i) (by simpa using q);exact⟨k,p,a,by simpa[aK]using b,c,d,j,λg=>f g⟩
theorem Ent.len {K H ι}:∀{g:List qt} {c:List D},Ent K H ι c g->(aK c).length=g.length
 | [],c,h=>by cases h;rfl
 |e::g,c,h=>by
  cases h with
  |cons h1 h2 n p q r i=>simp[aK,i.len]
theorem Ent.none_ {K H ι}:∀{n:List qt} {g:List D} {key:D},Ent K H ι g n->(∀i,i<n.length->tq g key i=false)->aI g key=none /\ ∀v,aQ g key v=g ++ [key,v]
 | [],g,key,h,q=>by cases h;exact⟨rfl,λ_=>rfl⟩
 |e::n,g,key,h,q=>by
  cases h with
  |cons h1 h2 r u x y p =>
   have c:=q 0 (by simp);simp only[tq]at c;obtain⟨a,b⟩:=p.none_ (key:=key) λi d=>by have:=q (i+1) (by simpa using d);simpa[tq]using this
   exact⟨by simp[aI,c,a],λv=>by simp[aQ,c,b]⟩
theorem Ent.vD {K H ι}{key:D}:∀{B:List qt} {y:List D} {i:Nat},Ent K H ι y B->i<B.length->tq y key i=true->(∀j,j<B.length->tq y key j=true->j=i) ->
  ∃e v E,B[i]? = some e/\aI y key=some v/\Rel K H ι v E/\mI E e.val/\aK (aQ y key v)=aK y /\
   ∀(w:D) (C:V) (u:Value),Rel K H ι w C->mI C u->Ent K H ι (aQ y key w) (B.modify i λe=>{ e with val:=u })/\aK (aQ y key w)=aK y
 | [],y,i,h,I,q,un=>by simp at I
 |U::B,y,i,h,I,q,un=>by
  cases h with
  | @cons k v Z E r _ _ h1 h2 J M O Q R =>
   cases i with
   |zero =>
    simp only[tq]at q;refine⟨U,v,E,rfl,by simp[aI,q],O,Q,by simp[aQ,q,aK],λw C u l n=>⟨?_,by simp[aQ,q,aK]⟩⟩;simp only[aQ,q,if_true,List.modify_zero_cons];exact .cons h1 h2 J M l n R
   |succ i =>
    have o:bq k key=false:=by
     cases hk:bq k key with
     |false=>rfl|true=>exact absurd (un 0 (by simp) (by simpa[tq]using hk)) (by omega)
    obtain⟨e,x,p,a,b,c,d,f,g⟩:=R.vD (i:=i) (by simpa using I) (by simpa[tq]using q) λj s z=>by have:=un (j+1) (by simpa using s) (by simpa[tq]using z);omega
    refine⟨e,x,p,by simpa using a,by simp[aI,o,b],c,d,by simp[aQ,o,aK,f],λw C u l n=>?_⟩;obtain⟨X,Y⟩:=g w C u l n;simp only[aQ,o,rk,if_false,List.modify_succ_cons];exact⟨.cons h1 h2 J M O Q X,by simp[aK,Y]⟩
theorem Ent.push {K H ι}{k v:D}{p i:V}{e:qt}(l:aU 6 k=true)(c:e.hash=hD K.w k)(d:Rel K H ι k p)(f:mI p e.key)(j:Rel K H ι v i)(n:mI i e.val):
  ∀{g:List qt} {xs:List D},Ent K H ι xs g->Ent K H ι (xs ++ [k,v]) (g ++ [e])/\aK (xs ++ [k,v])=aK xs ++ [k]
 | [],xs,h=>by cases h;exact⟨.cons l c d f j n .nil,rfl⟩
 |E::g,xs,h=>by
  cases h with
  |cons q r u x y B C =>
   obtain⟨b,a⟩:=Ent.push l c d f j n C;exact⟨.cons q r u x y B b,by simp[aK,a]⟩
def DR (I:mn X b r H c){A:qc}(fd:flat v=true)(n:flat O=true)(g:Rel X.kw H Y v J)(l:Rel X.kw H Y O u)(i:mI J T)(j:mI u s)(hu:A.units+dep v<cLine):EqAt A c T s (bq v O):=by refine rZ (Iu I v O (A:=A) fd n g l i j hu).1 (λf=>?_) (λd t h=>Rel.zy g (by rw[h]at i;exact i));subst f;have e:=i.inj j;subst e;have a:=Rel.inj I v O fd n g l;subst a;exact kG v fd
def mi (I:mn X b r H c){A:qc}(hu:A.units+8<cLine){xs:List D}(en:Ent X.kw H Y xs U)(nd:(aK xs).Nodup)(B:aU 6 v=true)(es:Rel X.kw H Y v J)(C:mI J T):
  Iz A c T (hD X.w v) U.toArray (tq xs v) where
 eq:=λi e he hh=>by obtain⟨k,l,a,key,x,d,f,g⟩:=en.at (i:=i) (by simpa using he);rw[g v];obtain⟨f1,f2⟩:=fH k a;exact DR I f1 (fH v B).1 d es f C (by omega)
 hs:=λi e he p=>by obtain⟨k,l,a,key,x,d,f,g⟩:=en.at (i:=i) (by simpa using he);rw[g v]at p;rw[x,(gh k v a B).mp p]
 qk:=tO v I B (by omega) es C
 qe:=λe he=>by obtain⟨i,n⟩:=TR.mp (by simpa using he);obtain⟨k,l,a,key,x,d,f,g⟩:=en.at n;exact tO k I a (by omega) d f
 rf:=λe he ek=>by obtain⟨i,n⟩:=TR.mp (by simpa using he);obtain⟨k,l,a,key,x,d,f,g⟩:=en.at n;rw[ek]at f;have:=f.inj C;subst this;rw[x,Rel.inj I k v (fH k a).1 (fH v B).1 d es]
 un:=λi j n hj o u=>by
  obtain⟨e,he⟩:∃e,U[i]? = some e:=⟨_,nz (by simpa using n)⟩
  obtain⟨e',ZY⟩:∃e,U[j]? = some e:=⟨_,nz (by simpa using hj)⟩
  obtain⟨k,l,a,key,x,d,f,g⟩:=en.at he;obtain⟨k',ZZ,a',b',c',d',f',g'⟩:=en.at ZY;rw[g v]at o;rw[g' v]at u;rw[(gh k v a B).mp o]at key;rw[(gh k' v a' B).mp u]at b';exact(afG (mT.mp key).1 nd).mp (key.trans b'.symm)
 st:=λy tk e0 i e he h=>by
  subst e0;obtain⟨k,l,a,key,x,d,f,g⟩:=en.at (i:=i) (by simpa using he);rw[g v];have kx:v = .str y:=by
   cases v with
   |str z=>cases es;obtain⟨t,q⟩:=C;cases q;rfl
   |aA=>cases es;cases C|int z=>cases es;obtain⟨t,q⟩:=C;cases q
   |tup z=>obtain⟨_,_,rfl,_⟩:=es;cases C
   |_=>simp[aU]at B
  subst kx;cases k with
  |str z =>
   cases d;obtain⟨t,q⟩:=f;rw[q];simp only[Value.isStr,bq]
  |aA=>cases d;rw[f]at h;cases h|int z=>cases d;obtain⟨t,q⟩:=f;rw[q]at h;cases h
  |tup z=>obtain⟨_,_,rfl,_⟩:=d;rw[show e.key=_ from f]at h;cases h
  |_=>simp[aU]at a
def kL (I:mn X b r H c)(g:H f=some (dO f i n)):c.heap.get? f=some { cls:=.type "dict",data:=.dict i.toArray (i.length-n) }:=
 (show dJ X.prog X.w H c.heap f (dO f i n) from I.aW f _ g).1
def vE (I:mn X b r H c)(g:H f=some (dO f i n)):∃h,c.heap.get? f=some { cls:=.type "dict",data:=.dict i.toArray h }:=⟨_,kL I g⟩
def BA (I:mn X b r H c)(g:H f=some (dO f i n)):c.TypeIs (.ref f) "dict":=let⟨_,h⟩:=vE I g;⟨_,h,rfl⟩
def uM {s:my}{A:qc}{u:List D}{key:D}(I:mn X b r H s)(hu:A.units+8<cLine)(c:H f=some (dO f i n))(en:Ent X.kw H Y u i)(nd:(aK u).Nodup)(y:aU 6 key=true)(R:Rel X.kw H Y key J)(B:mI J T){Q:Option Value->my->Prop}(L:aI u key=none->∀g,Q none { s with toks:=g })(C:∀v,aI u key=some v->∀g x z,Rel X.kw H Y v x->mI x z->Q (some z) { s with toks:=g }):wpAny (model X.prog X.w) A (Vt f T) Q E s:=by
 obtain⟨q,U⟩:=vE I c;unfold Vt;refine wh (l8 (si key I y R B (by omega) λg=>l8 (tN (s:={ s with toks:=g }) U rfl (mi (I.tok g) hu en nd y R B) (λz=>?_) (λM O d=>?_))))
 . exact mA (L (en.none_ λM O=>z M (by simpa using O)).1 g)
 . have K:=mi (I.tok g) hu en nd y R B (A:=A)
   obtain⟨e,v,x,a,p,l,o,_⟩:=en.vD (key:=key) (by simpa using O) d λj h z=>(K.un M j O (by simpa using h) d z).symm;refine l8 (adb (s:={ s with toks:=g }) U rfl ?_);have:i.toArray[M]? = some e:=by simpa using a
   rw[this];exact mA (C v p g x _ l o)
def DU {s:my}{key:D}(I:mn X b r H s)(K:H f=some (dO f i n))(en:Ent X.kw H Y A i)(nd:(aK A).Nodup)(B:aU 6 key=true)(σ:Rel X.kw H Y key J)(C:mI J T)(c:aI A key=some v):
   ∃O z,Rel X.kw H Y v O/\mI O z /\ ∀{R:qc} {E:Value->my->Prop} {Q:Option Value->my->Prop},R.units+8<cLine->(∀x,Q (some z) { s with toks:=x })->wpAny (model X.prog X.w) R (Vt f T) Q E s:=by
 obtain⟨ep,o⟩:=vE I K;have U:∃u,u<i.length/\tq A key u=true:=by
   refine afQ λno=>?_;have:=(en.none_ (key:=key) λu M=>by
    cases h:tq A key u with
    |false=>rfl|true=>exact absurd ⟨u,M,h⟩ no).1
   rw[c]at this;cases this
 obtain⟨u,M,d⟩:=U;have un:∀j,j<i.length->tq A key j=true->j=u:=λj Z z=>by obtain⟨k,kv,a1,p,_,_,_,g⟩:=en.at (nz M);obtain⟨k',ZZ,a2,l,_,_,_,g'⟩:=en.at (nz Z);rw[g]at d;rw[g']at z;rw[(gh k key a1 B).mp d]at p;rw[(gh k' key a2 B).mp z]at l;exact(afG (mT.mp l).1 nd).mp (l.trans p.symm)
 obtain⟨e,v',O,h1,a,y,h4,_⟩:=en.vD (key:=key) M d un;rw[c]at a;cases a;refine⟨O,e.val,y,h4,fun {R E Q} hu q=>?_⟩;unfold Vt;refine wh (l8 (si key I B σ C (by omega) λx=>l8 (tN (s:={ s with toks:=x }) o rfl (mi (I.tok x) hu en nd B σ C) (λz=>?_) (λj Z tj=>?_))))
 . have:=z u (by simpa using M);rw[d]at this;cases this
 . have:=un j (by simpa using Z) tj
   subst this;refine l8 (adb (s:={ s with toks:=x }) o rfl ?_);have:i.toArray[j]? = some e:=by simpa using h1
   rw[this];exact mA (q x)
def uN {s:my}{A:qc}{Z:List D}{key:D}{R:Value}(I:mn X b r H s)(hu:A.units+8<cLine)(N:H f=some (dO f i n))(O:n<=i.length)(hz:i.length<=m6)(en:Ent X.kw H Y Z i)(nd:(aK Z).Nodup)(B:aU 6 key=true)(cv:Rel X.kw H Y key u)(C:mI u R)(L:Rel X.kw H Y v J)(M:mI J T){Q:Unit->my->Prop}(h:∀c h' U,Ent X.kw H Y (aQ Z key v) U->(aK (aQ Z key v)).Nodup->U.length<=i.length+1->n<=U.length->h'.get? f=some { cls:=.type "dict",data:=.dict U.toArray (U.length-n) }->M9 f s.heap h'->Q () { s with heap:=h',toks:=c }):
   wpAny (model X.prog X.w) A (dictSet f R T) Q E s:=by
 have d:=kL I N;unfold dictSet;refine wh (l8 (si key I B cv C (by omega) λc=>?_));unfold dictSetHashed;refine wh (l8 (tN (s:={ s with toks:=c }) d rfl (mi (I.tok c) hu en nd B cv C) (λy=>?_) (λz x a=>?_)))
 . obtain⟨_,ι⟩:=en.none_ (key:=key) λz x=>y z (by simpa using x)
   obtain⟨e1,e2⟩:=Ent.push (e:=⟨hD X.w key,R,T⟩) B rfl cv C L M en;refine l8 (DK (wpAny_updateDictKeys (hz:=by simpa using hz) (s:={ s with toks:=c }) d rfl ?_));refine h c _ (i ++ [⟨hD X.w key,R,T⟩]) (by rw[ι];exact e1) ?_ (by simp) (by simp;omega) ?_ (NT ..)
   . rw[ι,e2,TJ]
     refine⟨nd,by simp,λk Dx k' o=>?_⟩;simp at o;subst o;rintro rfl;obtain⟨z,x,e⟩:=OX.mp Dx;have l:z<i.length:=by rw[<- en.len];exact x
     obtain⟨k,kv,a1,p,_,_,_,g⟩:=en.at (nz l);rw[nz x,e]at p;cases p;have:=y z (by simpa using l);rw[g,(gh _ _ B B).mpr rfl]at this;cases this
   . have q:=NU (h:=s.heap) (ahW (·.push ⟨hD X.w key,R,T⟩)) d rfl
     rw[q];simp[ahW];omega
 . have K:=mi (I.tok c) hu en nd B cv C (A:=A)
   obtain⟨e,v0,ab,h1,h2,h3,h4,_,h5⟩:=en.vD (key:=key) (by simpa using x) a λj hj y=>(K.un z j x (by simpa using hj) a y).symm;obtain⟨h6,h7⟩:=h5 v J T L M;refine l8 (DK (l8 (wpAny_updateDict (s:={ s with toks:=c }) d rfl ?_)));refine wpAny_point ?_;refine h c _ (i.modify z λe=>{ e with val:=T }) h6 (by rw[h7];exact nd) (by simp) (by simpa using O) ?_ (NT ..)
   have q:=NU (h:=s.heap) (Obj.mapDict (·.modify z λe=>{ e with val:=T })) d rfl
   rw[q];simp[Obj.mapDict]
noncomputable def ao (b a:D)(g:G):Option (D×G):=match b with
 |.az n=>(g[n]?).bind λc=>if aU 6 a=true then(aI c a).map λd=>(d,g)else none|b=>gS b a g
def KA (hu:X.A.units+64<cLine):nK X (dD X.kw ao):=by
 intro value slice E s J H x y v u Q I j r q o;obtain⟨C,g,M,e,d,O,G0,f,l,q,p⟩:=q;cases M with
 |az n =>
  simp only[ao]at q;obtain⟨R,hx,q⟩:=bind_some q;split at q
  . rename_i hk
    obtain⟨a,rfl,U⟩:=f;cases j;obtain⟨es,vs,c,h,mq,gG,Y,Z,nd,sy,sz,rl⟩:=G0.rQ hx U;have en:=Ent.of Y Z rl;cases B:aI R e with
    |none=>rw[B]at q;cases q
    |some dv =>
     rw[B]at q;cases q;obtain⟨i,z,h1,h2,h3⟩:=DU I h en nd hk l r B;have b:=BA I h;refine adx (x:=z) b aep.lookup ?_ o;unfold Pd;refine wh (l8 (adA b (by decide) ?_));refine l8 (HX (name:=vx "__getitem__") b aep (yc aep b entry_dict_getitem ?_ (args_dict_getitem _ _)));show wpAny _ _ (Vt a u >>= _) _ _ s;refine l8 (h3 (by rw[in1_units];omega) λtk=>?_);exact mA ⟨z,rfl,mA ⟨rfl,i,H,I.tok tk,h2,p H C i Ext.refl G0 h1⟩⟩
  . cases q
 |_=>exact Kh value slice E s J H x y v u Q I j r ⟨C,g,_,e,d,O,G0,f,l,q,p⟩ o
def Og {d:FE}(hu:X.A.units+64<cLine)(a:DE X e C)(i:DE X y d)(f:pA y):DE X (.Subscript e y j) (ag ao C d):=.of (
 PE.imp (HR (KA hu) a.un i.un f) λc H Q h=>rT h)
noncomputable def zO (a:D)(c:List D):Option Bool:=if(flat a&&aS c&&decide (bG c<=50))=true then some (c.any λy=>bq y a)else none
noncomputable def mr (b a:D)(g:G):Option Bool:=match a with
 |.az n=>(g[n]?).bind λc=>if aU 6 b=true then some (aI c b).isSome else none|a=>(bD a g).bind (zO b)
noncomputable def ie (c a:D)(g:G):Option (D×G):=(mr c a g).map λb=>(.bl b,g)
noncomputable def iw (c a:D)(g:G):Option (D×G):=(mr c a g).map λb=>(.bl (!b),g)
def DV (h:mr v O a=some Z):(∃n,O = .az n) \/ ∃c,bD O a=some c/\zO v c=some Z:=by
 cases O with
 |az n=>exact .inl ⟨n,rfl⟩|_=>simp only[mr]at h;exact .inr (bind_some h)
theorem uO:∀{c:List D} {i:Nat} {d:D},aS c=true->c[i]? = some d->flat d=true/\dep d<=bG c
 | [],i,d,h,e=>by simp at e|x::c,0,d,h,e=>by simp at e;subst e;simp only[aS,mS]at h;exact⟨h.1,by simp only[bG];omega⟩|x::c,i+1,d,h,e=>by simp only[aS,mS]at h;obtain⟨a,b⟩:=uO (i:=i) h.2 (by simpa using e);exact⟨a,by simp only[bG];omega⟩
def xa (I:mn X b r H c){A:qc}(C:flat v=true)(Z:Rel X.kw H Y v J)(B:mI J T)(hu:A.units+n<cLine):
   ∀{g:List D} {x:List V} {E:List Value},aS g=true->bG g<=n->ai X.kw H Y g x->Vals x E->∃e:Value->Bool,(∀y,y∈E->EqAt A c y T (e y))/\E.any e=g.any (λy=>bq y v):=by
 classical
 intro g x E j hn rl o;refine⟨λy=>decide (∃d u,Rel X.kw H Y d u/\mI u y/\flat d=true/\bq d v=true),λy hy=>?_,?_⟩
 . obtain⟨i,Q,e⟩:=OX.mp hy
   have Z0:i<x.length:=by rw[o.length];exact Q
   have q:i<g.length:=by rw[rl.length];exact Z0
   obtain⟨u,h1,f⟩:=rl.get (nz q);obtain⟨z,R,p⟩:=o.get h1;rw[nz Q,e]at R;cases R;obtain⟨M,f2⟩:=uO j (nz q);have h:=DR I M C f Z p B (A:=A) (by omega);have:decide (∃d u,Rel X.kw H Y d u/\mI u y/\flat d=true/\bq d v=true)=bq g[i] v:=by
    cases hq:bq g[i] v with
    |true=>exact decide_eq_true ⟨_,_,f,p,M,hq⟩
    |false =>
     refine decide_eq_false ?_;rintro⟨d,v',a,O,s,l⟩;have:=O.inj p;subst this;rw[Rel.inj I d _ s M a f,hq]at l;cases l
   show EqAt A c y T (decide _);rw[this];exact h
 . induction g generalizing x E with
   |nil=>cases rl;cases o;rfl
   |cons d ds ih =>
    obtain⟨u,vr,rfl,f,hr⟩:=rl;cases o with
    |cons U rr =>
     simp only[aS,mS]at j;simp only[bG]at hn;rw[Bw,Bw,ih j.2 (by omega) hr rr];congr 1;cases hq:bq d v with
     |true=>exact decide_eq_true ⟨_,_,f,U,j.1,hq⟩
     |false =>
      refine decide_eq_false ?_;rintro⟨d',v',a,O,s,l⟩;have:=O.inj U;subst this;rw[Rel.inj I d' _ s j.1 a f,hq]at l;cases l
def zP (B:Bool)(hu:X.A.units+64<cLine):bJ X (u3 (if B then .NotIn else .In)) (dD X.kw λC O g=>(mr C O g).map λb=>(.bl (if B then !b else b),g)):=by
 intro cv s σ H x y v u Q I E R q;obtain⟨ι,g,C,O,d,g',G0,r,U,q,p⟩:=q;obtain⟨b,h,q⟩:=oN.mp q;cases q;have fin:∀f,EP X cv σ Q (.bool (if B then !b else b)) { s with toks:=f }:=λf=>⟨.bl _,H,I.tok f,rfl,p H ι _ Ext.refl G0 (by simp[Rel])⟩
 rcases DV h with⟨n,rfl⟩|⟨Y,hx,h⟩
 . simp only[mr]at h
   obtain⟨Y,hx,h⟩:=bind_some h;split at h
   . rename_i hk
     cases h;obtain⟨a,rfl,ha⟩:=U;cases R;obtain⟨es,vs,c,Z,mq,gG,rv,hh,nd,sy,sz,rl⟩:=G0.rQ hx ha;have en:=Ent.of rv hh rl;have J:=BA I Z;have core:∀{M:Bool->my->Prop},(∀f,M (aI Y C).isSome { s with toks:=f })->wpAny (model X.prog X.w) X.A (contains (.ref a) v) M X.xe s:=fun {M} fin=>by
       unfold contains;refine wh (l8 (agd J afo.lookup ?_));refine Em (λz=>by rw[af5]at z;cases z) (λ_=>?_);refine l8 (wpAny_callSpecialUnlessNone?_slot (name:=vx "__contains__") J afo (yc afo J entry_dict_contains ?_ (args_dict_contains _ _)));show wpAny _ _ (Vt a v >>= _) _ _ s;refine l8 (uM I (by rw[in1_units];omega) Z en nd hk r E (λhn f=>?_) (λw hs f vv z _ _=>?_))
       . rw[hn]at fin
         show wpAny _ _ (Builtin.Dict.pendingKey? a v >>= _) _ _ _;exact l8 (wpAny_pendingKey_other sy (mA ⟨_,rfl,YP (fin f)⟩))
       . rw[hs]at fin
         show wpAny _ _ (ret (.bool true)) _ _ _;exact mA ⟨_,rfl,YP (fin f)⟩
     cases B with
     |false=>exact(show wpAny _ _ (do return afI (<- contains (.ref a) v)) _ _ s from l8 (core λf=>mA (fin f)))
     |true=>exact(show wpAny _ _ (do return afI (!(<- contains (.ref a) v))) _ _ s from l8 (core λf=>mA (fin f)))
   . cases h
 . unfold zO at h
   split at h
   . rename_i z
     simp only[mS,decide_eq_true_eq]at z;cases h;obtain⟨a,vs,rfl,l,hr⟩:=lj G0 U hx;cases R;rcases l with l|l
     . obtain⟨aq,f_,j,_⟩:=I.list l
       obtain⟨e,o,h2⟩:=xa I (A:=X.A.in1) z.1.1 r E (n:=50) (by rw[in1_units];omega) z.1.2 z.2 hr f_;have fin:=fin s.toks;rw[<- h2]at fin;cases B with
       |false=>exact in_listAt e j.isList (λy i=>o y (by simpa using i)) (by simpa using fin)|true=>exact notIn_listAt e j.isList (λy i=>o y (by simpa using i)) (by simpa using fin)
     . obtain⟨aq,f_,j,_⟩:=I.tuple l
       obtain⟨e,o,h2⟩:=xa I (A:=X.A.in1) z.1.1 r E (n:=50) (by rw[in1_units];omega) z.1.2 z.2 hr f_;have fin:=fin s.toks;rw[<- h2]at fin;cases B with
       |false=>exact in_tupleAt e j (λy i=>o y (by simpa using i)) (by simpa using fin)|true=>exact notIn_tupleAt e j (λy i=>o y (by simpa using i)) (by simpa using fin)
   . cases h
def Oh (hu:X.A.units+64<cLine):bJ X (u3 .In) (dD X.kw ie):=zP false hu
def DX (hu:X.A.units+64<cLine):bJ X (u3 .NotIn) (dD X.kw iw):=zP true hu
def xb (g:mn X b r H c)(l:H f=some (dO f U p))(j:I.get? f=some { cls:=.type "dict",data:=.dict i.toArray (i.length-p) })(v:M9 f c.heap I):
  mn X b r (upd H f (dO f i p)) { c with heap:=I,toks:=n }:=by
 refine g.write (x:=f) (e:=f) (o:=dO f i p) (t':=n) (by rw[l];exact afO) (.inl rfl) (λy u d q=>?_) ⟨_,j⟩ ⟨j,⟨_,j⟩,λB h q k=>k _ q⟩;rw[v.2 y d];exact q
def xg (G0:au X.kw H Y a)(o:dU Y n f true)(q:Y.kd n=p+1)(l:H f=some (dO f U p))(en:Ent X.kw H Y A i)(nd:(aK A).Nodup)(j:(f == M7)=false)(r:p<=i.length)(sz:i.length<=m6):
  au X.kw (upd H f (dO f i p)) Y (a.set n A):=by
 obtain⟨c,e,h,b⟩:=en.out;exact G0.Nh o l (by rw[q];exact .d p i e r h c nd j sz) b
noncomputable def iy (c:List D):Bool:=ax (c.length / 2+1)
noncomputable def lL (o i v:D)(g:G):Option G:=match o with
 |.az n=>(g[n]?).bind λc=>if(aU 6 i&&iy c)=true then some (g.set n (aQ c i v))else none|o=>putD o i v g
inductive IB (K:KW)(o i v:V)(H:Hp)(Q:Hp->Prop):Prop
 |mk (ι:Ix) (g:G) (d1 d2 d3:D) (g':G) (h0:au K H ι g) (h1:Rel K H ι d1 o) (h2:Rel K H ι d2 i) (h3:Rel K H ι d3 v) (h4:lL d1 d2 d3 g=some g') (h5:∀H' ι',Ext H ι H' ι'->au K H' ι' g'->Q H'):IB K o i v H Q
def zQ {K H ι}(en:Ent K H ι A i):A.length=2*i.length:=by
 induction en with
 |nil=>rfl|cons _ _ _ _ _ _ _ c=>simp[c];omega
def KC (hu:X.A.units+64<cLine):FC X (IB X.kw):=by
 intro O s R H o i v U iv u Q I C ri y q;obtain⟨E,g,Y,Z,d3,g',G0,h,r,J,q,p⟩:=q;cases Y with
 |az n =>
  simp only[lL]at q;obtain⟨M,e,q⟩:=bind_some q;split at q
  . rename_i l
    simp only[mS]at l;cases q;obtain⟨a,rfl,b⟩:=h;cases C;obtain⟨es,z,c,d,mq,gG,sk,hh,nd,sy,sz,rl⟩:=G0.rQ e b;have en:=Ent.of sk hh rl;have f:=BA I d;have hz:=ax.le l.2;rw[zQ en]at hz;unfold ahi;refine wh (l8 (adA f (by decide) ?_));refine l8 (HX (name:=vx "__setitem__") f slot_dict_setitem (yc slot_dict_setitem f entry_dict_setitem ?_ (args_dict_setitem _ _ _)));show wpAny _ _ (Builtin.Dict.notOrdered "__setitem__" ⟨[.ref a,iv,u],[]⟩ >>= _) _ _ s;refine l8 (agz f ?_);show wpAny _ _ (dictSet a iv u >>= _) _ _ s;refine l8 (uN I (by rw[in1_units];omega) d gG sz en nd l.1 r ri J y λtk h' dj e1 e2 e3 e0 e4 e5=>mA ⟨.none,rfl,mA ?_⟩);exact⟨_,xb I d e4 e5,p _ E (Ext.put b d) (xg G0 b mq d e1 e2 sy e0 (by omega))⟩
  . cases q
 |ref n =>
  refine set_list O s R H o i v U iv u Q I C ri y ?_;simp only[lL,putD]at q;cases Z with
  |int k =>
    simp only[Rel]at h r;obtain⟨a,rfl,b⟩:=h;subst r;dsimp only at q;cases e:g[n]? with
    |none=>rw[e]at q;cases q
    |some M =>
     rw[e]at q;dsimp only at q;cases B:lR M.length k with
     |none=>rw[B]at q;cases q
     |some j =>
      rw[B]at q;cases q;obtain⟨z,x,hr⟩:=G0.at e b;exact⟨a,z,k,j,rfl,rfl,x,by rw[<- hr.length];exact B,p _ E (Ext.put b x) (G0.put b x (ai.set J j hr))⟩
  |_=>cases q
 |_=>cases q
noncomputable def dC (b c:FE):FG:=λv h g=>(b h g).bind λr=>(c h r.2).bind λq=>(lL r.1 q.1 v q.2).map λa=>(h,a)
def KD {E:FE}(hu:X.A.units+64<cLine)(J:DE X e E)(I:DE X y C)(K:∀v,Hq (.Subscript e y j) X.env v=(do
   let M <- HQ [v] (eval e X.env);let iv <- HQ [v,M] (eval y X.env)
   Zg j
   HQ [v,M,iv] (ahi M iv v)
   release [v,M,iv] [])):DG X (.Subscript e y j) (dC E C):=.of (PG.imp (Ml J.un I.un (KC hu) K) λv R H Q h=>by
 obtain⟨ι,U,g,d,bY,f,G0,s,r,h,p⟩:=h;obtain⟨⟨x,g1⟩,h1,h⟩:=bind_some h;obtain⟨⟨o,Y⟩,u,h⟩:=bind_some h;refine tD.bind G0 s h1 λH1 Z v1 c G1 S1 l=>?_;refine tD.bind G1 S1 u λH2 O v2 a G2 z i=>?_;obtain⟨g3,B,h⟩:=oN.mp h;cases h;exact⟨O,Y,x,o,d,f,G2,Rel.ext a _ l,i,Rel.ext (c.trans a) _ r,B,λn q b G'=>p n q R ((c.trans a).trans b) G' (z.ext b)⟩)
inductive Uo (K:KW)(i5:D->Bool)(m:D->List D->G->Option (D×G))(x:V)(xs:List V)(H:Hp)(Q:VK):Prop
 |mk (ι:Ix) (g:G) (d:D) (ds:List D) (d':D) (g':G) (h0:au K H ι g) (h1:Rel K H ι d x) (h2:ai K H ι ds xs) (h3:i5 d=true) (h4:m d ds g=some (d',g')) (h5:fZ K H ι d' g' Q):Uo K i5 m x xs H Q
structure MR (X:Cx)(T:String)(name:Str)(id:String)(i5:D->Bool)(m:D->List D->G->Option (D×G)):Prop where
 pa:PlainAttrs T
 slot:Slot T name id
 ty:typeOf (.builtin id)=pure (.type "method_descriptor")
 is:∀{cv:List (Addr×Obj)} {σ:mO} {H:Hp} {s:my} {ι:Ix} {g:G} {d:D} {x:V} {v:Value},mn X cv σ H s->au X.kw H ι g->Rel X.kw H ι d x->mI x v->i5 d=true->s.TypeIs v T /\ ∀a,v = .ref a->∃ob,s.heap.get? a=some ob/\ob.dict=none
 run:MQ X id (Uo X.kw i5 m)
noncomputable def dh (b:D->Bool)(m:D->List D->G->Option (D×G))(a:FE)(fr:FA):FE:=λc g=>(a c g).bind λr=>if b r.1=true then(fr c r.2).bind λq=>m r.1 q.1 q.2 else none
def Oi {fr:FA}(R:MR X Q x z K m)(L:DE X y C)(id:DA X (e::B) fr)(o:aex y x X.env (eval y X.env)=eval y X.env)(apos:((v3 w (ni (e::B) X.env)).all (λO=>!O.1)&&(backToKw w (ahx [] X.env)).all (λO=>O.1.isSome)
    && decide ((e::B).length+([]:List UD).length+(if([]:List UD).isEmpty then 0 else 1)<30))=true)(E:(j.endLine == w.line)=true)(A:ni (e::B) X.env=(false,eval e X.env)::ni B X.env)(J:(v3 w (ni B X.env)).any (·.1)=false):
   DE X (.Call (.Attribute y x j) (e::B) [] w) (dh K m C fr):=.of (by
 intro Y s U H es I h;obtain⟨ι,Z,g,d,g',G0,S0,h,p⟩:=h;obtain⟨⟨d1,g1⟩,h1,h⟩:=bind_some h;dsimp only at h;split at h
 . rename_i i5
   obtain⟨⟨ds,g2⟩,h2,h⟩:=bind_some h;refine agh o apos E rfl (aV (L.un Y s U H (λO M=>∃a,Ext H ι M a/\au X.kw M a g1/\bC X.kw M a Z U/\Rel X.kw M a d1 O) I (tD.bind G0 S0 h1 λM a v n T u i=>⟨a,n,T,u,i⟩)) λv s1 name=>?_);obtain⟨O,M,I1,rx,a,n,T,u,i⟩:=name;obtain⟨t1,t2⟩:=R.is I1 T i rx i5;refine⟨Q,z,R.pa,R.slot,R.ty,t1,t2,?_⟩;have hA:=id.un w Y s1 U M _ I1 (iL.bind T u h2 λb c f l r S2 q=>(⟨c,l,r,q⟩:(λ(f:List V) (b:Hp)=>∃c,Ext M a b c/\au X.kw b c g2/\ai X.kw b c ds f) f b));rw[A]at hA ⊢
   refine aer (by show(false||(v3 w (ni B X.env)).any (·.1))=false;rw[J]<;>rfl) (agG ?_)
   refine aV hA λus s2 name=>?_;obtain⟨f,b,I2,q,c,l,r,rs⟩:=name;exact R.run Y s2 U b O f v us es I2 rx q ⟨c,g2,d1,ds,d,g',r,Rel.ext l _ i,rs,i5,h,p.mono (n.trans l)⟩
 . cases h)
def KG (R:MR X Q x z K m)(B:DE X e C)(i5:aex e x X.env (eval e X.env)=eval e X.env)(A:(j.endLine == w.line)=true):
   DE X (.Call (.Attribute e x j) [] [] w) (dh K m C af):=.of (by
 intro O s J H o I h;obtain⟨Y,id,g,d,q,G0,r,h,p⟩:=h;obtain⟨⟨T,U⟩,h1,h⟩:=bind_some h;dsimp only at h;split at h
 . rename_i f
   obtain⟨⟨ds,g2⟩,u,h⟩:=bind_some h;cases u;refine wpAny_Call_method0_late i5 A (aV (B.un O s J H (λM E=>∃a,Ext H Y E a/\au X.kw E a U/\bC X.kw E a id J/\Rel X.kw E a T M) I (tD.bind G0 r h1 λE a v name c n b=>⟨a,name,c,n,b⟩)) λv Z aO=>?_);obtain⟨M,E,l,i,a,name,c,n,b⟩:=aO;obtain⟨t1,y⟩:=R.is l c b i f;refine⟨Q,z,R.pa,R.slot,R.ty,t1,y,aer rfl (PySem.evalArgs_none ?_)⟩;exact R.run O Z J E M [] v [] o l i .nil ⟨a,U,T,[],d,q,c,b,by simp[ai],f,h,p.mono name⟩
 . cases h)
noncomputable def j6:D->Bool
 |.az _=>true|_=>false
def xh (I:mn X b r H c)(G0:au X.kw H Y a)(y:Rel X.kw H Y v J)(u:mI J T)(h:j6 v=true):
  c.TypeIs T "dict" /\ ∀g,T = .ref g->∃x,c.heap.get? g=some x/\x.dict=none:=by
 cases v with
 |az n =>
  obtain⟨g,rfl,f⟩:=y;cases u;have l:n<a.length:=by rw[<- G0.len];exact(mT.mp f.1).1
  obtain⟨o,q,B,j,_⟩:=G0.rQ (nz l) f;obtain⟨p,i⟩:=vE I j;refine⟨⟨_,i,rfl⟩,λs e=>?_⟩;cases e;exact⟨_,i,rfl⟩
 |_=>cases h
noncomputable def kM (d:D)(ds:List D)(g:G):Option (D×G):=match d,ds with
 |.az n,[k]=>(g[n]?).bind λc=>if aU 6 k=true then some ((aI c k).getD .aA,g)else none|.az n,[k,x]=>(g[n]?).bind λc=>if aU 6 k=true then some ((aI c k).getD x,g)else none|_,_=>none
def bah (r:Vals [J] R):∃u,R = [u]/\mI J u:=by
 cases r with
 |cons a b=>cases b;exact⟨_,rfl,a⟩
def Oj (hu:X.A.units+64<cLine):MR X "dict" "get" "dict.get" j6 kM where
 pa:=PySem.F.plainAttrs_dict
 slot:=aeK
 ty:=PySem.F.type_dict_get
 is:=xh
 run:=by
  intro cv s σ H x xs v us Q I rx rs q;obtain⟨ι,g,d,ds,d',g',G0,r1,rl,hT,q,p⟩:=q;have HU:=(xh I G0 r1 rx hT).1;cases d with
  |az n =>
   obtain⟨a,rfl,ha⟩:=r1;cases rx;have core:∀{k dflt:D} {j:List D} {e dv:V} {r du:Value} {Q':Fin->my->Prop},g[n]? = some j->aU 6 k=true->Rel X.kw H ι k e->mI e r->Rel X.kw H ι dflt dv->mI dv du->fZ X.kw H ι ((aI j k).getD dflt) g Q ->
      (∀v o,EP X cv σ Q v o->Q' (.done (.ret v)) o)->wpAny (model X.prog X.w) X.A.in1 (do
       if let some v <- Vt a r then return <- ret v
       match <- Builtin.Dict.missed a r with
       |some v=>ret v|none=>ret du) Q' X.xe s:=by
    intro k dflt j e dv r du Q' l f i Z1 rd Z2 p hQ;obtain⟨es,vs,c,hH,mq,gG,rv,hh,nd,sy,sz,rl⟩:=G0.rQ l ha;have en:=Ent.of rv hh rl;refine l8 (uM I (by rw[in1_units];omega) hH en nd f i Z1 (λhn tk=>?_) (λw hs tk vv z b rz=>?_))
    . rw[hn]at p
      exact l8 (wpAny_missed_other sy (mA (hQ _ _ ⟨_,H,I.tok tk,Z2,p H ι _ Ext.refl G0 rd⟩)))
    . rw[hs]at p
      exact mA (hQ _ _ ⟨_,H,I.tok tk,rz,p H ι _ Ext.refl G0 b⟩)
   match ds,q,rl with
   | [k],q,rl =>
    simp only[kM]at q;obtain⟨j,l,q⟩:=bind_some q;split at q
    . rename_i f
      cases q;obtain⟨e,_,rfl,i,rfl⟩:=rl;obtain⟨u,rfl,ru⟩:=bah rs;exact yc aeK HU agm (core (dflt:=.aA) (dv:=.aA) (du:=.none) l f i ru (by simp[Rel]) rfl p λv o h=>⟨v,rfl,h⟩) (PySem.F.args_dict_get_2 _ _)
    . cases q
   | [k,y],q,rl =>
    simp only[kM]at q;obtain⟨j,l,q⟩:=bind_some q;split at q
    . rename_i f
      cases q;obtain⟨e,_,rfl,i,yv,_,rfl,ry,rfl⟩:=rl;obtain⟨u,w',rfl,ru,b⟩:=baj rs;exact yc aeK HU agm (core (dflt:=y) l f i ru ry b p λv o h=>⟨v,rfl,h⟩) (PySem.F.args_dict_get_3 _ _ _)
    . cases q
   | [],q,rl=>cases q|_::_::_::_,q,rl=>cases q
  |_=>cases hT
noncomputable def j7:FE:=λ_ g=>some (.az g.length,g ++ [[]])
def KH:DE X (.Dict [] [] j) j7:=.of (by
 intro r s v H Q I h;obtain⟨x,n,g,d,c,G0,f,h,p⟩:=h;cases h;have hf:H s.heap.objs.size=none:=I.aW.fresh (nc _);have a:∀h:Heap,(h.push { cls:=.type "dict",data:=.dict #[] }).get? h.objs.size=some { cls:=.type "dict",data:=.dict #[] }:=λh=>p9 _ rfl;refine wpAny_Dict_empty ⟨.ref s.heap.objs.size,upd H s.heap.objs.size (dO s.heap.objs.size [] 0),I.laid (t':=s.toks) (λb u e=>nG _ e) (nc _) ?_,rfl,p _ _ _ (Ext.jw (b:=1) hf) (G0.jw hf (.d 0 [] [] (tc _) .nil .nil (by simp[aK]) (beq_eq_false_iff_ne.mpr (n7 (ro (big I)))) (tc _)) (by simp[ai])) ?_⟩
 . exact⟨a _,⟨_,a _⟩,λl i q k=>k _ q⟩
 . simp only[Rel]
   exact⟨_,rfl,dU.new G0.len⟩)
noncomputable def tP:List (FE×FE)->Sg->G->Option (List (D×D)×G)
 | [],_,g=>some ([],g)|p::r,c,g=>(p.1 c g).bind λa=>(p.2 c a.2).bind λb=>(tP r c b.2).bind λq=>some ((a.1,b.1)::q.1,q.2)
noncomputable def W6 (n:Nat):List (D×D)->G->Option G
 | [],g=>some g|p::r,g=>(lL (.az n) p.1 p.2 g).bind λa=>W6 n r a
noncomputable def oG (ps:List (FE×FE)):FE:=λc g=>(tP ps c (g ++ [[]])).bind λq=>(W6 g.length q.1 q.2).map λa=>(.az g.length,a)
inductive ly (K:KW)(H:Hp)(ι:Ix):List (D×D)->List (Value×Value)->Prop
 |nil:ly K H ι [] []
 |cons {d1 d2:D} {x y:V} {u v:Value} {ds us} (h1:Rel K H ι d1 x) (h2:mI x u) (h3:Rel K H ι d2 y) (h4:mI y v) (r:ly K H ι ds us):ly K H ι ((d1,d2)::ds) ((u,v)::us)
theorem ly.ext {K H ι H' a ds us}(r:ly K H ι ds us)(e:Ext H ι H' a):ly K H' a ds us:=by
 induction r with
 |nil=>exact .nil|cons h1 h2 c g _ h=>exact .cons (Rel.ext e _ h1) h2 (Rel.ext e _ c) g h
noncomputable def gy (X:Cx):List (Option Expr)->List Expr->List (FE×FE)->Prop
 | [],[],[]=>True|some k::c,v::g,p::r=>DE X k p.1/\DE X v p.2/\gy X c g r|_,_,_=>False
theorem xi {B:Pos}:∀(ps:List (FE×FE)) (keys:List (Option Expr)) (vals:List Expr),gy X keys vals ps->∀{Q:List (Addr×Obj)} {s:my} {M:mO} {H:Hp} {J:Ix} {C:Sg} {g R:G} {ds:List (D×D)},mn X Q M H s->au X.kw H J g->bC X.kw H J C M->tP ps C g=some (ds,R) ->
  wpAny (model X.prog X.w) X.A (evalPairs (pairTrees keys vals X.env B)) (λus s'=>∃E O,mn X Q M E s'/\Ext H J E O/\au X.kw E O R/\ly X.kw E O ds us) X.xe s
 | [],keys,vals,hd,Q,s,M,H,J,C,g,R,ds,I,G0,U,h=>by
  have e:keys = []/\vals = []:=by
    cases keys with
    |nil=>cases vals with|nil=>exact⟨rfl,rfl⟩|cons _ _=>simp[gy]at hd
    |cons k _=>cases k<;>cases vals<;>simp[gy]at hd
  obtain⟨rfl,rfl⟩:=e;cases h;exact pairTrees_nil_walk ⟨H,J,I,Ext.refl,G0,.nil⟩
 |p::ps,keys,vals,hd,Q,s,M,H,J,C,g,R,ds,I,G0,U,h=>by
  obtain⟨k,c,v,b,rfl,rfl,h1,h2,u⟩:∃k c v b,keys=some k::c/\vals=v::b/\DE X k p.1/\DE X v p.2/\gy X c b ps:=by
    cases keys with
    |nil=>cases vals<;>simp[gy]at hd
    |cons k c =>
     cases k with
     |none=>cases vals<;>simp[gy]at hd
     |some k =>
      cases vals with
      |nil=>simp[gy]at hd|cons v b=>simp only[gy]at hd;exact⟨k,c,v,b,rfl,rfl,hd⟩
  . simp only[tP]at h
    obtain⟨⟨q,Y⟩,e1,h⟩:=bind_some h;obtain⟨⟨o,g2⟩,e2,h⟩:=bind_some h;obtain⟨⟨dr,g3⟩,z,h⟩:=bind_some h;cases h;refine pairTrees_cons_walk (aV (h1.un Q s M H (λw E=>∃a,Ext H J E a/\au X.kw E a Y/\Rel X.kw E a q w) I ⟨J,C,g,q,Y,G0,U,e1,λZ a w e l r=>⟨a,e,l,r⟩⟩) λu1 s1 q1=>?_);obtain⟨w1,Z,I1,Z3,a,j,l,r1⟩:=q1;refine aV (h2.un Q s1 M Z (λw E=>∃d,Ext Z a E d/\au X.kw E d g2/\Rel X.kw E d o w) I1 ⟨a,C,Y,o,g2,l,U.ext j,e2,λx d w e n r=>⟨d,e,n,r⟩⟩) λu2 s2 q2=>?_;obtain⟨w2,x,I2,Z4,d,i,n,r2⟩:=q2;refine aV (xi ps c b u I2 n ((U.ext j).ext i) z) λus s3 q3=>?_;obtain⟨H3,ι3,y,f,G3,r3⟩:=q3;exact⟨H3,ι3,y,(j.trans i).trans f,G3,.cons (Rel.ext (i.trans f) _ r1) Z3 (Rel.ext f _ r2) Z4 r3⟩
theorem xj (hu:X.A.units+64<cLine){a:Addr}{n:Nat}{E:Value->my->Prop}:∀(ds:List (D×D)) (M:List (Value×Value)) {O:List (Addr×Obj)} {s:my} {R:mO} {H:Hp} {B:Ix} {g U:G} {Q:PUnit->my->Prop},mn X O R H s->au X.kw H B g->dU B n a true->ly X.kw H B ds M->W6 n ds g=some U ->
  (∀Y J,mn X O R J Y->Ext H B J B->au X.kw J B U->Q agN Y) ->
  wpAny (model X.prog X.w) X.A (forIn M agN λ(x:Value×Value) (_:PUnit)=>(do dictSet a x.1 x.2;pure (TV agN):Sem (ForInStep PUnit))) Q E s
 | [],M,O,s,R,H,B,g,U,Q,I,G0,C,r,h,p=>by cases r;cases h;rw[agw];exact mA (p s H I Ext.refl G0)
 | (k,v)::ds,M,O,s,R,H,B,g,U,Q,I,G0,C,r,h,p=>by
  cases r with
  |cons h1 h2 Z h4 r =>
   simp only[W6,lL]at h;obtain⟨g1,d,h⟩:=bind_some h;obtain⟨xs,hx,d⟩:=bind_some d;split at d
   . rename_i e
     simp only[mS]at e;cases d;obtain⟨es,vs,c,b,q,z,j,hh,nd,l,sz,rl⟩:=G0.rQ hx C;have f:=Ent.of j hh rl;have hz:=ax.le e.2;rw[zQ f]at hz;rw[ad1];refine l8 (l8 (uN I (by omega) b z sz f nd e.1 h1 h2 Z h4 λtk h' dj o e2 e3 e0 y u=>mA ?_));refine xj hu ds _ (xb I b y u) (xg G0 C q b o e2 l e0 (by omega)) C (r.ext (Ext.put C b)) h λY J i x' G'=>?_;exact p Y J i ((Ext.put C b).trans x') G'
   . cases d
def Gz (hu:X.A.units+64<cLine){ps:List (FE×FE)}(L:gy X t B ps)(E:t.all (·.isSome)=true)(J:t.length=B.length)(M:t ≠ [])(K:t.length<=15):
  DE X (.Dict t B j) (oG ps):=.of (by
 intro O s R H Q I h;obtain⟨C,U,g,d,g',G0,y,h,p⟩:=h;obtain⟨⟨ds,g1⟩,n,h⟩:=bind_some h;obtain⟨g2,i,h⟩:=oN.mp h;cases h;have a:=pairTrees_length t B X.env j E J;have v:pairTrees t B X.env j ≠ []:=λY=>by rw[Y]at a;exact M (ZW.mp a.symm)
 rw[arm_eval_Dict,zip_pairTrees t B X.env j E J,dictDisplay_pairs _ v (by rw[a];omega)];have hf:H s.heap.objs.size=none:=I.aW.fresh (nc _);have l:∀h:Heap,(h.push { cls:=.type "dict",data:=.dict #[] }).get? h.objs.size=some { cls:=.type "dict",data:=.dict #[] }:=λh=>p9 _ rfl;have Z:mn X O R (upd H s.heap.objs.size (dO s.heap.objs.size [] 0)) { s with heap:=s.heap.push { cls:=.type "dict",data:=.dict #[] } }:=I.laid (t':=s.toks) (λb u e=>nG _ e) (nc _) ⟨l _,⟨_,l _⟩,λn i q k=>k _ q⟩;have keys:Ext H C (upd H s.heap.objs.size (dO s.heap.objs.size [] 0)) (C.more s.heap.objs.size 1):=Ext.jw (b:=1) hf;have G1:au X.kw (upd H s.heap.objs.size (dO s.heap.objs.size [] 0)) (C.more s.heap.objs.size 1) (g ++ [[]]):=G0.jw hf (.d 0 [] [] (tc _) .nil .nil (by simp[aK]) (beq_eq_false_iff_ne.mpr (n7 (ro (big I)))) (tc _)) (by simp[ai]);have qq:dU (C.more s.heap.objs.size 1) g.length s.heap.objs.size true:=dU.new G0.len;refine l8 (Y4 (l8 ?_));unfold subDict;refine l8 (agj ?_);refine l8 (wh ?_);rw[if_pos (by rw[a];exact K)];refine l8 (aV (xi ps t B L Z G1 (y.ext keys) n) λus s1 q=>?_);obtain⟨H1,z,x,c,G2,r⟩:=q;refine wh (l8 (xj hu ds us x G2 (c.at qq) r i λs' f o x' G'=>mA (mA (mA ?_))));refine⟨.ref s.heap.objs.size,f,o,rfl,p f z _ ((keys.trans c).trans x') G' ?_⟩;simp only[Rel];exact⟨_,rfl,c.at qq⟩)
end
section
open PyProof.Rows
variable {Z:Array qt}{Y:Option Value->my->Prop}{d:Addr}
def next_end (u:M.handled=none)(j:c.heap.IsKeyIter f d p n o)(w:c.heap.get? d=some { cls:=.type "dict",data:=.dict Z o })(r:Z.size=n)(s:Z.size<=p)(prog:∀g,agi f c.heap g->Y none { c with heap:=g }):wpAny (model q l) M (ES (.ref f)) Y E c:=by
 subst r;obtain⟨it,A,h,a⟩:=id j;have T:=j.typeIs;have own:ae_ "dict_keyiterator" = false:=by decide
 have e:M.in1.handled=none:=u;have x:Z[p]? = none:=ady s;unfold ES;refine l8 (aey (HX (name:=vx "__next__") T F.slot_dict_keyiterator_next (yc F.slot_dict_keyiterator_next T F.entry_dict_keyiterator_next ?_ (F.args_dict_keyiterator_next_1 _))));unfold um.«dict_keyiterator.__next__»
 wp_walk using (acW T),(ae6 A a),(adb w rfl),(S3 w rfl)
 have i:¬((p:Int)<0):=by omega
 simp only[i,if_false,Nc,x]
 wp_walk using (acW T),(WT A a (by simp[own]))
 unfold raiseNew;refine l8 (agT ?_);rw[e];refine l8 (mA (ahz (l8 (adQ (T:="StopIteration") (b:=true) (v:=.ref _) (by exact⟨_,p9 _ rfl,rfl⟩) agr ?_))));exact mA (prog _ (((NT ..).extBut.push _).push _))
def next_item {e:qt}(w:c.heap.IsKeyIter f d p n o)(prog:c.heap.get? d=some { cls:=.type "dict",data:=.dict Z o })(u:Z.size=n)(r:Z[p]? = some e)(s:∀g,g.IsKeyIter f d (p+1) n o->M9 f c.heap g->Y (some e.key) { c with heap:=g }):wpAny (model q l) M (ES (.ref f)) Y E c:=by
 subst u;obtain⟨it,b,j,a⟩:=id w;have T:=w.typeIs;have i:¬((p:Int)<0):=by omega
 have A:(c.heap.update f (afv (·.setIfInBounds 1 (wQ ((p:Int)+1))))).IsKeyIter f d (p+1) Z.size o :=
  ⟨_,NU _ b (agx (ad9 a _)),(ahs ..).trans j,by rw[ad9 a];simp[wQ]⟩
 unfold ES;refine l8 (aey (HX (name:=vx "__next__") T F.slot_dict_keyiterator_next (yc F.slot_dict_keyiterator_next T F.entry_dict_keyiterator_next ?_ (F.args_dict_keyiterator_next_1 _))));unfold um.«dict_keyiterator.__next__»
 wp_walk using (acW T),(ae6 b a),(adb prog rfl),(S3 prog rfl)
 simp only[i,if_false,Nc,r];have own:ae_ "dict_keyiterator" = false:=by decide
 refine l8 (l8 (acW T (mA (l8 (agA T ?_)))));rw[own];refine l8 (WT b a (by simp) ?_)
 have h:aiK { c with heap:=c.heap.update f (afv (·.setIfInBounds 1 (wQ ((p:Int)+1)))) } (.ref f) "dict_keyiterator":=A.typeIs
 refine l8 (wh (l8 (agA h (mA (mA ⟨_,rfl,mA (s _ A (NT ..))⟩)))))
def GA (prog:(d == M7)=false)(a:c.heap.get? d=some { cls:=.type "dict",data:=.dict Z n })(b:Q (.ref c.heap.objs.size) { c with heap:=c.heap.push { cls:=.type "dict_keyiterator",data:=.fields #[.ref d,.int 0 0,.int Z.size 0,.int n 0] } }):wpAny (model q l) M (Tt (.ref d)) Q E c:=by
 have T:c.TypeIs (.ref d) "dict":=⟨_,a,rfl⟩
 refine afE T F.slot_dict_iter (yc F.slot_dict_iter T F.entry_dict_iter ?_ (F.args_dict_iter_1 _));unfold um.«dict.__iter__» Builtin.Dict.dictSlotNone Builtin.Dict.showsAll
 wp_walk using (agz T),(adb a rfl),(S3 a rfl)
 exact⟨_,rfl,"dict_keyiterator",_,⟨_,p9 _ rfl,rfl⟩,F.slot_dict_keyiterator_next.lookup,by simpa[wQ]using b⟩
end
section
open PyProof.Rows SeqAt
theorem oH:∀{c:List qt} {i:Nat} {e:qt},c[i]? = some e->(j3 c)[2*i]? = some e.key
 | [],i,e,h=>by simp at h|x::c,0,e,h=>by simp at h;subst h;rfl|x::c,i+1,e,h=>by rw[show 2*(i+1)=2*i+1+1 by omega];simpa[j3]using oH (by simpa using h)
noncomputable def Om (a:Addr)(n c:Nat):It :=
 ⟨λi H=>∃g h,H a=some (dO a g c)/\Vals h (j3 g)/\g.length=n/\i<n,λi H x b=>b=H /\ ∀g h,H a=some (dO a g c)->Vals h (j3 g)->h[2*i]? = some x,λi H=>∃g,H a=some (dO a g c)/\g.length=n/\n<=i⟩
def DY {K:oi}(a it:Addr)(n c:Nat):Turn q l K y (Om a n c) [it] it (λi h=>h.IsKeyIter it a i n (n-c)) where
 mem:=by simp
 obj:=λi h st b f=>by
  have e:b=it:=by simpa using f
  subst e;obtain⟨o,e,c,d⟩:=st;exact⟨o,e,λv z=>by rw[d]at z;cases z⟩
 keep:=λi h p st k=>by obtain⟨o,e,c,d⟩:=st;exact⟨o,k it (by simp) o e,c,d⟩
 item:=by
  intro X hP hw hK hc i cv s σ H E I hf st hg;subst hP hw hK;obtain⟨P,vs,r,hv,j,hi⟩:=hg;have w:=kL I r;rw[j]at w;have eJ:i<P.length:=by omega
  obtain⟨x,hx⟩:∃x,vs[2*i]? = some x:=by have h1:=oH (nz eJ);have h2:=(mT.mp h1).1;exact⟨_,nz (by rw[hv.length];exact h2)⟩
  obtain⟨u,hu,ru⟩:=hv.get hx;have hk:=oH (nz eJ);rw[hk]at hu;cases hu;obtain⟨f0,f1,f2,f3,f4,f5⟩:=hf it (by simp);refine next_item (e:=P[i]) st w (by simpa using j) (by simp[eJ]) λp gP sb=>?_;have I1:mn X cv σ H { s with heap:=p }:=I.turned (t':=s.toks) (λb o f e=>(sb.2 b f).trans e) f0 f1 f3 f4 f5;obtain⟨o,e,c,d⟩:=id gP;refine⟨_,rfl,vo (s:={ s with heap:=p }) e c d (by decide) ⟨x,H,I1,ru,⟨rfl,λdj Iw h1 h2=>?_⟩,gP,λb f=>(hf b f).1⟩⟩;have pZ:=kL I h1;have nJ:=kL I r;rw[nJ]at pZ;have:P=dj:=by
   injection pZ with tg
   injection tg with _ _ tg _
   injection tg with tg _
   simpa using congrArg ag7 tg
  subst this;rw[Vals.inj h2 hv];exact hx
 done:=by intro X hP hw hK hc i cv s σ H E I hf st hg;subst hP hw hK;obtain⟨P,r,j,hi⟩:=hg;have w:=kL I r;rw[j]at w;obtain⟨f0,f1,f2,f3,f4,f5⟩:=hf it (by simp);exact next_end (I.ok.hd hc) st w (by simpa using j) (by simp;omega) λp eb=>⟨rfl,I.turned (t':=s.toks) (λb o f e=>eb b o f e) f0 f1 f3 f4 f5⟩
 self:=λ_ _ _ _ _ st h=>wpAny_pyIter_keyiter st h
noncomputable def Oo (b:TE):TI:=λi H R=>b i H λx g=>∃a n c,x = .ref a/\(∃h,g a=some (dO a h c)/\h.length=n)/\(a == M7)=false/\R (Om a n c) g
def KJ {A:TE}(B:PE X e A):PI X y e (Oo A):=by
 intro E s J H R I h;refine aV (B E s J H _ I h) λv C l=>?_;obtain⟨x,M,d,f,u⟩:=l;obtain⟨a,n,c,g,⟨O,j,i⟩,p,q⟩:=u;subst g;cases f;have r:=kL d j;refine GA p r ?_;refine⟨C.heap.objs.size,[C.heap.objs.size],_,_,M,rfl,d.kept (t':=C.toks) λb o g=>nG _ g,DY a _ n c,⟨_,p9 _ rfl,rfl,by simp[i]⟩,λb z=>?_,q⟩;have g:b=C.heap.objs.size:=by simpa using z
 subst g;exact d.tf (nc _) (d.aW.fresh (nc _))
end
section
open PyProof.Rows
variable {z:List (Bool×Addr)}{w ι':Ix}{v:List (Str×Addr)}{t:KW}{s:iu}{o:List D->G->Option (D×G)}{k:FG}{g:FA}{H':Hp}{h':Heap}{elt:Expr}{pos:Pos}{tu:Addr}{ys:List V}{outer:List Env}{env:Env}
noncomputable def gX (nn L:Nat)(t:FG)(c:FT)(e:FE):Nat->Sg->G->Option (List D×G)
 | 0,_,g=>((g[nn]?).map aK).bind λh=>if h.length=L then some ([],g)else none|r+1,i,g=>((g[nn]?).map aK).bind λh=>if h.length=L then(h[L-(r+1)]?).bind λd=>(t d i g).bind λq=>(c q.1 q.2).bind λk=>if k.1=true then(e q.1 k.2).bind λa=>(gX nn L t c e r q.1 a.2).bind λz=>some (a.1::z.1,z.2)else gX nn L t c e r q.1 k.2 else none
noncomputable def BB (K:KW)(J:It)(H:Hp)(q:Ix)(nn L:Nat):Prop :=
 ∀(i:Nat) g c n,iZ H q g c->au K g c n->∀p,(n[nn]?).map aK=some p->p.length=L->(L<=i->J.stop i g) /\ ∀d,p[i]? = some d->J.go i g /\ ∀x h,J.yR i g x h->Ext g c h c/\au K h c n/\Rel K h c d x
inductive Oq (K:KW)(f:iu)(σ:mO)(H:Hp)(R:(It->Hp->Prop)):Prop
 |mk (ι:Ix) (σd:Sg) (g:G) (nn:Nat) (L:Nat) (g':G) (h0:au K H ι g) (h1:bC K H ι σd σ) (h2:f σd g=some (nn,L,g')) (h3:∀H' ι' J,Ext H ι H' ι'->au K H' ι' g'->BB K J H' ι' nn L->R J H'):Oq K f σ H R
structure zR (X:Cx)(tg iter:Expr)(f:iu):Prop where of ::
 un:PI X tg iter (Oq X.kw f)
noncomputable def tR (f:FE):iu:=λc g=>(f c g).bind λr=>match r.1 with|.az n=>(r.2[n]?).bind λh=>some (n,(aK h).length,r.2)|_=>none
def xk {K H ι}{c:List qt}(en:Ent K H ι A c):(aK A).length=c.length:=by
 induction en with
 |nil=>rfl|cons _ _ _ _ _ _ _ g=>simp[aK,g]
def KL:∀{i:Nat} {d:D},(aK A)[i]? = some d->A[2*i]? = some d:=by
 have:∀(n:Nat) (A:List D),A.length<=n->∀{i:Nat} {d:D},(aK A)[i]? = some d->A[2*i]? = some d:=λn=>by
  induction n with
  |zero=>intro A h i d e;have:A = []:=ZW.mp (by omega);subst this;simp[aK]at e
  |succ n c =>
   intro A h i d e;match A,h,e with
   | [],_,e=>simp[aK]at e| [x],_,e=>simp[aK]at e
   |k::v::r,h,e =>
    cases i with
    |zero=>simpa[aK]using e
    |succ i =>
     rw[show 2*(i+1)=2*i+1+1 by omega];simpa using c r (by simp at h;omega) (by simpa[aK]using e)
 exact fun {i d} h=>this A.length A (nc _) h
def BB.az {K H ι a n L c}(h:dU ι n a true)(A:ι.kd n=c+1):BB K (Om a L c) H ι n L:=λi C B E l p I hx J=>by obtain⟨ys,s,rfl⟩:=oN.mp hx;obtain⟨f,j,M,e,o,O,b,z,nd,Q,sz,rl⟩:=p.rQ s (l.at h);rw[l.lV n (mT.mp h.1).1,A]at o;cases o;have r:=Ent.of b z rl;have g:=xk r;refine⟨λh=>⟨f,e,by omega,h⟩,λd hd=>?_⟩;have R:i<(aK ys).length:=(mT.mp hd).1;refine⟨⟨f,j,e,b,by omega,by omega⟩,λx U y=>?_⟩;obtain⟨rfl,y⟩:=y;have:=y f j e b;obtain⟨v,u,q⟩:=rl.get (KL hd);rw[u]at this;cases this;exact⟨Ext.refl,p,q⟩
def pJ (B:DE X y C):zR X e y (tR C):=.of (PI.imp (KJ B.un) λM H Q h=>by
 obtain⟨O,E,g,nn,L,R,G0,q,h,p⟩:=h;obtain⟨⟨x,U⟩,h1,h⟩:=bind_some h;cases x with
 |az n =>
  obtain⟨Y,hx,h⟩:=bind_some h;cases h;refine tD.bind G0 q h1 λI r v s d Z j=>?_;obtain⟨a,rfl,b⟩:=j;obtain⟨J,vs,c,o,u,gG,l,z,nd,f,sz,rl⟩:=d.rQ hx b;have i:=Ent.of l z rl;exact⟨a,_,c,rfl,⟨J,o,(xk i).symm⟩,f,p I r _ s d (.az b u)⟩
 |_=>cases h)
noncomputable def gY (mk:List D->G->Option (D×G))(a:iu)(fr:List (Option Nat))(t:FG)(c:FT)(e:FE):FE:=λh g=>(a h g).bind λr=>if ax r.2.1=true then(gX r.1 r.2.1 t c e r.2.1 (bZ fr h) r.2.2).bind λq=>mk q.1 q.2 else none
noncomputable def Ot (a:iu):nR:=λc g=>(a c g).map λr=>(λg=>(g[r.1]?).map aK,r.2.1,r.2.2)
def pK (h:zR X e y s):qm X e y (Ot s):=.of (PI.imp h.un λB H Q q=>by obtain⟨u,j,g,r,L,o,G0,f,d,p⟩:=q;obtain⟨⟨nn,L1,v⟩,n,x⟩:=oN.mp d;cases x;exact⟨u,j,g,nn,L1,v,G0,f,n,λb c J i l a=>p b c J i l a⟩)
theorem xl {nn L:Nat}{t:FG}{c:FT}{e:FE}:∀(k:Nat) (h:Sg) (g:G),gX nn L t c e k h g=c9 (λg=>(g[nn]?).map aK) L t c e k h g
 | 0,h,g=>by simp only[gX,c9]|k+1,h,g=>by simp only[gX,c9,xl k]
def ng:gY o s u k Y C=iO o (Ot s) u k Y C:=by
 funext σ g;unfold gY iO Ot;cases s σ g with
 |none=>rfl|some r=>simp only[m5,E6,xl]
def GB (d:X.xe=λ_ _=>False)(h:X.calm=true)(ok:dB X K u J)(a:zR X e y s)(f:∀c g H i n,DG (aN X K J c g H i n) e k/\fD (aN X K J c g H i n) B Y/\DE (aN X K J c g H i n) elt C)(b:∀x,zg y X.env x=pure x):DE X (.ListComp elt [⟨e,y,B,0⟩] J pos) (gY bA s u k Y C):=by
 rw[ng];exact qH d h ok (pK a) f b
def xm {Q:Pos}(R:X.xe=λ_ _=>False)(o:X.calm=true)(ok:dB X K u J)(h:zR X e y s)(q:∀c I H M O,DG (aN X K J c I H M O) e k/\fD (aN X K J c I H M O) B Y/\DE (aN X K J c I H M O) elt C)(g:X.N.Nodup)(v:X.N[n]? = some x)(z:EB X.env.scope x)(E:M5 (.ListComp elt [⟨e,y,B,0⟩] J pos) (some (.Name x Q)) j.line X.env=pure true)(l:∀x,zg y X.env x=pure x)(i:X.fn x=true\/X.env.scope.names.lookup x=some .local):
  DS X (.Assign [.Name x Q] (.ListComp elt [⟨e,y,B,0⟩] J pos) j) (aF (gY bA s u k Y C) (gN n)):=
 by rw[ng];exact iP (λd _ b hD r f a p=>qF d b hD r f a p) R o ok (pK h) q g v z E l i
def xn {l:Pos}(o:X.xe=λ_ _=>False)(q:X.calm=true)(ok:dB X K u J)(i:zR X e y s)(E:∀c I H M O,DG (aN X K J c I H M O) e k/\fD (aN X K J c I H M O) B Y/\DE (aN X K J c I H M O) elt C)(v:X.N.Nodup)(Q:X.N[n]? = some x)(A:EB X.env.scope x)(g:M5 (.ListComp elt [⟨e,y,B,0⟩] J pos) (some (.Name x j)) l.line X.env=pure true)(R:∀x,zg y X.env x=pure x)(z:X.fn x=true\/X.env.scope.names.lookup x=some .local):
  DS X (.Assign [.Name x j] (.ListComp elt [⟨e,y,B,0⟩] J pos) l) (aF (gY gJ s u k Y C) (gN n)):=
 by rw[ng];exact iP (λf a d hD r h b p=>qG f a d hD r h b p) o q ok (pK i) E v Q A g R z
@[simp] def KN:tR C d a=(C d a).bind λr=>match r.1 with|.az c=>(r.2[c]?).bind λg=>some (c,(aK g).length,r.2)|_=>none:=rfl
@[simp] def DZ:gY o s u k Y C d a=(s d a).bind λr=>if ax r.2.1=true then(gX r.1 r.2.1 k Y C r.2.1 (bZ u d) r.2.2).bind λq=>o q.1 q.2 else none:=rfl
noncomputable def sN:Bool->String
 |true=>"list"|false=>"tuple"
noncomputable def iN:Bool->String
 |true=>"list_iterator"|false=>"tuple_iterator"
noncomputable def fT (b:Bool)(h:Heap)(a:Addr)(c:Array Value):Prop:=∃o,h.get? a=some o/\o.cls = .type (sN b) /\ ∃n,o.data = .seq c n
noncomputable def lz (b:Bool)(h:Heap)(j a:Addr)(i:Nat):Prop:=∃o,h.get? j=some o/\o.cls = .type (iN b)/\o.data = .fields #[.ref a,.int i 0]
def lz.at {j a i}(x:lz Z I j a i)(k:∀o,I.get? j=some o->h'.get? j=some o):lz Z h' j a i:=let⟨o,ho,r⟩:=x;⟨o,k o ho,r⟩
noncomputable def i6 (K:oi):Bool->Hp->Addr->List V->Prop
 |true=>dy K|false=>fz K
def BD {items}(a:lz Z c.heap f tu n)(e:fT Z c.heap tu items)(b:items[n]? = some T)(d:∀h',lz Z h' f tu (n+1)->M9 f c.heap h'->Q T { c with heap:=h' }):wpAny (model q l) M (Wd (.ref f)) Q E c:=by
 cases Z
 . exact vj a e b d
 . exact wpAny_nextOf_list_item a e b d
def D0 {items}(g:M.handled=none)(a:lz Z c.heap f tu n)(b:fT Z c.heap tu items)(h:items[n]? = none)(d:∀h' e,agi f c.heap h'->(∃o,h'.get? e=some o/\o.cls = .type "StopIteration")->E (.ref e) { c with heap:=h' }):wpAny (model q l) M (Wd (.ref f)) Q E c:=by
 cases Z
 . exact w4 g a b h d
 . exact wpAny_nextOf_list_end g a b h d
def so {items}(a:fT Z c.heap f items)(b:Q (.ref c.heap.objs.size) { c with heap:=c.heap.push { cls:=.type (iN Z),data:=.fields #[.ref f,.int 0 0] } }):wpAny (model q l) M (Tt (.ref f)) Q E c:=by
 cases Z
 . exact wpAny_pyIter_tuple a b
 . exact afC a b
def GC (I:mn X b r H c)(h:i6 X.K Z H f U):∃g:List Value,Vals U g/\fT Z c.heap f g.toArray/\U.length<=m6:=by
 cases Z
 . exact I.tuple h
 . obtain⟨g,i,p,z⟩:=I.list h
   exact⟨g,i,p.isList,z⟩
def xo (I:mn X b r H c)(h:i6 X.K Z H f U)(h':i6 X.K Z H f ys):U=ys:=by
 cases Z
 . exact I.og h h'
 . exact I.qz h h'
def D1 (I:mn X b r H c)(g:gI X b H tu)(h:i6 X.K Z H f U):f≠tu:=by
 cases Z
 . exact RY I g h
 . exact Of I g h
noncomputable abbrev fI (h:Heap)(T:Addr)(c:List Value):Prop:=h.get? T=some { cls:=.type "tuple",data:=.seq c.toArray }
structure Src where
 κ:Bool
 j:Addr
 a:Addr
noncomputable def gi (z a:Addr)(rs:List Src):List Addr:=z::a::rs.map (·.j)
structure ZD (z ti tu:Addr)(rs:List Src):Prop where
 n2:tu≠z
 tm:ti ∉ gi z tu rs
 jn:(rs.map (·.j)).Nodup
 jz:∀r∈rs,r.j≠z/\r.j≠tu
 am:∀r∈rs,r.a ∉ gi z tu rs
 le:rs.length<=8
 ne:rs ≠ []
theorem fT.cY {b:Bool}{h h':Heap}{a:Addr}{items}{c:List Addr}(x:fT b h a items)(k:cY c h h')(n:a ∉ c):fT b h' a items:=let⟨o,ho,r⟩:=x;⟨o,k _ _ n ho,r⟩
structure ZL (h0:Heap)(z ti tu:Addr)(rs:List Src)(i:Nat)(os:List Value)(xs:Src->Array Value)(k:Nat)(h:Heap)(us:List Value):Prop where
 kl:k<=rs.length
 ul:us.length=k
 uv:∀(m:Nat) (r:Src),m<k->rs[m]? = some r->∃u,(xs r)[i]? = some u/\us[m]? = some u
 hz:IsZip h z ti tu .ellipsis
 ht:fI h tu (us++os.drop k)
 it:∀(m:Nat) (r:Src),rs[m]? = some r->lz r.κ h r.j r.a (if m<k then i+1 else i)
 st:cY (gi z tu rs) h0 h
 sz:h.objs.size=h0.objs.size
def D2 {O:Addr}{rs:List Src}{Y:Src->Array Value}(hh:M.handled=none)(D:ZD f O tu rs)(hz:IsZip c.heap f O tu .none)(K:fI c.heap O (rs.map λr=>.ref r.j))(H:fI c.heap tu R)(A:R.length=rs.length)(B:∀r∈rs,lz r.κ c.heap r.j r.a n)(I:∀r∈rs,fT r.κ c.heap r.a (Y r))(C:∀(g:List Value) (h':Heap),g.length=rs.length->(∀(m:Nat) (r:Src),rs[m]? = some r->∃u,(Y r)[n]? = some u/\g[m]? = some u)->IsZip h' f O tu (wQ c.heap.objs.size)->fI h' tu g->(∀r∈rs,lz r.κ h' r.j r.a (n+1))->fI h' c.heap.objs.size g->cY (gi f tu rs) c.heap h'->Q (.ref c.heap.objs.size) { c with heap:=h' })(J:(∃r∈rs,(Y r)[n]? = none)->∀h' e,cY (gi f tu rs) c.heap h'->(∃o,h'.get? e=some o/\o.cls = .type "StopIteration")->E (.ref e) { c with heap:=h' }):
   wpAny (model q l) M (um.«zip.__next__» ⟨[.ref f],[]⟩) (λfin Z=>∃v,fin = .done (.ret v)/\Q v Z) E c:=by
 have mz:f∈gi f tu rs:=by simp[gi]
 have mu:tu∈gi f tu rs:=by simp[gi]
 have mj:∀r∈rs,r.j∈gi f tu rs:=λr d=>by simp only[gi,nF];exact .inr (.inr (M4 d))
 have ab:=D.le;have hs:m6=16777216:=IV;change wpAny _ _ (field (.ref f) 2 >>= λ_=>_) _ _ _;refine l8 (Ft hz rfl (x:=.bool false) rfl ?_);change wpAny _ _ (field (.ref f) 3 >>= λ_=>_) _ _ _;refine l8 (Ft hz rfl (x:=.ref O) rfl ?_);refine l8 (adJ K rfl ?_);refine ad2 (by simp[D.ne]) ?_;change wpAny _ _ (aek (.ref f) >>= λ_=>_) _ _ _;refine l8 ?_;unfold aek;refine l8 (Ft hz rfl (x:=.none) rfl (mA ?_));simp only[if_true];refine l8 (DK (l8 (Ft hz rfl (x:=.ref tu) rfl (l8 (ad_ hz (by simp) λb1 z1 c1=>l8 ?_)))));have y1:IsZip b1 f O tu .ellipsis:=z1;have ez:∀{b:Heap} {e:Addr} {oe:Obj},IsZip b f O tu .ellipsis->b.get? e=some oe->oe.cls = .type "StopIteration"->e≠f:=λyb q1 q2 x=>by subst x;rw[yb]at q1;cases q1;exact absurd (show wo "zip" = wo "StopIteration" from q2) (by decide)
 refine ado _ (λrest b Z=>∃k g h',rest=((rs.map λr=>FX r.j).zipIdx).drop k/\b=(none,())/\Z={ c with heap:=h' }/\ZL c.heap f O tu rs n R Y k h' g) _ ?_ ?_ _ _ ?_
 . rintro x rest b Z ⟨k,g,h,d,rfl,rfl,L⟩
   have hk:k<rs.length:=by refine Nat.lt_of_not_le λhc=>?_;rw[agn (by simpa using hc)]at d;cases d
   obtain⟨r,X⟩:∃r,rs[k]? = some r:=⟨_,nz hk⟩
   have hm:=sZ X;rw[VX (by simpa using hk)]at d;injection d with hx R6
   have hx:x=(.ref r.j,k):=by rw[hx];obtain⟨_,e⟩:=mT.mp X;simp[e]
   subst hx;have i1:=L.it k r X;rw[if_neg (GW k)]at i1;have s1:=(I r hm).cY L.st (D.am r hm);refine l8 (wpAny_onRaise ?_);change wpAny _ _ (Wd (.ref r.j) >>= λ_=>_) _ _ _;cases hv:(Y r)[n]? with
   |none =>
     refine l8 (D0 hh i1 s1 hv λy e p he=>?_);obtain⟨oe,q1,q2⟩:=he;have y2:IsZip y f O tu .ellipsis:=p _ _ (D.jz r hm).1.symm L.hz;refine ad_ y2 (by simp) λb3 _ prog=>J ⟨r,hm,hv⟩ b3 e ?_ ⟨oe,(prog.2 _ (ez y2 q1 q2)).trans q1,q2⟩;exact(L.st.tr λw o s e=>p w o (λz=>s (z ▸ mj r hm)) e).tr (cY.of prog mz)
   |some u =>
     refine l8 (BD i1 s1 hv λy u2 p=>mA ?_);have w2:fI y tu (g++R.drop k):=(p.2 _ (D.jz r hm).2.symm).trans L.ht;have ol:k<R.length:=by omega
     have ul:=L.ul;have len:(g++R.drop k).length=rs.length:=by rw[nv,aez,ul];omega
     refine l8 (adJ w2 rfl (l8 (aeT w2 rfl ?_ (by simp only[om];omega) (by simp only[Array.size_setIfInBounds,om];omega))));refine l8 (wpAny_letGo (mA ?_))
     have prog:M9 tu y (y.update tu (HG (·.setIfInBounds k u))):=NT ..
     have w3:fI (y.update tu (HG (·.setIfInBounds k u))) tu ((g ++ [u])++R.drop (k+1)):=by
       show(y.update tu _).get? tu=_;rw[NU _ w2 rfl];have:(g++R.drop k).set k u=(g ++ [u])++R.drop (k+1):=by rw[List.set_append_right _ _ (by omega),ul,UH,VX ol,ahd,Fm];rfl
       have ln:((g ++ [u])++R.drop (k+1)).length=(g++R.drop k).length:=by rw[<- this,QJ]
       simp only[HG,List.setIfInBounds_toArray,this];rw[if_pos (by rw[om,om,ln,beq_self_eq_true])]
     refine⟨k+1,g ++ [u],_,R6,rfl,rfl,hk,by simp[ul],λm U lT i=>?_,?_,w3,λm U i=>?_,?_,?_⟩
     . by_cases e:m=k
       . subst e
         rw[X]at i;cases i;exact⟨u,hv,by rw[Fq (by omega),ul,UH];rfl⟩
       . obtain⟨v,h1,h2⟩:=L.uv m U (by omega) i
         exact⟨v,h1,by rw[r_ (by omega)];exact h2⟩
     . exact(prog.2 _ D.n2.symm).trans ((p.2 _ (D.jz r hm).1.symm).trans L.hz)
     . have rP:=sZ i
       by_cases e:m=k
       . subst e
         rw[X]at i;cases i;rw[if_pos (Zv m)];exact u2.at λo e=>(prog.2 _ (D.jz r hm).2).trans e
       . have:=L.it m U i
         have nj:U.j≠r.j:=λz=>by
          have h1:(rs.map (·.j))[m]? = some U.j:=by rw[qd,i];rfl
          have h2:(rs.map (·.j))[k]? = some U.j:=by rw[qd,X,z];rfl
          exact e ((afG (by simpa using (mT.mp i).1) D.jn).mp (h1.trans h2.symm))
         rw[show(if m<k+1 then n+1 else n)=if m<k then n+1 else n by
          by_cases e2:m<k
          . rw[if_pos e2,if_pos (by omega)]
          . rw[if_neg e2,if_neg (by omega)]]
         exact this.at λo e=>(prog.2 _ (D.jz U rP).2).trans ((p.2 _ nj).trans e)
     . exact(L.st.tr (cY.of p (mj r hm))).tr (cY.of prog mu)
     . rw[prog.1,p.1,L.sz]
 . rintro b Z ⟨k,g,h,d,rfl,rfl,L⟩
   have hk:k=rs.length:=by have:=congrArg afc d;simp at this;have:=L.kl;omega
   subst hk;have ul:=L.ul;have w1:fI h tu g:=by have:=L.ht;rw[agn (by omega),wz]at this;exact this
   refine l8 (adJ w1 rfl (l8 (wpAny_newTuple ?_ (by simp;omega))));change wpAny _ _ (aea (.ref f) (.ref h.objs.size) >>= λ_=>_) _ _ _;refine l8 ?_;unfold aea;have y6:IsZip (h.push { cls:=.type "tuple",data:=.seq g.toArray }) f O tu .ellipsis:=nG _ L.hz;refine l8 (ad_ y6 (by simp) λb7 z7 c7=>?_);have y7:IsZip b7 f O tu (wQ h.objs.size):=z7;refine ad_ y7 (by simp) λb8 z8 c8=>mA ⟨_,rfl,?_⟩;have y8:IsZip b8 f O tu (wQ h.objs.size):=z8;have Up:f<h.objs.size:=nI L.hz;have up:∀w o,w≠f->h.get? w=some o->b8.get? w=some o:=λw o s e=>(c8.2 w s).trans ((c7.2 w s).trans (nG _ e));have T8:fI b8 h.objs.size g:=(c8.2 _ (aeP Up)).trans ((c7.2 _ (aeP Up)).trans (p9 _ rfl));change Q (.ref h.objs.size) _;have sz:=L.sz;rw[sz]at y8 T8 ⊢;refine C g b8 ul (λm r d=>L.uv m r (mT.mp d).1 d) y8 (up _ _ D.n2 w1) (λr d=>?_) T8 λw o s e=>up w o (λz=>s (z ▸ mz)) (L.st w o s e);obtain⟨m,hm⟩:=Wg d;have:=L.it m r hm;rw[if_pos (mT.mp hm).1]at this;exact this.at λo e=>up _ o (D.jz r d).1 e
 . refine⟨0,[],b1,rfl,rfl,rfl,tc _,rfl,λ_ _ h=>absurd h (ahX _),y1,?_,λm r d=>?_,cY.of c1 mz,c1.1⟩
   . exact(c1.2 _ D.n2).trans H
   . have hm:=sZ d
     rw[if_neg (ahX _)];exact(B r hm).at λo e=>(c1.2 _ (D.jz r hm).1).trans e
def D3 {i:Addr}{rs:List Src}{os:List Value}{xs:Src->Array Value}{Q:Option Value->my->Prop}(O:M.handled=none)(D:ZD f i tu rs)(hz:IsZip c.heap f i tu .none)(L:fI c.heap i (rs.map λr=>.ref r.j))(H:fI c.heap tu os)(K:os.length=rs.length)(B:∀r∈rs,lz r.κ c.heap r.j r.a n)(I:∀r∈rs,fT r.κ c.heap r.a (xs r))(C:∀(g:List Value) (h':Heap),g.length=rs.length->(∀(m:Nat) (r:Src),rs[m]? = some r->∃u,(xs r)[n]? = some u/\g[m]? = some u)->IsZip h' f i tu (wQ c.heap.objs.size)->fI h' tu g->(∀r∈rs,lz r.κ h' r.j r.a (n+1))->fI h' c.heap.objs.size g->cY (gi f tu rs) c.heap h'->Q (some (.ref c.heap.objs.size)) { c with heap:=h' })(J:(∃r∈rs,(xs r)[n]? = none)->∀h',cY (gi f tu rs) c.heap h'->Q none { c with heap:=h' }):wpAny (model q l) M (ES (.ref f)) Q E c:=by
 have ty:c.TypeIs (.ref f) "zip":=⟨_,hz,rfl⟩
 unfold ES;refine l8 (aey (HX (name:=vx "__next__") ty F.slot_zip_next (yc F.slot_zip_next ty F.entry_zip_next (D2 O D hz L H K B I (λg h' x y s z w h d=>mA (C g h' x y s z w h d)) λprog h' e A R=>?_) (F.args_zip_next_1 _))));obtain⟨o,v,p⟩:=R;exact l8 (adQ (T:="StopIteration") (b:=true) ⟨o,v,p⟩ agr (mA (J prog _ A)))
noncomputable abbrev ip (q:Bool×Addr):Obj:={ cls:=.type (iN q.1),data:=.fields #[.ref q.2,.int 0 0] }
noncomputable def sr (h:Heap):List (Bool×Addr)->Heap
 | []=>h|q::r=>sr (h.push (ip q)) r
noncomputable def xp (h:Heap):List (Bool×Addr)->List Addr
 | []=>[]|q::r=>h.objs.size::xp (h.push (ip q)) r
noncomputable abbrev IC (h:Heap)(l:List (Bool×Addr)):Heap:=(sr h l).push { cls:=.type "tuple",data:=.seq ((xp h l).map FX).toArray }
noncomputable abbrev ID (h:Heap)(l:List (Bool×Addr)):Heap:=(IC h l).push { cls:=.type "tuple",data:=.seq (l.map λ_=>Ad).toArray }
noncomputable abbrev IE (h:Heap)(l:List (Bool×Addr)):Heap:=(ID h l).push { cls:=.type "zip",data:=.fields #[.none,.bool false,.bool false,.ref (sr h l).objs.size,.ref (IC h l).objs.size] }
theorem fT.push {items}(x:fT Z I f items)(o:Obj):fT Z (I.push o) f items:=let⟨u,hu,r⟩:=x;⟨u,nG _ hu,r⟩
noncomputable abbrev BE (l:List (Bool×Addr)):Prop:=Meets (um.«zip.__new__» ⟨.type "zip" :: l.map λq=>.ref q.2,[]⟩) (λ_ R s=>(∀q∈l,∃c,fT q.1 s.heap q.2 c)/\R (.ok (.ret (.ref (ID s.heap l).objs.size))) { s with heap:=IE s.heap l })
def KQ (p q:Bool×Addr):BE [p,q]:=.of_wp λprog w A R s h=>by
 obtain⟨a,g,d,b,os⟩:=s;obtain⟨t,h⟩:=h;have sub:=sub_zip;obtain⟨i,n⟩:=t p (by simp);obtain⟨ys,e⟩:=t q (by simp);have c:fT p.1 (afd ⟨a,g,d,b,os⟩) p.2 i:=n;have tB:fT q.1 (afd ⟨a.push (ip p),g,d,b,os⟩) q.2 ys:=e.push _;show wpAny _ _ (um.«zip.__new__» ⟨[.type "zip",.ref p.2,.ref q.2],[]⟩) _ _ _;clear t
 wp_walk using so c,so tB
 exact⟨_,rfl,h⟩
set_option maxHeartbeats 1000000 in
def KR (p q r:Bool×Addr):BE [p,q,r]:=.of_wp λprog w A R s h=>by
 obtain⟨a,g,d,b,os⟩:=s;obtain⟨t,h⟩:=h;have sub:=sub_zip;obtain⟨i,n⟩:=t p (by simp);obtain⟨ys,e⟩:=t q (by simp);obtain⟨zs,u⟩:=t r (by simp);have c:fT p.1 (afd ⟨a,g,d,b,os⟩) p.2 i:=n;have tB:fT q.1 (afd ⟨a.push (ip p),g,d,b,os⟩) q.2 ys:=e.push _;have tC:fT r.1 (afd ⟨(a.push (ip p)).push (ip q),g,d,b,os⟩) r.2 zs:=(u.push _).push _;show wpAny _ _ (um.«zip.__new__» ⟨[.type "zip",.ref p.2,.ref q.2,.ref r.2],[]⟩) _ _ _;clear t
 wp_walk using so c,so tB,so tC
 exact⟨_,rfl,h⟩
theorem BF {c:Addr}{o:Obj}:∀{l:List (Bool×Addr)} {h:Heap},h.get? c=some o->(sr h l).get? c=some o
 | [],_,e=>e|_::l,_,e=>BF (l:=l) (nG _ e)
theorem IF:∀{l:List (Bool×Addr)} {h:Heap},(sr h l).objs.size=h.objs.size+l.length
 | [],_=>rfl|q::l,h=>by have:=IF (l:=l) (h:=h.push (ip q));rw[M8]at this;rw[z6,sr,this];omega
theorem BG:∀{l:List (Bool×Addr)} {h:Heap} {m:Nat} {q:Bool×Addr},l[m]? = some q->(xp h l)[m]? = some (h.objs.size+m)/\(sr h l).get? (h.objs.size+m)=some (ip q)
 | [],_,_,_,e=>by simp at e|p::l,h,0,q,e=>by simp at e;subst e;exact⟨rfl,BF (l:=l) (p9 _ rfl)⟩|p::l,h,m+1,q,e=>by have:=BG (l:=l) (h:=h.push (ip p)) (m:=m) (q:=q) (by simpa using e);rw[M8,show h.objs.size+1+m=h.objs.size+(m+1) by omega]at this;exact⟨by simpa[xp]using this.1,this.2⟩
theorem zT:∀{l:List (Bool×Addr)} {h:Heap},(xp h l).length=l.length
 | [],_=>rfl|q::l,h=>by simp[xp,zT (l:=l)]
noncomputable def cL (n:Nat)(l:List (Bool×Addr)):List Src:=l.zipIdx.map λp=>⟨p.1.1,n+p.2,p.1.2⟩
def mw:(cL n z)[p]? = z[p]?.map λq=>⟨q.1,n+p,q.2⟩:=by unfold cL;rw[qd,List.getElem?_zipIdx];cases z[p]?<;>simp
def ig:(cL n z).length=z.length:=by simp[cL]
def nh {r:Src}(h:r∈cL n z):∃m q,z[m]? = some q/\r=⟨q.1,n+m,q.2⟩:=by obtain⟨m,e⟩:=Wg h;rw[mw]at e;obtain⟨q,a,rfl⟩:=oN.mp e;exact⟨m,q,a,rfl⟩
def Ov:(xp I z).map FX=(cL I.objs.size z).map λr=>.ref r.j:=by
 refine Ws λm=>?_;rw[qd,qd,mw];cases e:z[m]? with
 |none=>rw[zH (by rw[zT];exact adg.mp e)];rfl|some q=>rw[(BG e).1];rfl
def uQ (mk:BE z)(prog:checkTypeCall "zip" ⟨z.map λA=>.ref A.2,[]⟩=pure ())(y:af2 "zip.__new__" ⟨.type "zip" :: z.map λA=>.ref A.2,[]⟩=pure ())(B:∀o,Wm "object.__init__" ⟨o::z.map λA=>.ref A.2,[]⟩)(t:∀A∈z,∃C,fT A.1 c.heap A.2 C)(h:∀h',IsZip h' (c.heap.objs.size+z.length+2) (c.heap.objs.size+z.length) (c.heap.objs.size+z.length+1) .none->fI h' (c.heap.objs.size+z.length) ((cL c.heap.objs.size z).map λr=>.ref r.j)->fI h' (c.heap.objs.size+z.length+1) (z.map λ_=>Ad) ->
   (∀r∈cL c.heap.objs.size z,lz r.κ h' r.j r.a 0)->(∀w o,c.heap.get? w=some o->h'.get? w=some o)->Q (.ref (c.heap.objs.size+z.length+2)) { c with heap:=h' }):
  wpAny (model q l) M (call (.type "zip") (z.map λA=>.ref A.2)) Q E c:=by
 refine callType_new F.called_zip (by decide) prog y B F.entry_zip_new mk ⟨t,?_⟩;have f:(sr c.heap z).objs.size=c.heap.objs.size+z.length:=IF;have d:(IC c.heap z).objs.size=c.heap.objs.size+z.length+1:=by rw[M8,f]
 have i:(ID c.heap z).objs.size=c.heap.objs.size+z.length+2:=by rw[M8,d]
 have g:∀{h:Heap} {o H:Obj} {w:Addr},h.get? w=some o->(h.push H).get? w=some o:=λe=>nG _ e;have b:(IE c.heap z).get? (ID c.heap z).objs.size=some _:=p9 _ rfl;have n:(IE c.heap z).get? (IC c.heap z).objs.size=some _:=g (p9 _ rfl);have p:(IE c.heap z).get? (sr c.heap z).objs.size=some _:=g (g (p9 _ rfl));show _/\_;rw[f,d,i]at b;rw[d]at n;rw[f,Ov]at p;rw[i];refine⟨⟨_,b,rfl⟩,h _ b p n (λr v=>?_) λw o x=>g (g (g (BF x)))⟩;obtain⟨m,A,u,rfl⟩:=nh v;exact⟨_,g (g (g (BG u).2)),rfl,rfl⟩
noncomputable def BH (K : oi) (l : List (Bool × Addr)): It :=
 ⟨λi H => ∀ q ∈ l, ∃ c x, i6 K q.1 H q.2 c /\ c[i]? = some x,
  λi H x a => ∃ T g, x = .ref T /\ H T = none /\ a = upd H T (.tup g) /\ g.length = l.length /\ ∀ (m : Nat) (q : Bool × Addr), l[m]? = some q -> ∀ c, i6 K q.1 H q.2 c -> ∃ v, c[i]? = some v /\ g[m]? = some v,
  λi H => (∀ q ∈ l, ∃ c, i6 K q.1 H q.2 c) /\ ∃ q ∈ l, ∃ c, i6 K q.1 H q.2 c /\ c.length <= i⟩
theorem zU {P:Nat->V->Prop}:∀(c:List Value) (k:Nat),(∀(m:Nat) (u:Value),c[m]? = some u->∃v,P (k+m) v/\mI v u)->∃g,Vals g c /\ ∀(m:Nat) (v:V),g[m]? = some v->P (k+m) v
 | [],_,_=>⟨[],.nil,λm v h=>by simp at h⟩
 |u::c,k,h=>by
  obtain⟨v,p,r⟩:=h 0 u rfl;obtain⟨g,rs,a⟩:=zU (P:=P) c (k+1) λm u e=>by have:=h (m+1) u (by simpa using e);rwa[show k+(m+1)=k+1+m by omega]at this
  refine⟨v::g,.cons r rs,λm w e=>?_⟩;cases m with
  |zero=>simp at e;subst e;exact p|succ m=>have:=a m w (by simpa using e);rwa[show k+1+m=k+(m+1) by omega]at this
structure ZT (h:Heap)(z ti tu:Addr)(n0:Nat)(l:List (Bool×Addr))(i:Nat):Prop where
 hz:IsZip h z ti tu .none
 kK:fI h ti ((cL n0 l).map λr=>.ref r.j)
 uP:∃os:List Value,fI h tu os/\os.length=l.length
 it:∀r∈cL n0 l,lz r.κ h r.j r.a i
noncomputable def kN (z b c:Addr)(a:Nat)(l:List (Bool×Addr)):List Addr:=b::gi z c (cL a l)
def D4:(cL n z).map (·.j)=(r6 z.length).map (n + ·):=by
 refine Ws λm=>?_;rw[qd,qd,mw];by_cases h:m<z.length
 . rw[nz h,acY h];rfl
 . rw[zH (by omega),zH (by simp;omega)];rfl
def D5 {P:uy}{K:oi}(A:Nat)(M:List (Bool×Addr))(J:M.length<=8)(C:M ≠ []):
   Turn P l K (.Tuple B p j) (BH K M) (kN (A+M.length+2) (A+M.length) (A+M.length+1) A M) (A+M.length+2) (λi h=>ZT h (A+M.length+2) (A+M.length) (A+M.length+1) A M i):=by
 generalize Ow:A+M.length+2=z;generalize aA:A+M.length+1=tu;generalize ah:A+M.length=O;have a1:(tu:Nat)≠z:=by omega
 have a2:(O:Nat)≠z:=by omega
 have a3:(O:Nat)≠tu:=by omega
 have Uq:∀r∈cL A M,r.j≠O/\r.j≠z/\r.j≠tu:=λr f=>by
   obtain⟨m,q,hq,rfl⟩:=nh f;have:=(mT.mp hq).1;have b1:(A+m:Nat)≠O:=by omega
   have b2:(A+m:Nat)≠z:=by omega
   have b3:(A+m:Nat)≠tu:=by omega
   exact⟨b1,b2,b3⟩
 have memC:∀{c},c∈gi z tu (cL A M)->c=z\/c=tu \/ ∃r∈cL A M,c=r.j:=fun {c} h=>by
   simp only[gi,nF,nP]at h;rcases h with h|h|⟨r,f,h⟩
   . exact .inl h
   . exact .inr (.inl h)
   . exact .inr (.inr ⟨r,f,h.symm⟩)
 have zd:(∀r∈cL A M,r.a ∉ gi z tu (cL A M))->ZD z O tu (cL A M):=λam=>by
   refine⟨a1,λh=>?_,?_,λr f=>(Uq r f).2,am,by rw[ig];exact J,λh=>C (ZW.mp (by rw[<- ig (n:=A),h];rfl))⟩
   . rcases memC h with h|h|⟨r,f,h⟩
     . exact a2 h
     . exact a3 h
     . exact(Uq r f).1 h.symm
   . rw[D4,List.Nodup,ahv]
     exact af4.imp λh e=>h (Nat.add_left_cancel e)
 have own:∀{i h},ZT h z O tu A M i->∀b∈kN z O tu A M,∃o,h.get? b=some o /\ ∀v,o.data ≠ .cell v:=fun {i h} st c x=>by
   obtain⟨os,U,_⟩:=st.uP;simp only[kN,nF]at x;rcases x with rfl|x
   . exact⟨_,st.kK,λv z=>by cases z⟩
   . rcases memC x with rfl|rfl|⟨r,f,rfl⟩
     . exact⟨_,st.hz,λv z=>by cases z⟩
     . exact⟨_,U,λv z=>by cases z⟩
     . obtain⟨o,g,_,d⟩:=st.it r f
       exact⟨_,g,λv z=>by rw[d]at z;cases z⟩
 have mz:z∈kN z O tu A M:=by simp[kN,gi]
 have mt:O∈kN z O tu A M:=by simp[kN]
 have mu:tu∈kN z O tu A M:=by simp[kN,gi]
 have mj:∀r∈cL A M,r.j∈kN z O tu A M:=λr f=>by simp only[kN,gi,nF];exact .inr (.inr (.inr (M4 f)))
 refine⟨mz,λi h st=>own st,λi h h' st k=>?_,?_,?_,λ_ _ _ _ _ st h=>wpAny_pyIter_zip st.hz h⟩
 . obtain⟨os,U,h4⟩:=st.uP
   exact⟨k z mz _ st.hz,k O mt _ st.kK,⟨os,k tu mu _ U,h4⟩,λr f=>(st.it r f).at λo e=>k _ (mj r f) o e⟩
 . intro X hP hw hK x i cv s σ H E I hf st hg
   subst hP hw hK;obtain⟨os,U,h4⟩:=st.uP;have ex:∀r∈cL A M,∃(y:List V) (Q:List Value) (v:V) (u:Value),i6 X.K r.κ H r.a y/\fT r.κ s.heap r.a Q.toArray/\y[i]? = some v/\Q[i]? = some u/\mI v u:=λr f=>by obtain⟨m,q,hq,rfl⟩:=nh f;obtain⟨y,v,h1,h2⟩:=hg q (sZ hq);obtain⟨Q,rv,w,_⟩:=GC I h1;obtain⟨u,hu,ru⟩:=rv.get h2;exact⟨y,Q,v,u,h1,w,h2,hu,ru⟩
   have D:=zd λr f h=>by obtain⟨y,_,_,_,h1,_⟩:=ex r f;exact D1 I (hf _ (p8 _ h)) h1 rfl
   classical
   let xs:Src->Array Value:=λr=>if h:r∈cL A M then(aeE (Ul (ex r h))).toArray else #[];have Z:∀r∈cL A M,∃(y:List V) (v:V) (u:Value),i6 X.K r.κ H r.a y/\fT r.κ s.heap r.a (xs r)/\y[i]? = some v/\(xs r)[i]? = some u/\mI v u:=λr f=>by obtain⟨v,u,a,b,c,d,e⟩:=Ul (Ul (ex r f));have e1:xs r=(aeE (Ul (ex r f))).toArray:=dif_pos f;rw[<- e1]at b;exact⟨_,v,u,a,b,c,by rw[e1];simpa using d,e⟩
   refine D3 (xs:=xs) (os:=os) (I.ok.hd x) D st.hz st.kK U (by rw[h4,ig]) st.it (λr f=>let⟨_,_,_,_,w,_⟩:=Z r f;w) (λY h' ul uv g1 g2 g3 g5 g6=>?_) λ⟨r,f,e⟩=>by obtain⟨_,_,u,_,_,_,e2,_⟩:=Z r f;rw[e]at e2;cases e2
   refine⟨_,rfl,wpAny_letOwnedTupleGo_zip g1 λIq g7 g8=>?_⟩;obtain⟨R,ab,pw⟩:=zU (P:=λm v=>∀q,M[m]? = some q->∀y,i6 X.K q.1 H q.2 y->y[i]? = some v) Y 0 λm u hm=>by
     have hl:m<M.length:=by rw[<- ig (n:=A),<- ul];exact(mT.mp hm).1
     have hq:M[m]? = some M[m]:=nz hl;have f:(cL A M)[m]? = some ⟨M[m].1,A+m,M[m].2⟩:=by rw[mw,hq];rfl
     obtain⟨u',h1,h2⟩:=uv m _ f;rw[hm]at h2;cases h2;obtain⟨y,v,u2,p1,_,p3,p4,p5⟩:=Z _ (sZ f);rw[h1]at p4;cases p4;refine⟨v,λq e ys hy=>?_,p5⟩;rw[vU,hq]at e;cases e;rw[xo I hy p1];exact p3
   have wl:R.length=M.length:=by rw[ab.length,ul,ig]
   have I1:mn X cv σ (upd H s.heap.objs.size (.tup R)) { s with heap:=s.heap.push { cls:=.type "tuple",data:=.seq Y.toArray } }:=
     I.laid (t':=s.toks) (o:=.tup R) (λb o q=>nG _ q) (nc _) (show dJ X.prog X.w _ _ _ (.tup R) from⟨by rw[wl,IV];omega,Y,ab,fV.new _ _⟩)
   have lt:∀c∈kN z O tu A M,c≠s.heap.objs.size:=λc x=>by obtain⟨o,h,_⟩:=own st c x;exact ro (nI h)
   have I2:mn X cv σ (upd H s.heap.objs.size (.tup R)) { s with heap:=Iq }:=zI (t':=s.toks) (s:={ s with heap:=s.heap.push { cls:=.type "tuple",data:=.seq Y.toArray } }) (ch:=kN z O tu A M) I1 (λc o x e=>by
     have ui:c ∉ gi z tu (cL A M):=λq=>x (p8 _ q);have h6:h'.get? c=some o:=by
       by_cases Ur:c=s.heap.objs.size
       . subst Ur
         have e':(s.heap.push { cls:=.type "tuple",data:=.seq Y.toArray }).get? s.heap.objs.size=some o:=e;rw[p9 _ rfl]at e';rw[<- e'];exact g5
       . exact g6 c o ui ((Heap.get?_push_ne s.heap c _ Ur).symm.trans e)
     exact(g8.2 c λq=>x (q ▸ mz)).trans h6) (λc x=>by obtain⟨f0,f1,f2,f3,f4,f5⟩:=hf c x;exact⟨by rw[aD (lt c x)];exact f0,f1,f2,f3,f4,f5⟩)
   refine⟨.ref s.heap.objs.size,_,I2,rfl,⟨_,R,rfl,I.fresh,rfl,wl,λm q hq ys hy=>?_⟩,⟨g7,?_,⟨Y,?_,by rw[ul,ig]⟩,λr f=>?_⟩,λc x=>?_⟩
   . have hm:m<R.length:=by rw[wl];exact(mT.mp hq).1
     have:=pw m R[m] (nz hm) q (by rw[vU];exact hq) ys hy;exact⟨_,this,nz hm⟩
   . exact(g8.2 _ a2).trans (g6 O _ D.tm st.kK)
   . exact(g8.2 _ D.n2).trans g2
   . exact(g3 r f).at λo e=>(g8.2 _ (D.jz r f).1).trans e
   . rw[aD (lt c x)];exact(hf c x).1
 . intro X hP hw hK x i cv s σ H E I hf st hg
   subst hP hw hK;obtain⟨os,U,h4⟩:=st.uP;obtain⟨kz,q0,Z7,ys,hy,hle⟩:=hg;have ex:∀r∈cL A M,∃(y:List V) (Q:List Value),i6 X.K r.κ H r.a y/\fT r.κ s.heap r.a Q.toArray/\Q.length=y.length:=λr f=>by obtain⟨m,q,hq,rfl⟩:=nh f;obtain⟨y,h1⟩:=kz q (sZ hq);obtain⟨Q,rv,w,_⟩:=GC I h1;exact⟨y,Q,h1,w,rv.length.symm⟩
   have D:=zd λr f h=>by obtain⟨y,_,h1,_⟩:=ex r f;exact D1 I (hf _ (p8 _ h)) h1 rfl
   classical
   let xs:Src->Array Value:=λr=>if h:r∈cL A M then(aeE (Ul (ex r h))).toArray else #[];have Z:∀r∈cL A M,∃(y:List V),i6 X.K r.κ H r.a y/\fT r.κ s.heap r.a (xs r)/\(xs r).size=y.length:=λr f=>by obtain⟨a,b,c⟩:=Ul (Ul (ex r f));have e1:xs r=(aeE (Ul (ex r f))).toArray:=dif_pos f;rw[<- e1]at b;exact⟨_,a,b,by rw[e1,om];exact c⟩
   obtain⟨m0,Z8⟩:=Wg Z7;have Us:(cL A M)[m0]? = some ⟨q0.1,A+m0,q0.2⟩:=by rw[mw,Z8];rfl
   have Z9:=sZ Us;obtain⟨ar,p1,p2,p3⟩:=Z _ Z9;have R7:(xs ⟨q0.1,A+m0,q0.2⟩)[i]? = none:=by rw[xo I hy p1]at hle;exact ady (by omega)
   refine D3 (xs:=xs) (os:=os) (I.ok.hd x) D st.hz st.kK U (by rw[h4,ig]) st.it (λr f=>let⟨_,_,w,_⟩:=Z r f;w) (λY h' ul uv g1 g2 g3 g5 g6=>?_) λ_ h' g=>⟨rfl,zI (t':=s.toks) (ch:=gi z tu (cL A M)) I (λc o x e=>g c o x e) λc x=>hf c (p8 _ x)⟩
   obtain⟨u,h1,_⟩:=uv m0 _ Us;rw[R7]at h1;cases h1
def KS (a b c:Value):checkTypeCall "zip" ⟨[a,b,c],[]⟩=pure ():=by kernel_rfl
def KU (a b c:Value):af2 "zip.__new__" ⟨[.type "zip",a,b,c],[]⟩=pure ():=by kernel_rfl
def KY (o a b c:Value):Wm "object.__init__" ⟨[o,a,b,c],[]⟩:=by unfold Wm;rw[signature?_of (id:="object.__init__") (n:=['_','_','t','i','n','i','_','_']) (o:=['t','c','e','j','b','o']) (by kernel_rfl) F.owner_object];kernel_rfl
noncomputable def tS:D->Option (Bool×List D)
 |.lst c=>some (true,c)|.tup c=>some (false,c)|_=>none
noncomputable def pL:List D->Option (List (Bool×List D))
 | []=>some []|d::ds=>(tS d).bind λq=>(pL ds).map λr=>q::r
noncomputable def kO (a:List (List D))(L:Nat):List D:=(r6 L).map λi=>.tup (a.map λc=>c.getD i .aA)
noncomputable def su (fr:FA):FI:=λc g=>(fr c g).bind λr=>(pL r.1).bind λa=>match a with
 | []=>none|q::t=>if((t.length == 1||t.length == 2)&&t.all λp=>p.2.length == q.2.length)=true then some (kO ((q::t).map (·.2)) q.2.length,r.2)else none
def BI {H ι d x j xs}(r:Rel t H ι d x)(h:tS d=some (j,xs)){i f}(e:iZ H ι i f):∃a g,x = .ref a/\i6 t.fr j i a g/\ai t i f xs g:=by
 cases d with
 |lst ys =>
  cases h;obtain⟨a,g,rfl,b,c⟩:=r;exact⟨a,g,rfl,(b.dW e).sq,ai.dW e _ c⟩
 |tup ys =>
  cases h;obtain⟨a,g,rfl,b,c⟩:=r;exact⟨a,g,rfl,(b.dW e).sq,ai.dW e _ c⟩
 |_=>cases h
theorem zV {K:KW}{H ι}:∀{ds:List D} {u:List V} {g:List (Bool×List D)},ai K H ι ds u->pL ds=some g->∃l:List (Bool×Addr),u=l.map (λq=>V.ref q.2)/\l.length=g.length /\ ∀(m:Nat) (q:Bool×Addr),l[m]? = some q->∃d x,g[m]? = some (q.1,x)/\Rel K H ι d (.ref q.2)/\tS d=some (q.1,x)
 | [],u,g,r,h=>by simp only[ai]at r;subst r;cases h;exact⟨[],rfl,rfl,λm q h=>by simp at h⟩
 |d::ds,u,g,r,h=>by
  obtain⟨v,y,rfl,b,f⟩:=r;obtain⟨⟨κ,x⟩,c,h⟩:=bind_some h;obtain⟨n,i,rfl⟩:=oN.mp h;obtain⟨l,rfl,j,p⟩:=zV f i;obtain⟨a,_,rfl,_⟩:=BI b c Ext.refl.dW;refine⟨(κ,a)::l,rfl,by simp[j],λm q e=>?_⟩;cases m with
  |zero=>simp at e;subst e;exact⟨d,x,rfl,b,c⟩|succ m=>simpa using p m q (by simpa using e)
theorem uR:∀{l:List (Bool×Addr)} {c:List Value},Vals (l.map λq=>V.ref q.2) c->c=l.map λq=>FX q.2
 | [],_,.nil=>rfl|q::l,_,.cons r t=>by cases r;rw[uR t];rfl
theorem zW {K:KW}{H ι}:∀{ds:List D} {c:List V},ds.length=c.length->(∀(m:Nat) (d:D),ds[m]? = some d->∃v,c[m]? = some v/\Rel K H ι d v)->ai K H ι ds c
 | [],[],_,_=>by simp only[ai]| [],_::_,h,_=>by simp at h|_::_,[],h,_=>by simp at h|d::ds,v::c,g,h=>by simp only[ai];obtain⟨w,e,r⟩:=h 0 d rfl;simp at e;subst e;exact⟨v,c,rfl,r,zW (by simpa using g) λm d e=>by simpa using h (m+1) d (by simpa using e)⟩
def GD:∀{prog:List (Bool×Addr)},prog.length=2\/prog.length=3->(∀A∈prog,∃g,fT A.1 c.heap A.2 g) ->
  (∀h',IsZip h' (c.heap.objs.size+prog.length+2) (c.heap.objs.size+prog.length) (c.heap.objs.size+prog.length+1) .none->fI h' (c.heap.objs.size+prog.length) ((cL c.heap.objs.size prog).map λr=>.ref r.j)->fI h' (c.heap.objs.size+prog.length+1) (prog.map λ_=>Ad) ->
   (∀r∈cL c.heap.objs.size prog,lz r.κ h' r.j r.a 0)->(∀w o,c.heap.get? w=some o->h'.get? w=some o)->Q (.ref (c.heap.objs.size+prog.length+2)) { c with heap:=h' })->wpAny (model q l) M (call (.type "zip") (prog.map λA=>.ref A.2)) Q E c
 | [],h,_,_=>by simp at h| [_],h,_,_=>by simp at h| [p,A],_,t,h=>uQ (KQ p A) (F.typeCall_zip_2 _ _) (F.newCall_zip_2 _ _) (λo=>F.args_object_init_3 o _ _) t h| [p,A,r],_,t,h=>uQ (KR p A r) (KS _ _ _) (KU _ _ _) (λo=>KY o _ _ _) t h|_::_::_::_::_,h,_,_=>by simp only[z6]at h;omega
theorem mW.kO {K:KW}{H ι}{l:List (Bool×Addr)}{A:List (Bool×List D)}{L:Nat}(B:l.length=A.length)(C:l ≠ [])(E:∀q∈A,q.2.length=L)
   (p:∀(m:Nat) (q:Bool×Addr),l[m]? = some q->∃d g,A[m]? = some (q.1,g)/\Rel K H ι d (.ref q.2)/\tS d=some (q.1,g)):mW K (BH K.fr l) H ι (kO (A.map (·.2)) L):=λi O M g1 Y Q=>by
 have J:∀(m:Nat) (q:Bool×Addr),l[m]? = some q->∃g I,A[m]? = some (q.1,g)/\g.length=L/\i6 K.fr q.1 O q.2 I/\ai K O M g I:=λm q e=>by obtain⟨d,g,f,r,b⟩:=p m q e;obtain⟨a,I,Z,c,n⟩:=BI r b Y;cases Z;exact⟨g,I,f,E _ (sZ f),c,n⟩
 refine⟨λz=>⟨λq hq=>?_,?_⟩,λd hd=>?_⟩
 . obtain⟨m,hm⟩:=Wg hq
   obtain⟨_,I,_,_,h,_⟩:=J m q hm;exact⟨I,h⟩
 . have R:0<l.length:=agZ.mpr C
   obtain⟨g,I,_,r,b,c⟩:=J 0 _ (nz R);refine⟨_,Cv R,I,b,?_⟩;rw[<- c.length,r];simpa[_root_.kO]using z
 . unfold _root_.kO at hd
   rw[qd]at hd;obtain⟨j,u,rfl⟩:=oN.mp hd;have z:i<L:=by simpa using (mT.mp u).1
   rw[acY z]at u;cases u;have U:∀(m:Nat) (q:Bool×Addr),l[m]? = some q->∃g I v,A[m]? = some (q.1,g)/\i6 K.fr q.1 O q.2 I/\I[i]? = some v/\Rel K O M (g.getD i .aA) v:=λm q e=>by
     obtain⟨g,I,f,r,b,c⟩:=J m q e;have hx:g[i]? = some (g.getD i .aA):=by rw[Np,nz (by omega)];rfl
     obtain⟨v,n,s⟩:=c.get hx;exact⟨g,I,v,f,b,n,s⟩
   refine⟨λq hq=>?_,λx H2 y=>?_⟩
   . obtain⟨m,hm⟩:=Wg hq
     obtain⟨_,I,v,_,b,c,_⟩:=U m q hm;exact⟨I,v,b,c⟩
   . obtain⟨T,ws,rfl,o,rfl,hw,hy⟩:=y
     refine⟨Ext.lay o,Q.lay o,?_⟩;simp only[Rel];refine⟨T,ws,rfl,.inl ⟨.inl aR,Q.fresh o⟩,ai.ext (Ext.lay o) _ (zW (by simp[hw,B]) λm d hd=>?_)⟩;rw[E5,qd]at hd;obtain⟨q',X,rfl⟩:=oN.mp hd;have hm:m<l.length:=by rw[B];exact(mT.mp X).1
     obtain⟨g,I,v,f,b,c,n⟩:=U m _ (nz hm);obtain⟨v',s,h7⟩:=hy m _ (nz hm) I b;rw[c]at s;cases s;rw[X]at f;cases f;exact⟨_,h7,n⟩
def D6 {R:It->Hp->Prop}{l:List (Bool×Addr)}(h:l.length=2\/l.length=3)(I:mn X b r H c)(g:∀q∈l,∃x,i6 X.K q.1 H q.2 x)(hR:R (BH X.K l) H):
  wpAny (model X.prog X.w) X.A (call (.type "zip") (l.map λq=>.ref q.2)) (λv y=>wpAny (model X.prog X.w) X.A (Tt v) (Mv X b r (.Tuple B n j) R) X.xe y) X.xe c:=by
 refine GD h (λq hm=>let⟨_,e⟩:=g q hm;let⟨_,_,p,_⟩:=GC I e;⟨_,p⟩) λo s d f C i=>wpAny_pyIter_zip s ?_;refine⟨c.heap.objs.size+l.length+2,kN _ _ _ _ l,_,_,H,rfl,I.kept (t':=c.toks) i,D5 c.heap.objs.size l (by omega) (λz=>by rw[z]at h;simp at h),⟨s,d,⟨_,f,by simp⟩,C⟩,λu a=>?_,hR⟩;have le:c.heap.objs.size<=u:=by
  simp only[kN,gi,D4,nF,nP,aed]at a;rcases a with rfl|rfl|rfl|⟨m,_,rfl⟩
  . exact XN _ _
  . exact rK (XN _ l.length) (XN _ 2)
  . exact rK (XN _ l.length) (XN _ 1)
  . exact XN _ _
 exact I.tf le (I.aW.fresh le)
def KZ {Q:List Expr}{A:Pos}(M:Gl X "zip")(C:X.mg "zip" = none)(K:DA X (e::Q) g)(E:ni (e::Q) X.env=(false,eval e X.env)::ni Q X.env)(J:(v3 A (ni Q X.env)).any (·.1)=false):
  DI X (.Tuple B n pos) (.Call (.Name "zip" j) (e::Q) [] A) (su g):=.of (by
 intro U s Y H R I h;obtain⟨Z,σd,p,ds,g',G0,S0,h,q⟩:=h;obtain⟨⟨as,g1⟩,h1,h⟩:=bind_some h;obtain⟨qs,h2,h⟩:=bind_some h;cases qs with
 |nil=>cases h
 |cons q0 t =>
  dsimp only at h;split at h
  . rename_i u
    cases h;simp only[mS,yN,beq_iff_eq,IU]at u;refine Call_ (iG I M C agB (ZV (aV (K.un A U s Y H (λf O=>∃b,Ext H Z O b/\au X.kw O b g'/\ai X.kw O b as f) I (iL.bind G0 S0 h1 λO b v fr o S1 i=>⟨b,fr,o,i⟩)) λus s1 aO=>?_) E J) (by decide) (by decide));obtain⟨f,O,I1,i,b,fr,o,y⟩:=aO;obtain⟨l,rfl,x,r⟩:=zV y h2;obtain rfl:=uR i;have L:l.length=2\/l.length=3:=by rw[x,z6];omega
    have l0:l ≠ []:=λz=>by rw[z]at L;simp at L
    refine D6 L I1 (λq c=>?_) (q O b _ fr o (.kO x l0 (λq c=>?_) r))
    . obtain⟨m,C⟩:=Wg c
      obtain⟨d,xs,_,h3,h4⟩:=r m q C;obtain⟨a,f,e2,h5,_⟩:=BI h3 h4 Ext.refl.dW;cases e2;exact⟨_,h5⟩
    . rcases nF.mp c with rfl|c
      . rfl
      . exact u.2 q c
  . cases h)
def xq:su g d a=(g d a).bind λr=>(pL r.1).bind λc=>match c with
 | []=>none|q::t=>if((t.length == 1||t.length == 2)&&t.all λp=>p.2.length == q.2.length)=true then some (kO ((q::t).map (·.2)) q.2.length,r.2)else none:=rfl
noncomputable abbrev VW:=Sh
def GF {t:nR}{b:FS}:mY t k b d a=(t d a).bind λr=>gr r.1 r.2.1 k b r.2.1 d r.2.2:=rfl
theorem qN {t:FG}{b:FS}{Q:F×Sg×G->Prop}{p:VW}{L:Nat}(I:Nat->Sg->G->Prop):∀(k i:Nat) (u:Sg) (g:G),i+k=L->I i u g ->
  (∀j u g,j<=L->I j u g->∃v,p g=some v/\v.length=L /\ ∀d,v[j]? = some d->mX (t d u g) λq=>mX (b q.1 q.2) λr=>match r.1 with
   |.nx=>I (j+1) r.2.1 r.2.2|.ct=>I (j+1) r.2.1 r.2.2|.bk=>Q (.nx,r.2.1,r.2.2)|.rt d=>Q (.rt d,r.2.1,r.2.2))->(∀u g,I L u g->Q (.nx,u,g))->mX (gr p L t b k u g) Q
 | 0,i,u,g,hk,x,hs,y=>by
  obtain rfl:i=L:=by omega
  obtain⟨v,c,e,_⟩:=hs i u g (nc _) x;simp only[gr,c,m5,e,if_true,gu];exact y u g x
 |k+1,i,u,g,hk,x,hs,y=>by
  obtain⟨v,c,e,h⟩:=hs i u g (by omega) x;have f:i<v.length:=by omega
  have hd:v[L-(k+1)]? = some v[i]:=by rw[show L-(k+1)=i by omega];exact nz f
  simp only[gr,c,m5,e,if_true,hd,bav];refine MN (h _ (nz f)) λq n=>MN n λr a=>?_;obtain⟨l,o⟩:=r;cases l with
  |nx=>exact qN I k (i+1) _ _ (by omega) a hs y|ct=>exact qN I k (i+1) _ _ (by omega) a hs y|bk=>simp only[gu];exact a|rt d=>simp only[gu];exact a
noncomputable def oI:D->Option (Bool×VW)
 |.lst c=>some (true,λ_=>some c)|.tup c=>some (false,λ_=>some c)|.ref n=>some (true,λg=>g[n]?)|_=>none
noncomputable def nq (v w:VW):VW:=λg=>(v g).bind λc=>(w g).map λa=>oD c a
noncomputable def pM (b a:FE):nR:=λc g=>(b c g).bind λr=>(oI r.1).bind λv=>(a c r.2).bind λq=>(oI q.1).bind λw=>(nq v.2 w.2 q.2).map λzs=>(nq v.2 w.2,zs.length,q.2)
def vF {K H ι d x p v}(r:Rel K H ι d x)(h:oI d=some (p,v)){l j g1}(e:iZ H ι l j)(q:au K l j g1)(o:v g1=some A):∃a g,x = .ref a/\i6 K.fr p l a g/\ai K l j A g:=by
 cases d with
 |lst ys =>
  cases h;cases o;obtain⟨a,g,rfl,c,b⟩:=r;exact⟨a,g,rfl,(c.dW e).sq,ai.dW e _ b⟩
 |tup ys =>
  cases h;cases o;obtain⟨a,g,rfl,c,b⟩:=r;exact⟨a,g,rfl,(c.dW e).sq,ai.dW e _ b⟩
 |ref n =>
  cases h;obtain⟨a,rfl,f⟩:=r;obtain⟨g,i,b⟩:=q.at o (e.at f);exact⟨a,g,rfl,.inl (.inl i),b⟩
 |_=>cases h
def Oz:∀{c:List V},c.length=2->∃p q,c = [p,q]
 | [p,q],_=>⟨p,q,rfl⟩
theorem rX.zip {K H ι a b C E B A v w L}(M:Rel K H ι C (.ref a))(I:oI C=some (B,v))(N:Rel K H ι E (.ref b))(J:oI E=some (A,w)):rX K (BH K.fr [(B,a),(A,b)]) H ι (nq v w) L:=λi H1 Z g1 Q r zs l hl=>by
 obtain⟨g,f,l⟩:=bind_some l;obtain⟨ys,n,l⟩:=oN.mp l;subst l;obtain⟨_,z,e,o,hr⟩:=vF M I Q r f;cases e;obtain⟨_,O,e,s,R⟩:=vF N J Q r n;cases e;have two:∀{P:Bool×Addr->Prop},P (B,a)->P (A,b)->∀q ∈ [(B,a),(A,b)],P q:=λp1 p2 q h=>by simp only[nF,ahN,or_false]at h;rcases h with rfl|rfl<;>assumption
 refine⟨λhi=>⟨two ⟨_,o⟩ ⟨_,s⟩,?_⟩,λd hd=>?_⟩
 . have gQ:min g.length ys.length=L:=by simpa[oD]using hl
   by_cases c:g.length<=ys.length
   . exact⟨_,.head _,z,o,by rw[<- hr.length];omega⟩
   . exact⟨_,.tail _ (.head _),O,s,by rw[<- R.length];omega⟩
 unfold oD at hd;rw[qd]at hd;cases f:(g.zip ys)[i]? with
 |none=>rw[f]at hd;cases hd
 |some pr =>
   obtain⟨d0,C⟩:=pr;rw[f]at hd;simp only[E6,adD]at hd;subst hd;rw[QN]at f;obtain⟨v,U,rv⟩:=hr.get f.1;obtain⟨u,hu,ru⟩:=R.get f.2;refine⟨two ⟨z,v,o,U⟩ ⟨O,u,s,hu⟩,λx H2 y=>?_⟩;obtain⟨T,ws,rfl,j,rfl,hw,n⟩:=y;obtain⟨_,X,y3⟩:=n 0 _ rfl z o;obtain⟨_,Y,y4⟩:=n 1 _ rfl O s;rw[U]at X;rw[hu]at Y;cases X;cases Y;obtain⟨p,q,rfl⟩:=Oz hw;cases y3;cases y4;refine⟨Ext.lay j,r.lay j,?_⟩;simp only[Rel];refine⟨T,_,rfl,.inl ⟨.inl aR,r.fresh j⟩,?_⟩;simp only[ai];exact⟨_,_,rfl,Rel.ext (Ext.lay j) _ rv,_,_,rfl,Rel.ext (Ext.lay j) _ ru,rfl⟩
def K0 {l:Expr}{J:FE}{A:Pos}(S:Gl X "zip")(P:X.mg "zip" = none)(Q:DE X l C)(O:DE X e J)(E:ni [l,e] X.env=(false,eval l X.env)::ni [e] X.env)(M:ni [e] X.env=(false,eval e X.env)::ni [] X.env)(N:(v3 A (ni [e] X.env)).any (·.1)=false):
   qm X (.Tuple B n pos) (.Call (.Name "zip" j) [l,e] [] A) (pM C J):=.of (by
 intro cv s σ H R I h;obtain⟨ι,Y,g,vw,L,g',G0,S0,h,q⟩:=h;obtain⟨⟨d1,g1⟩,h1,h⟩:=bind_some h;obtain⟨⟨z,v1⟩,o,h⟩:=bind_some h;obtain⟨⟨d2,g2⟩,h2,h⟩:=bind_some h;obtain⟨⟨Z,v2⟩,r,h⟩:=bind_some h;obtain⟨zs,K,h⟩:=oN.mp h;cases h;obtain⟨xs,hx,K⟩:=bind_some K;obtain⟨ys,hy,K⟩:=oN.mp K;subst K;refine Call_ (iG I S P agB (ZV (aV ((ik Q.un (ik O.un lQ M) E) A cv s σ H (λf U=>∃v u c,f = [v,u]/\Ext H ι U c/\au X.kw U c g2/\Rel X.kw U c d1 v/\Rel X.kw U c d2 u) I ?_) λus s1 ⟨f,U,I1,i,v,u,c,e0,m,d,p,x⟩=>?_) E N) (by decide) (by decide))
 . refine tD.bind G0 S0 h1 λU c v m d S1 i=>?_
   exact⟨c,Y,g1,_,g2,d,S1,h2,λH2 ι2 u y G2 r2=>⟨v,u,ι2,rfl,m.trans y,G2,Rel.ext y _ i,r2⟩⟩
 . subst e0
   cases i with
   |cons ra rr =>
    cases rr with
    |cons rb rn =>
     cases rn;obtain⟨a,f,rfl,hq,hr⟩:=vF p o Ext.refl.dW d hx;obtain⟨b,us,rfl,gU,iJ⟩:=vF x r Ext.refl.dW d hy;cases ra;cases rb;exact D6 (l:=[(z,a),(Z,b)]) (.inl rfl) I1 (λq P=>by
      simp only[nF,ahN,or_false]at P;rcases P with rfl|rfl
      . exact⟨_,hq⟩
      . exact⟨_,gU⟩) (q U c _ m d (.zip p o x r)))
def GG {b:FE}:pM C b d a=(C d a).bind λr=>(oI r.1).bind λv=>(b d r.2).bind λq=>(oI q.1).bind λw=>(nq v.2 w.2 q.2).map λzs=>(nq v.2 w.2,zs.length,q.2):=rfl
noncomputable def lA (b a:D)(g:G):Option (D×G):=match b,a with
 |.lst c,.int k=>if(!c.isEmpty&&decide (0<=k)&&fA k&&ax (c.length*k.toNat))=true then some (.ref g.length,g ++ [(nN k.toNat c).flatten])else none|b,a=>cK b a g
def zX:bJ X (ta .Mult) (dD X.kw lA):=by
 intro B s C H x y v u Q I i l q;obtain⟨E,g,J,r,d,n,G0,b,f,q,p⟩:=q;unfold lA at q;split at q
 . rename_i O k
   split at q
   . rename_i z
     simp only[mS,decide_eq_true_eq,yA]at z;cases q;simp only[Rel]at b f;subst f;obtain⟨a,o,rfl,hq,c⟩:=b;have hk:=fA.and z.1.2;have j:=ax.le z.2;rw[IV]at j;refine zL B s C H _ _ v u Q I i l ⟨a,k,o,rfl,rfl,hq.sq,?_,z.1.1.2,hk.2,by rw[<- c.length];exact j,λM h=>?_⟩
     . intro e
       subst e;have:=c.length;simp at this;subst this;simp at z
     . refine p _ _ _ (Ext.push h) (G0.push h (c.rep _)) ?_
       simp only[Rel];exact⟨M,rfl,dU.new G0.len⟩
   . cases q
 . exact wO B s C H x y v u Q I i l ⟨E,g,J,r,d,n,G0,b,f,q,p⟩
@[simp] def Uu:lA (.lst A) (.int i) a=if(!A.isEmpty&&decide (0<=i)&&fA i&&ax (A.length*i.toNat))=true then some (.ref a.length,a ++ [(nN i.toNat A).flatten])else none:=rfl
mutual
noncomputable def nS:D->Bool
 |.tup c=>ji c|.lst c=>ji c|.fn _ _=>false|_=>true
noncomputable def ji:List D->Bool
 | []=>true|d::ds=>nS d&&ji ds
end
noncomputable abbrev Am:=Addr->Option Obj
noncomputable def dR (m:Am)(H:Hp):Hp:=λb=>match m b with|some o=>some (oK b o)|none=>H b
noncomputable def cS (m:Am)(H:Hp):Hp:=λb=>match m b with|some _=>none|none=>H b
def jI {m:Am}{o:Obj}(q:m f=some o):dR m H f=some (oK f o):=by unfold dR;rw[q]
def cf {m:Am}(q:m f=none):dR m H f=H f:=by unfold dR;rw[q]
def jJ {m:Am}{o:Obj}(q:m f=some o):cS m H f=none:=by unfold cS;rw[q]
def bP {m:Am}(q:m f=none):cS m H f=H f:=by unfold cS;rw[q]
def ki {m:Am}(q:H f=none):cS m H f=none:=by
 cases z:m f with
 |none=>rw[bP z];exact q|some o=>exact jJ z
def D7 {m:Am}(x:eH q l H I)(f:∀b o,m b=some o->I.get? b=some o/\H b=none):eH q l (dR m H) I:=λb u e=>by
 cases P:m b with
 |some o =>
  rw[jI P]at e;cases e;exact⟨(f b o P).1,⟨o,(f b o P).1⟩,λa d p k=>k _ p⟩
 |none =>
  rw[cf P]at e;have keep:∀c v,H c=some v->dR m H c=some v:=λc v r=>by
   cases z:m c with
   |none=>rw[cf z];exact r|some o=>rw[(f c o z).2]at r;cases r
  exact(x b u e).cY (λc v _ r=>r) (λc r=>keep c _ r) (λc g r=>keep c _ r) λc P r=>keep c _ r
def D8 {m:Am}(x:eH q l H I)(a:∀b o,m b=some o->H b=some (oK b o)):eH q l (cS m H) I:=λb u e=>by
 cases P:m b with
 |some o=>rw[jJ P]at e;cases e
 |none =>
  rw[bP P]at e;have keep:∀c v,(∀o,v≠oK c o)->H c=some v->cS m H c=some v:=λc v n r=>by
   cases z:m c with
   |none=>rw[bP z];exact r|some o=>rw[a c o z]at r;exact absurd (DM r).symm (n o)
  exact(x b u e).cY (λc v _ r=>r) (λc r=>keep c _ (λ_ z=>by cases z) r) (λc g r=>keep c _ (λ_ z=>by cases z) r) λc P r=>keep c _ (λ_ z=>by cases z) r
def tT {m:Am}(a:∀f o,m f=some o->H f=some (oK f o)){u:HO}(e:H f=some u)(n:∀o,u≠oK f o):m f=none:=by
 cases z:m f with
 |none=>rfl|some o=>rw[a f o z]at e;exact absurd (DM e).symm (n o)
def OA {m:Am}(u:Un O [] (cS m H) H' I h')(f:∀b o,m b=some o->I.get? b=some o/\H b=some (oK b o)):Un O [] H (dR m H') I h':=by
 have d:∀b,H b=none->m b=none:=λb n=>by
  cases z:m b with
  |none=>rfl|some o=>rw[(f b o z).2]at n;cases n
 have st:∀b v,(∀o,v≠oK b o)->H b=some v->(∀z:cS m H b=some v,H' b=some v)->dR m H' b=some v:=λb v n e k=>by have z:=tT (λb o q=>(f b o q).2) e n;rw[cf z];exact k (by rw[bP z];exact e)
 refine⟨λb o q n c a=>u.keep b o q (ki n) c a,λb o q n c a=>u.slot b o q (ki n) c a,λb o q n a=>?_,λb o q a=>u.there b o q a,
  λb g q=>st b _ (λ_ z=>by cases z) q λz=>u.lH b g z,λb o v q=>st b _ (λ_ z=>by cases z) q λz=>u.km b o v z,λb v t q=>st b _ (λ_ z=>by rw[z]at t;cases t) q λz=>u.ko b v t z⟩
 rw[cf (d b n)];exact u.free b o q (ki n) a
def OB {m:Am}(u:Un O [] (dR m H) H' I h')(f:∀b o,m b=some o->I.get? b=some o/\H b=none)(i:∀b o,m b=some o->H' b=some (oK b o))(ok:eH q l H' h'):Un O [] H (cS m H') I h':=by
 have g:∀b o,m b=some o->h'.get? b=some o:=λb o P=>(ok b _ (i b o P)).1;have d:∀b v,H b=some v->m b=none:=λb v e=>by
   cases z:m b with
   |none=>rfl|some o=>rw[(f b o z).2]at e;cases e
 have st:∀b v,H b=some v->(∀z:dR m H b=some v,H' b=some v)->cS m H' b=some v:=λb v e k=>by rw[bP (d b v e)];exact k (by rw[cf (d b v e)];exact e)
 refine⟨λb o P n c a=>?_,λb o P n c a=>?_,λb o P n a=>?_,λb o P a=>u.there b o P a,λb p P=>st b _ P λz=>u.lH b p z,λb o v P=>st b _ P λz=>u.km b o v z,λb v t P=>st b _ P λz=>u.ko b v t z⟩
 . cases z:m b with
   |none=>exact u.keep b o P (by rw[cf z];exact n) c a
   |some h =>
    have:=(f b h z).1;rw[P]at this;cases this;exact g b o z
 . cases z:m b with
   |none=>exact u.slot b o P (by rw[cf z];exact n) c a
   |some h =>
    have:=(f b h z).1;rw[P]at this;cases this;exact⟨o.slots,g b o z⟩
 . cases z:m b with
   |none=>rw[bP z];exact u.free b o P (by rw[cf z];exact n) a|some h=>exact jJ z
section
variable {m:Am}{o:Obj}
mutual
theorem Rel.xt (j:∀f o,m f=some o->H f=some (oK f o)):∀(d:D) {v:V},nS d=true->Rel t H w d v->Rel t (cS m H) w d v
 |.aA,v,_,I=>I|.bl _,v,_,I=>I|.int _,v,_,I=>I|.str _,v,_,I=>I
 |.tup h,v,z,I=>by
  simp only[Rel]at I ⊢;obtain⟨a,i,b,c,e⟩:=I;refine⟨a,i,b,?_,ai.xt j h z e⟩;rcases c with⟨I|⟨u,I⟩,n⟩|I
  . exact .inl ⟨.inl (by rw[bP (tT j I λ_ z=>by cases z)];exact I),n⟩
  . exact .inl ⟨.inr ⟨u,by rw[bP (tT j I λ_ z=>by cases z)];exact I⟩,n⟩
  . exact .inr I
 |.lst h,v,z,I=>by
  simp only[Rel]at I ⊢;obtain⟨a,i,b,c,e⟩:=I;refine⟨a,i,b,?_,ai.xt j h z e⟩;rcases c with⟨I|⟨u,I⟩,n⟩|I
  . exact .inl ⟨.inl (by rw[bP (tT j I λ_ z=>by cases z)];exact I),n⟩
  . exact .inl ⟨.inr ⟨u,by rw[bP (tT j I λ_ z=>by cases z)];exact I⟩,n⟩
  . exact .inr I
 |.dI,v,_,I=>by simp only[Rel]at I ⊢;obtain⟨a,b,c,e⟩:=I;exact⟨a,b,by rw[bP (tT j c λ_ z=>by cases z)];exact c,e⟩
 |.ref n,v,_,I=>I|.az n,v,_,I=>I|.fn x ds,v,z,I=>by cases z
theorem ai.xt (i:∀f o,m f=some o->H f=some (oK f o)):∀(ds:List D) {g:List V},ji ds=true->ai t H w ds g->ai t (cS m H) w ds g
 | [],g,_,I=>I|d::ds,g,z,I=>by simp only[ai]at I ⊢;simp only[ji,mS]at z;obtain⟨v,a,b,c,e⟩:=I;exact⟨v,a,b,Rel.xt i d z.1 c,ai.xt i ds z.2 e⟩
end
end
def Ext.kX {m:Am}{ι:Ix}(d:∀b o,m b=some o->H b=none):Ext H ι (dR m H) ι:=by
 have c:∀a v,H a=some v->m a=none:=λa v e=>by
  cases z:m a with
  |none=>rfl|some o=>rw[d a o z]at e;cases e
 refine⟨λa o q _=>by rw[cf (c a o q)];exact q,λa q=>?_,⟨[],by simp,λ_ q=>by simp at q⟩,rfl,λ_ _=>rfl⟩;cases e:H a with
 |none=>exact absurd e q|some v=>rw[cf (c a v e),e];simp
def au.empty (G0:au t H w a)(e:∀b,H b≠none->H' b≠none\/b ∉ w.ix++w.hd)(f:∀q∈t.lx.tb,H' q.1=H q.1):au t H' (Ix.none w) []:=
 ⟨TF,rfl,λb d=>⟨by simp[Ix.none],by
  have g:b∈w.ix++w.hd:=d;rcases nQ.mp g with m|m
  . exact(e b (G0.kX m)).elim id λz=>absurd g z
  . exact(e b (G0.cF b m).2).elim id λz=>absurd g z⟩,λi h q=>by simp at q,λq c=>⟨by rw[f q c];exact(G0.tb q c).1,by simp[Ix.none]⟩⟩
def K1 {m:Am}(G0:au t H w a)(d:∀b o,m b=some o->H b=some (oK b o)/\b ∉ w.ix)(e:Ext (cS m H) (Ix.none w) H' ι'):Ext H w (dR m H') w/\au t (dR m H') w a /\ ∀g∈w.ix,H' g=H g:=by
 have sm:∀g o,m g=none->H g=some o->H' g=some o:=λg o z q=>e.same g o (by rw[bP z];exact q) (by simp[Ix.none]);have E0:Ext H w (dR m H') w:=by
  refine⟨λg o q _=>?_,λg q=>?_,⟨[],by simp,λ_ q=>by simp at q⟩,rfl,λ_ _=>rfl⟩
  . cases z:m g with
    |none=>rw[cf z];exact sm g o z q|some h=>rw[jI z];rw[(d g h z).1]at q;exact q
  . cases z:m g with
    |some h=>rw[jI z];simp
    |none =>
     rw[cf z];exact e.there g (by rw[bP z];exact q)
 have same:∀g∈w.ix,H' g=H g/\m g=none:=λg c=>by
  have z:m g=none:=by
    cases z:m g with
    |none=>rfl|some o=>exact absurd c (d g o z).2
  obtain⟨o,i,_⟩:=G0.lst c;exact⟨by rw[i];exact sm g o z i,z⟩
 exact⟨E0,G0.ext E0 λg c=>by rw[cf (same g c).2];exact(same g c).1,λg c=>(same g c).1⟩
def K2 {m:Am}(G0:au t H w a)(f:∀b o,m b=some o->H b=none)(e:Ext (dR m H) (Ix.none w) H' ι'):Ext H w (cS m H') w/\au t (cS m H') w a/\(∀g∈w.ix,H' g=H g) /\ ∀b o,m b=some o->H' b=some (oK b o):=by
 have d:∀g v,H g=some v->m g=none:=λg v e=>by
  cases z:m g with
  |none=>rfl|some o=>rw[f g o z]at e;cases e
 have sm:∀g o,H g=some o->H' g=some o:=λg o q=>e.same g o (by rw[cf (d g o q)];exact q) (by simp[Ix.none]);have E0:Ext H w (cS m H') w:=by
  refine⟨λg o q _=>by rw[bP (d g o q)];exact sm g o q,λg q=>?_,⟨[],by simp,λ_ q=>by simp at q⟩,rfl,λ_ _=>rfl⟩;cases z:H g with
  |none=>exact absurd z q|some v=>rw[bP (d g v z),sm g v z];simp
 have same:∀g∈w.ix,H' g=H g/\m g=none:=λg c=>by obtain⟨o,h,_⟩:=G0.lst c;exact⟨by rw[h];exact sm g o h,d g o h⟩
 exact⟨E0,G0.ext E0 λg c=>by rw[bP (same g c).2];exact(same g c).1,λg c=>(same g c).1,λb o z=>e.same b _ (jI z) (by simp[Ix.none])⟩
noncomputable def c_ (fn:Fn):Fn:=λds g=>if ji ds=true then(gW fn ds g).bind λr=>if nS r.1=true then some r else none else none
def sx {ds g d g'}(fn:c_ h ds g=some (d,g')):ji ds=true/\aC 0 ds=true/\(∃gx,h ds []=some (d,gx))/\bU 0 d=true/\nS d=true/\g'=g:=by
 unfold c_ at fn;split at fn
 . rename_i z
   obtain⟨⟨j,n⟩,i,fn⟩:=bind_some fn;split at fn
   . rename_i f
     cases fn;obtain⟨a,b,c,e⟩:=jA i;exact⟨z,a,b,c,f,e⟩
   . cases fn
 . cases fn
noncomputable def j8 (fn:Fn):Fn:=λds g=>(gW fn ds g).bind λr=>if nS r.1=true then some r else none
def BJ {ds g d g'}(fn:j8 h ds g=some (d,g')):aC 0 ds=true/\(∃gx,h ds []=some (d,gx))/\bU 0 d=true/\nS d=true/\g'=g:=by
 unfold j8 at fn;obtain⟨⟨j,n⟩,i,fn⟩:=bind_some fn;split at fn
 . rename_i f
   cases fn;obtain⟨a,b,c,e⟩:=jA i;exact⟨a,b,c,f,e⟩
 . cases fn
structure vH (l:d7):Prop where
 kind:l.sc.kind = .function
 co:l.sc.isCoroutine=false
 gen:l.sc.isGenerator=false
 IG:∀y∈l.sc.names,y.2 ≠ .cell
 fr:∀x,l.sc.names.lookup x=some .free->x∈l.fv
 fv:∀x∈l.fv,l.sc.names.lookup x=some .free
 ps:∀x∈l.ps,l.sc.names.lookup x=some .local
 nd:(l.fv++l.ps).Nodup
 bind:∀(cl:List (Str×Addr)) (pm dn fY:Value) (us:List Value),us.length=l.ps.length->WU (agC "<lambda>" l.qual l.ar l.bd l.sc cl pm dn fY) ⟨us,[]⟩=pure (l.ps.zip us)
noncomputable def pN (lx:Lx)(P:uy)(w:World)(K:oi)(mg:Str->Option Value)(base:Heap)(l:d7)(cl:List (Str×Addr))(f:Addr)(a:Value)(A:qc)(outer:List Env)(s:my)(H:Hp):Cx where
 prog:=P
 w:=w
 K:=K
 mg:=mg
 base:=base
 A:=A.deeper (aeV l.qual l.sc s.heap.objs.size f a cl)
 N:=l.fv++l.ps
 s₀:=s
 H₀:=H
 env:=aeV l.qual l.sc s.heap.objs.size f a cl
 outer:=outer
 stack:=aeV l.qual l.sc s.heap.objs.size f a cl::outer
 ex:=[]
 calm:=true
 fn:=λ_=>false
 pn:=[]
 lx:=lx
 xe:=λ_ _=>False
theorem cH.mem {H:Hp}{g:Ix}:∀{cl:List (Str×Addr)} {i:List V},cH H g cl i->∀c∈cl.map (·.2),∃o u,Xo H g c (oK c o)/\o.data = .cell (some u)
 |_,_,.nil,c,h=>by simp at h
 |_,_,.cons (c:=c0) (o:=o) (u:=u) x d r t,c,h=>by
  rcases nF.mp h with rfl|h
  . exact⟨o,u,x,d⟩
  . exact t.mem c h
theorem cH.get {H:Hp}{g:Ix}:∀{cl:List (Str×Addr)} {n:List V},cH H g cl n->∀{i:Nat} {v:V},n[i]? = some v->∃y c o u,cl[i]? = some (y,c)/\Xo H g c (oK c o)/\o.data = .cell (some u)/\mI v u
 |_,_,.nil,_,_,h=>by simp at h|_,_,.cons (y:=y) (c:=c) (o:=o) (u:=u) x d r t,0,v,h=>by simp at h;subst h;exact⟨y,c,o,u,rfl,x,d,r⟩|_,_,.cons x d r t,i+1,v,h=>by obtain⟨y,c,o,u,a,b⟩:=t.get (i:=i) (by simpa using h);exact⟨y,c,o,u,by simpa using a,b⟩
theorem cH.len {H:Hp}{g:Ix}:∀{cl:List (Str×Addr)} {c:List V},cH H g cl c->cl.length=c.length
 |_,_,.nil=>rfl|_,_,.cons x d r t=>by simp[t.len]
theorem fM {a:Type}:∀{cl:List (Str×a)} {y:Str} {c:a},(cl.map (·.1)).Nodup->(y,c)∈cl->cl.lookup y=some c
 | [],_,_,_,h=>by simp at h
 | (z,e)::cl,y,c,nd,h=>by
  rw[zr];rw[yp,Dy]at nd;rcases nF.mp h with h|h
  . cases h;simp
  . rw[show(y == z)=false from beq_eq_false_iff_ne.mpr λe=>nd.1 (by rw[<- e];exact M4 (f:=(·.1)) h)]
    exact fM nd.2 h
theorem oJ:∀{cl:List (Str×Addr)} {x y:Str} {c:Addr},(cl.map (·.2)).Nodup->(x,c)∈cl->(y,c)∈cl->x=y
 | [],_,_,_,_,h,_=>by simp at h
 | (z,e)::cl,x,y,c,nd,h1,h2=>by
  rw[yp,Dy]at nd;rcases nF.mp h1 with a|a<;>rcases nF.mp h2 with b|b
  . cases a;cases b;rfl
  . cases a;exact absurd (M4 (f:=(·.2)) b) nd.1
  . cases b;exact absurd (M4 (f:=(·.2)) a) nd.1
  . exact oJ nd.2 a b
def tU {i:Nat}(nd:K.Nodup)(c:R.length=K.length)(b:K[i]? = some x)(a:R[i]? = some T):(K.zip R).reverse.lookup x=some T:=by refine fM ?_ (aeB.mpr (sZ (i:=i) (QN.mpr ⟨b,a⟩)));rw[List.map_reverse,(List.reverse_perm _).nodup_iff,adR (by omega)];exact nd
noncomputable def bQ (cl:List (Str×Addr))(h:Heap):Am:=λb=>if b∈cl.map (·.2)then h.get? b else none
def iS {o:Obj}(e:bQ v I f=some o):f∈v.map (·.2)/\I.get? f=some o:=by
 unfold bQ at e;split at e
 . rename_i a;exact⟨a,e⟩
 . cases e
def xu {o:Obj}(a:f∈v.map (·.2))(e:I.get? f=some o):bQ v I f=some o:=by unfold bQ;rw[if_pos a];exact e
def cH.m (P:cH H w v U)(ok:eH q t.w H c.heap):∀b o,bQ v c.heap b=some o->c.heap.get? b=some o/\H b=some (oK b o)/\b ∉ w.ix:=λb o K=>by obtain⟨a,e⟩:=iS K;obtain⟨g,u,x,_⟩:=P.mem b a;have this:c.heap.get? b=some g:=(ok b _ x.1).1;rw[e]at this;cases this;exact⟨e,x.1,x.2.1⟩
def K3 {l:d7}(S:vH l)(P:M.handled=none)(C:qB q t.w t.fr t.mg h' M outer c H)(J:v.map (·.1)=l.fv)(L:(v.map (·.2)).Nodup)(A:cH H w v U)(O:ys.length=l.ps.length)(r:Vals ys R){tk:Tok}(N:I.Ns c.heap.objs.size λy=>(l.ps.zip R).reverse.lookup y)(E:∀b o,c.heap.get? b=some o->I.get? b=some o):
   mn (pN t.lx q t.w t.fr t.mg h' l v f T M outer c (cS (bQ v c.heap) H)) [] ((U++ys).map some) (cS (bQ v c.heap) H) { c with heap:=I,toks:=tk }:=by
 have Y:(v.map (·.1)).Nodup:=by rw[J];exact(TJ.mp S.nd).1
 have cm:=A.m C.aW
 have IH:∀x B,v.lookup x=some B->B∈v.map (·.2):=λx B e=>M4 (f:=(·.2)) (zS e)
 have Z:∀B∈v.map (·.2),∃o u,c.heap.get? B=some o/\o.data = .cell (some u):=λB hc=>by obtain⟨o,u,x,d⟩:=A.mem B hc;exact⟨o,u,(C.aW B _ x.1).1,d⟩
 have Ux:U.length=l.fv.length:=by rw[<- A.len,<- J,qV]
 have Q:∀b:Addr,b ∉ (pN t.lx q t.w t.fr t.mg h' l v f T M outer c (cS (bQ v c.heap) H)).ex:=λb z=>absurd (show b∈([]:List Addr) from z) (by simp);refine⟨⟨C.mod,S.kind,rfl,rfl,nc _,λy z B I j=>?_,λy n=>?_,λy B hf _=>(L8 hf).elim,λ_=>P,agF C.frames,.inr ⟨rfl,rfl⟩,λb z=>absurd z (Q b),λb o e=>⟨(C.bs b o e).1,ki (C.bs b o e).2⟩,C.n_,λb _ _=>Q b,λb z=>absurd z (Q b),C.iE,λb hb=>ki (C.rE b hb)⟩,
   rfl,C.bare,Un.kept E,⟨_,N,λi y base I j h3=>?_⟩,λy B h=>?_,ki (C.aW.fresh (nc _)),λy B h=>?_,λp hp=>absurd (show p∈([]:List (Addr×Obj)) from hp) (by simp),(D8 C.aW λb o K=>(cm b o K).2.1).kept E,?_⟩
 . exact oJ L (zS I) (zS j)
 . have n:l.sc.names.lookup y=some .cell\/l.sc.names.lookup y=some .free:=n
   rcases n with n|n
   . exact absurd rfl (S.IG _ (zS n))
   . have:=S.fr y n
     rw[<- J]at this;obtain⟨⟨g,B⟩,hm,rfl⟩:=nP.mp this;exact⟨B,fM Y hm⟩
 . have I:(l.fv++l.ps)[i]? = some y:=I
   have j:((U++ys).map some)[i]? = some (some base):=j;rw[qd]at j;have j:(U++ys)[i]? = some base:=by
     cases e:(U++ys)[i]? with
     |none=>rw[e]at j;cases j|some a=>rw[e]at j;cases j;rfl
   by_cases hi:i<U.length
   . rw[r_ hi]at j
     rw[r_ (by omega)]at I;obtain⟨g,B,o,u,e1,x,d,X⟩:=A.get j;have ey:g=y:=by
      have:(v.map (·.1))[i]? = some g:=by rw[qd,e1];rfl
      rw[J,I]at this;cases this;rfl
     subst ey;refine⟨u,X,.inr ⟨.inr (S.fv g (sZ I)),B,fM Y (sZ e1),o,E _ _ (C.aW B _ x.1).1,d⟩⟩
   . rw[Fq (by omega)]at j
     rw[Fq (by omega),<- Ux]at I;obtain⟨u,hu,X⟩:=r.get j;refine⟨u,X,.inl ⟨S.ps y (sZ I),tU (TJ.mp S.nd).2.1 (by rw[<- r.length];exact O) I hu⟩⟩
 . obtain⟨o,u,e,d⟩:=Z B (IH y B h)
   exact⟨some u,o,E _ _ e,d⟩
 . obtain⟨o,u,e,d⟩:=Z B (IH y B h)
   exact jJ (xu (IH y B h) e)
 . show((U++ys).map some).length=(l.fv++l.ps).length
   rw[qV,nv,nv];omega
structure sC (P:uy)(K:KW)(base:Heap)(k:Nat)(x:Str)(fn:Fn):Prop where
 run:∀(A:qc) (outer:List Env) (s:my) (H:Hp) (ι:Ix) (a:Addr) (gZ vs:List V) (us:List Value) (Q:VK) (ds es:List D) (d:D) (g g':G),dA k A->qB P K.w K.fr K.mg base A outer s H->C7 K H ι x a gZ->Vals vs us->au K H ι g->ai K H ι ds gZ->ai K H ι es vs ->
  c_ fn (ds++es) g=some (d,g')->fZ K H ι d g' Q->PL (model P K.w) A (.call (.ref a) ⟨us,[]⟩) (CR iI outer P K.w H s Q E0) s
noncomputable def cj (nf n:Nat)(f:FE):Fn:=λds g=>if ds.length=nf+n then f (ds.map some) g else none
def GH (i:∀ds g,h ds g=none):sC q t I n x h:=⟨λA outer s H p a f e r Q ds b d g c _ _ _ _ _ _ _ P _=>by obtain⟨_,_,⟨gx,P⟩,_⟩:=sx P;rw[i]at P;cases P⟩
def OC {l:d7}(S:vH l)(E:t.lx.lm x=some l)(B:∀(cl:List (Str×Addr)) (a:Addr) (cd:Value) (A:qc) (outer:List Env) (s:my) (H:Hp),dA n (A.deeper (aeV l.qual l.sc s.heap.objs.size a cd cl))->DE (pN t.lx q t.w t.fr t.mg I l cl a cd A outer s H) l.bd C):
   sC q t I (n+1) x (cj l.fv.length l.ps.length C):=by
 refine⟨λA outer s H M a R U Y Q ds Z d g g' hr j base rv G0 rd re h p=>?_⟩;obtain⟨l',c,fY,pm,cl,gQ,hf,hc,hn,hd2,X⟩:=base;rw[E]at gQ;cases gQ;obtain⟨z1,z2,⟨gx,hx⟩,z3,z4,rfl⟩:=sx h;unfold cj at hx;split at hx
 . rename_i O
   have Ux:R.length=l.fv.length:=by rw[<- X.len,<- hn,qV]
   have Uy:U.length=l.ps.length:=by have h1:=rd.length;have h2:=re.length;rw[nv]at O;omega
   have ar:Y.length=l.ps.length:=by rw[<- rv.length];exact Uy
   have KX:t.fr.In s.heap:=j.mod.rD.keeps λb o e=>(j.bs b o e).1;have lim:s.heap.NoLimit:=j.mod.nolimit.keeps λb o e=>(j.bs b o e).1;have ho:=(j.aW a _ hf.1).1;have jT:s.heap.CodeRec (.ref c) l.qual:=j.aW c _ hc.1;have cm:=X.m j.aW;refine PySem.W.kla_callFunE hr.depth ho rfl S.co S.gen rfl jT ?_;rw[S.bind cl pm (.ref c) fY Y ar];refine mA (wpAny_newFunctionEnv S.IG (λy hy=>S.ps y.1 (T3 hy).1) (λh1 uC D9=>⟨lim.fresh _ D9,?_⟩) S.kind);show PL _ _ (.expr l.bd (aeV l.qual l.sc s.heap.objs.size a (.ref c) cl)) _ _;have hk:∀b o,s.heap.get? b=some o->h1.get? b=some o:=λb o e=>D9.extBut b o (ro (nI e)) (nG _ e);have k:mn (pN t.lx q t.w t.fr t.mg I l cl a (.ref c) A outer s (cS (bQ cl s.heap) H)) [] ((R++U).map some) (cS (bQ cl s.heap) H) { s with heap:=h1,toks:=s.toks+(l.ps.zip Y).length }:=K3 S hr.hd j hn hd2 X Uy rv uC hk;have rl:ai t (cS (bQ cl s.heap) H) (Ix.none M) (ds++Z) (R++U):=ai.xt (λb o K=>(cm b o K).2.1) _ z1 (ai.toN _ z2 (rd.append re));have Ge:au t (cS (bQ cl s.heap) H) (Ix.none M) []:=G0.empty (λb P=>by
    cases K:bQ cl s.heap b with
    |none=>exact .inl (by rw[bP K];exact P)
    |some o =>
     obtain⟨o',u,x,_⟩:=X.mem b (iS K).1;exact .inr λz=>(nQ.mp z).elim x.2.1 (x.2.2 rfl)) λK hq=>bP (by
     cases z:bQ cl s.heap K.1 with
     |none=>rfl|some o=>have:=(cm K.1 o z).2.1;rw[(G0.tb K hq).1]at this;cases this)
   have rs:bC t (cS (bQ cl s.heap) H) (Ix.none M) ((ds++Z).map some) ((R++U).map some):=by
    refine⟨by rw[qV,qV];exact rl.length,λi dd K=>?_⟩;rw[qd]at K;cases e:(ds++Z)[i]? with
    |none=>rw[e]at K;cases K
    |some dd' =>
     rw[e]at K;cases K;obtain⟨v,e1,e2⟩:=rl.get e;exact⟨v,by rw[qd,e1];rfl,e2⟩
   refine PySem.W.kla_codeExpr (Zc ((B cl a (.ref c) A outer s _ (hr.deeper _)).un [] _ _ _ (λv H'=>∃ι',Ext (cS (bQ cl s.heap) H) (Ix.none M) H' ι'/\Rel t H' ι' d v) k ⟨Ix.none M,_,[],d,gx,Ge,rs,hx,λH' ι' v e _ r=>⟨ι',e,r⟩⟩) (λu s' hs=>?_) λe s' z=>z.elim);obtain⟨v,H',J,aq,ι',e,r'⟩:=hs;obtain⟨ab,G1,same⟩:=K1 G0 (λb o K=>(cm b o K).2) e;have jb:Un (kY outer) [] (cS (bQ cl s.heap) H) H' s.heap s'.heap:=J.base;have ah:=OA jb λb o K=>⟨(cm b o K).1,(cm b o K).2.1⟩
   have back:∀b o,bQ cl s.heap b=some o->s'.heap.get? b=some o/\H' b=none:=λb o K=>by
    have P:cS (bQ cl s.heap) H b=none:=jJ K;refine⟨?_,jb.free b o (cm b o K).1 P (by simp)⟩;have nf:b ∉ kY outer:=λz=>by have:=j.rE b z;rw[(cm b o K).2.1]at this;cases this
    exact jb.keep b o (cm b o K).1 P nf (by simp)
   refine⟨v,dR (bQ cl s.heap) H',J.os,J.bare,ah,D7 J.aW back,aq,p _ M v ab G1 ?_⟩;refine Rel.ext (Ext.kX λb o K=>(back b o K).2) d (Rel.se e.cF (λb B=>?_) d z3 r');obtain⟨o,ev,OD⟩:=G0.lst B;exact⟨o,by rw[same b B];exact ev,OD⟩
 . cases hx
noncomputable def nt (sc:Scope):List Str:=((sc.names.filter (·.2 == .free)).map (·.1)).reverse
theorem nu {c:Str->Addr}{f:Str×Dc->List (Str×Addr)->Sem (ForInStep (List (Str×Addr)))}:∀(L:List (Str×Dc)) (g:List (Str×Addr)),(∀x r,(x,zk)∈L->f (x,.free) r=pure (.yield ((x,c x)::r))) ->
  (∀x k r,(k == zk)=false->f (x,k) r=pure (.yield r))->forIn L g f=pure ((((L.filter (·.2 == .free)).map (·.1)).reverse.map λx=>(x,c x))++g)
 | [],g,_,_=>by simp
 | (nm,kd)::L,g,h1,h2=>by
  rw[ad1];cases hk:kd == zk with
  |true =>
   have e:kd = .free:=eq_of_beq hk;subst e;rw[h1 nm g sv,pure_bind];show forIn L _ f=_;rw[nu L _ (λx r a=>h1 x r (p8 _ a)) h2];simp
  |false =>
   rw[h2 nm kd g hk,pure_bind];show forIn L _ f=_;rw[nu L _ (λx r a=>h1 x r (p8 _ a)) h2];simp[hk]
def vm {c:Str->Addr}(h:∀x,(x,zk)∈J.names->env.cells.lookup x=some (c x)):afN J env=pure ((nt J).map λx=>(x,c x)):=by
 unfold afN nt;refine(congrArg (λz=>z >>= _) (nu (c:=c) J.names [] (λx r b=>?_) λx k r a=>?_)).trans ?_
 . simp[cellOf,h x b]
 . simp[a]
 . rw[pure_bind,wz]
structure vI (X:Cx)(p:Pos)(x:Str)(l:d7):Prop where
 lm:X.lx.lm x=some l
 S:vH l
 Uz:l.fv=nt l.sc
 df:l.ar.defaults = []
 kd:l.ar.kw_defaults = []
 tab:∃cc P,X.env.code = .ref cc/\aij X.base cc P/\(P,p,l.qual)∈X.lx.tb
 qual:X.env.qual ++ "<lambda>" = l.qual
 cells:∀y∈l.fv,X.env.scope.names.lookup y=some .cell
 al:∀y,X.fn y=true
inductive zY (X:Cx)(σ:mO):List (Str×Addr)->List V->Prop
 |nil:zY X σ [] []
 |cons {y:Str} {c:Addr} {v:V} {cl:List (Str×Addr)} {vs:List V} {i:Nat} (e:X.env.cells.lookup y=some c) (k:X.env.scope.names.lookup y=some .cell) (hN:X.N[i]? = some y) (hσ:σ[i]? = some (some v)) (t:zY X σ cl vs):zY X σ ((y,c)::cl) (v::vs)
inductive GI (X:Cx)(H:Hp)(ι:Ix)(σ:mO):D->V->Prop
 |val {d:D} {v:V} (r:Rel X.kw H ι d v):GI X H ι σ d v
 |lam {x:Str} {ds:List D} {l:d7} {a c:Addr} {fY pm:Value} {cl:List (Str×Addr)} {vs:List V} (hl:X.lx.lm x=some l) (hf:Xo H ι a (oK a (aeU "<lambda>" l.qual l.ar l.bd l.sc cl pm c fY))) (hc:Xo H ι c (.iX l.qual)) (hn:cl.map (·.1)=l.fv) (hd:(cl.map (·.2)).Nodup) (hv:zY X σ cl vs) (r:ai X.kw H ι ds vs):GI X H ι σ (.fn x ds) (.ref a)
inductive oM (X:Cx)(H:Hp)(ι:Ix)(σ:mO):List D->List V->Prop
 |nil:oM X H ι σ [] []
 |cons {d:D} {v:V} {ds:List D} {vs:List V} (r:GI X H ι σ d v) (t:oM X H ι σ ds vs):oM X H ι σ (d::ds) (v::vs)
theorem oM.len {X:Cx}{H ι σ}:∀{ds c},oM X H ι σ ds c->ds.length=c.length
 |_,_,.nil=>rfl|_,_,.cons r t=>by simp[t.len]
inductive tQ (X:Cx)(f:FA)(σ:mO)(H:Hp)(Q:List V->Hp->Prop):Prop
 |mk (ι:Ix) (σd:Sg) (g:G) (ds:List D) (g':G) (h0:au X.kw H ι g) (h1:bC X.kw H ι σd σ) (h2:f σd g=some (ds,g')) (h3:∀H' ι' vs,Ext H ι H' ι'->au X.kw H' ι' g'->oM X H' ι' σ ds vs->Q vs H'):tQ X f σ H Q
structure xw (X:Cx)(es:List Expr)(f:FA):Prop where of ::
 un:PA X es (tQ X f)
def K4:xw X [] af:=.of (PA.imp lQ λn H Q h=>by obtain⟨i,a,g,d,b,G0,c,h,p⟩:=h;cases h;exact p H i _ Ext.refl G0 .nil)
def GJ (fr:DE X e C)(fa:xw X B g)(A:ni (e::B) X.env=(false,eval e X.env)::ni B X.env):xw X (e::B) (ae C g):=.of (
 PA.imp (ik fr.un fa.un A) λJ H Q h=>by obtain⟨M,r,O,d,R,G0,i,h,p⟩:=h;obtain⟨⟨U,E⟩,y,h⟩:=bind_some h;obtain⟨⟨c,I⟩,j,h⟩:=bind_some h;cases h;refine tD.bind G0 i y λY l v n s z f=>?_;refine⟨l,r,E,c,I,s,z,j,λb q u a x o=>?_⟩;exact p b q _ (n.trans a) x (.cons (.val (Rel.ext a _ f)) o))
noncomputable def xx:List Nat->Sg->Option (List D)
 | [],_=>some []
 |i::is,c=>match c[i]? with
  |some (some d)=>(xx is c).map (d :: ·)|_=>none
noncomputable def tW (x:Str)(is:List Nat):FE:=λc g=>(xx is c).map λds=>(.fn x ds,g)
noncomputable def D_ (N:List Str)(is:List Nat)(ys:List Str):Prop:=is.length=ys.length /\ ∀(j:Nat) i y,is[j]? = some i->ys[j]? = some y->N[i]? = some y
theorem Ea {X:Cx}{H:Hp}{B:Ix}{x:Sg}{C:mO}(A:bC X.kw H B x C){c:Str->Addr}:∀{is:List Nat} {ys:List Str} {ds:List D},D_ X.N is ys->(∀y∈ys,X.env.cells.lookup y=some (c y))->(∀y∈ys,X.env.scope.names.lookup y=some .cell)->xx is x=some ds ->
  ∃g,zY X C (ys.map λy=>(y,c y)) g/\ai X.kw H B ds g
 | [],[],ds,_,_,_,h=>by cases h;exact⟨[],.nil,by simp[ai]⟩| [],_::_,_,q,_,_,_=>by have:=q.1;simp at this|_::_,[],_,q,_,_,_=>by have:=q.1;simp at this
 |i::is,y::ys,ds,q,hc,hk,h=>by
  unfold xx at h;split at h
  . rename_i d hd
    obtain⟨p,l,rfl⟩:=oN.mp h;obtain⟨g,o,r⟩:=Ea A (is:=is) (ys:=ys) ⟨by have:=q.1;simpa using this,λj n f a b=>q.2 (j+1) n f (by simpa using a) (by simpa using b)⟩ (λz e=>hc z (p8 _ e)) (λz e=>hk z (p8 _ e)) l;obtain⟨v,u,s⟩:=A.2 i d hd;refine⟨v::g,.cons (hc y sv) (hk y sv) (q.2 0 i y rfl rfl) u o,?_⟩;simp only[ai];exact⟨v,g,rfl,s,r⟩
  . cases h
def OE {l:d7}(L:vI X j x l){s:my}{ι:Ix}(I:mn X b r H s)(G0:au X.kw H ι a)(q:∀cv c U pm s' H',mn X b r H' s'->Ext H ι H' ι->au X.kw H' ι a->Xo H' ι cv (oK cv (aeU "<lambda>" l.qual l.ar l.bd l.sc (l.fv.map λy=>(y,(X.env.cells.lookup y).getD 0)) pm c U))->Xo H' ι c (.iX l.qual)->Q (.ref cv) s'):
   wpAny (model X.prog X.w) X.A (eval (.Lambda l.ar l.bd l.sc j) X.env) Q X.xe s:=by
 obtain⟨cc,P,II,aG,OF⟩:=L.tab;obtain⟨O,a0⟩:=G0.tb _ OF;have O:H P=some (.cp j l.qual):=O;have gG:afN l.sc X.env=pure (l.fv.map λy=>(y,(X.env.cells.lookup y).getD 0)):=by
   rw[L.Uz];refine vm (c:=λy=>(X.env.cells.lookup y).getD 0) λy hy=>?_;have:y∈l.fv:=by rw[L.Uz];unfold nt;rw[aeB];exact nP.mpr ⟨(y,.free),EZ.mpr ⟨hy,rfl⟩,rfl⟩
   obtain⟨c,e⟩:=I.ok.has y (.inl (L.cells y this));rw[e];rfl
 obtain⟨ps,Y,ht,R8⟩:=I.aW P _ O;have Z:s.heap.Ns tA X.mg:=I.mod.glob.keeps I.bk;have C:aij s.heap cc P:=aG.keeps I.bk;obtain⟨bm,E,B⟩:=I.mod.bm;have aA:tA≠P:=λz=>by obtain⟨o,es,ep,e,d,_⟩:=Z;rw[z,Y]at e;cases e;cases d
 have ah:bm≠P:=λz=>by have:=I.bk _ _ B.obj;rw[z,Y]at this;cases this;have z2:Ad = .type "module":=B.cls;cases z2
 have ab:bm≠tA:=λz=>by obtain⟨o,es,ep,e,d,_⟩:=Z;have:=I.bk _ _ B.obj;rw[z,e]at this;cases this;rw[B.data]at d;cases d
 have hb:s.heap.BuiltinsAt X.mg P:=⟨bm,E,B.name,B.ne,ab,ah,I.bk _ _ B.obj,B.cls,B.dict,B.data⟩
 refine PySem.W.kla_eval (by rw[defaultsOf_eq,L.df,L.kd];rfl) ?_;rw[L.qual];rcases R8 with Ir|⟨c,hf,hc⟩
 . refine PySem.W.kla_makeFunction (mg:=X.mg) gG I.ok.glob Z II C Y ht Ir aA hb λJ U f tk hx OG bK WN OH=>?_
   have p:H J=none:=I.aW.fresh OG;have OI:s.heap.objs.size<=f.objs.size:=rK OG (Vd bK);have h:H f.objs.size=none:=I.aW.fresh OI;have Dt:f.objs.size≠J:=aeP bK;have a3:J≠P:=λz=>by rw[z,O]at p;cases p
   have aO:f.objs.size≠P:=λz=>by rw[z,O]at h;cases h
   have e1:Ext H ι (upd H J (.iX l.qual)) ι:=Ext.lay p;have BK:upd H J (.iX l.qual) f.objs.size=none:=by rw[aD Dt];exact h
   have e2:=λo=>Ext.lay (ι:=ι) (o:=o) BK;have G1:au X.kw (upd H J (.iX l.qual)) ι a:=G0.lay p;have sD:∀(o:Obj) g E,g≠P->s.heap.get? g=some E->(f.push o).get? g=some E:=λo g E n e=>nG _ (hx g E n e);have M:∀o:Obj,o.isFreed=false->(f.push o).get? f.objs.size=some o:=λo z=>p9 _ z;refine q _ J U ((X.mg "__name__").getD .none) _ (upd (upd H J (.iX l.qual)) f.objs.size (oK f.objs.size _)) (I.un (t':=tk) ⟨λg E e n _ _=>sD _ g E (λz=>by rw[z,O]at n;cases n) e,λg E e n _ _=>⟨E.slots,sD _ g E (λz=>by rw[z,O]at n;cases n) e⟩,λg E e n _=>?_,λg E e _=>?_,λg xs e=>?_,λg E u e=>?_,λg u _ e=>?_⟩ λg u e=>?_) (e1.trans (e2 _)) (G1.lay BK) ⟨aR,G1.fresh BK,λ_=>G1.iK BK⟩ ⟨by rw[aD (n7 Dt)];exact aR,G0.fresh p,λz=>(by cases z)⟩
   . have l1:=nI e
     rw[aD (ro (wi l1 OI)),aD (ro (wi l1 OG))];exact n
   . by_cases z:g=P
     . rw[z];exact⟨_,nG _ OH⟩
     . exact⟨E,sD _ g E z e⟩
   . rw[aD (aM e h),aD (aM e p)];exact e
   . rw[aD (aM e h),aD (aM e p)];exact e
   . rw[aD (aM e h),aD (aM e p)];exact e
   . have lift:∀g u,H g=some u->upd (upd H J (.iX l.qual)) f.objs.size (oK f.objs.size (aeU "<lambda>" l.qual l.ar l.bd l.sc (l.fv.map λy=>(y,(X.env.cells.lookup y).getD 0)) ((X.mg "__name__").getD .none) J U)) g=some u:=λg u e=>by
       rw[aD (aM e h),aD (aM e p)];exact e
     by_cases za:g=f.objs.size
     . subst za
       rw[aR]at e;cases e;exact⟨M _ rfl,⟨_,M _ rfl⟩,λh1 h2 j k=>k _ j⟩
     . rw[aD za]at e
       by_cases zc:g=J
       . subst zc
         rw[aR]at e;cases e;exact WN.push _
       . rw[aD zc]at e
         by_cases zp:g=P
         . subst zp
           rw[O]at e;cases e;refine⟨_,nG _ OH,?_,.inr ⟨J,?_,?_⟩⟩
           . rw[ag0];exact TriplesOk_snoc _ _ _ _ ht
           . rw[ag0];exact codeAmong_snoc _ ht Ir
           . rw[aD (n7 Dt)];exact aR
         . refine(I.aW g u e).cY (λd v hd R=>sD _ d v ?_ R) (λd R=>lift d _ R) (λd xs R=>lift d _ R) λd r' R=>lift d _ R
           rcases hd with rfl|hd
           . exact zp
           . intro z;rw[z,O]at hd;cases hd
 . refine PySem.W.kla_makeFunctionHit (mg:=X.mg) gG I.ok.glob Z II C Y ht hf hb λU f tk hk jG=>?_
   have h:H f.objs.size=none:=I.aW.fresh jG;have kk:∀(o:Obj) g E,s.heap.get? g=some E->(f.push o).get? g=some E:=λo g E e=>nG _ (hk g E e);have M:∀o:Obj,o.isFreed=false->(f.push o).get? f.objs.size=some o:=λo z=>p9 _ z;have p:c ∉ ι.ix:=λz=>by
     obtain⟨o,ev,_⟩:=id (G0.lst z);rw[hc]at ev;cases ev;obtain⟨i,hi,e⟩:=OX.mp z;have aq:i<a.length:=by rw[<- G0.len];exact hi
     obtain⟨g,o,vs,hb,h1,ov,_⟩:=G0.at_ i _ (nz aq);rw[nz hi,e]at hb;cases hb;rw[hc]at h1;cases h1;generalize ι.kd i=kk at ov;cases ov
   have e2:=λo=>Ext.lay (ι:=ι) (o:=o) h;refine q _ c U _ _ (upd H f.objs.size (oK f.objs.size _)) (I.laid (t':=tk) (kk _) jG ⟨M _ rfl,⟨_,M _ rfl⟩,λh1 h2 j k=>k _ j⟩) (e2 _) (G0.lay h) ⟨aR,G0.fresh h,λ_=>G0.iK h⟩ ⟨by rw[aD (aM hc h)];exact hc,p,λz=>(by cases z)⟩
theorem baC {j n:Type}{f:j->n}:∀{l:List j},(∀x∈l,∀y∈l,f x=f y->x=y)->l.Nodup->(l.map f).Nodup
 | [],_,_=>TF|x::l,h,nd=>by rw[yp,Dy];rw[Dy]at nd;refine⟨λz=>?_,baC (λa d b i=>h a (p8 _ d) b (p8 _ i)) nd.2⟩;obtain⟨y,c,e⟩:=nP.mp z;have:=h y (p8 _ c) x sv e;rw[this]at c;exact nd.1 c
def K5 {l:d7}{is:List Nat}(L:vI X j x l)(A:D_ X.N is l.fv)(p:xw X B g):xw X (.Lambda l.ar l.bd l.sc j::B) (ae (tW x is) g):=.of (by
 intro pos O s R H Q I h;obtain⟨U,E,fr,d,g',G0,M,h,q⟩:=h;obtain⟨⟨d1,g1⟩,C,h⟩:=bind_some h;obtain⟨⟨Y,Z⟩,h2,h⟩:=bind_some h;cases h;unfold tW at C;obtain⟨ds,hc,C⟩:=oN.mp C;cases C;have n:∀y∈l.fv,X.env.cells.lookup y=some ((X.env.cells.lookup y).getD 0):=λy r=>by obtain⟨c,e⟩:=I.ok.has y (.inl (L.cells y r));rw[e];rfl
 obtain⟨vc,o,rc⟩:=Ea M A n L.cells hc;show wpAny _ _ (spliced ((false,eval (.Lambda l.ar l.bd l.sc j) X.env)::v3 pos (ni B X.env))) _ _ s;refine afi (OE L I G0 λa c fY pm s1 H1 I1 u G1 xf xc=>?_);refine aV (p.un pos O s1 R H1 (λf b=>Q (.ref a::f) b) I1 ⟨U,E,fr,Y,Z,G1,M.ext u,h2,λb J f i G2 rq=>?_⟩) λus s2 ⟨f,b,I2,r2,q2⟩=>⟨.ref a::f,b,I2,.cons rfl r2,q2⟩
 refine q b J _ (u.trans i) G2 (.cons (.lam L.lm (xf.ext i) (xc.ext i) ?_ ?_ o (ai.ext (u.trans i) _ rc)) rq)
 . rw[E5];exact ahC _
 . rw[E5]
   refine baC (λy r z hz e=>?_) (TJ.mp L.S.nd).1;have e:(X.env.cells.lookup y).getD 0=(X.env.cells.lookup z).getD 0:=e;have v:=n y r;rw[e]at v;exact I.ok.inj y z _ v (n z hz))
noncomputable def er (X:Cx):List (Str×Addr):=(X.env.cells.map (·.1)).filterMap λy=>(X.env.cells.lookup y).map λc=>(y,c)
def oO (h:f∈(er X).map (·.2)):∃y,X.env.cells.lookup y=some f:=by obtain⟨⟨y,c⟩,hm,rfl⟩:=nP.mp h;obtain⟨z,_,e⟩:=Rx.mp hm;obtain⟨b,d,a⟩:=oN.mp e;cases a;exact⟨_,d⟩
def Eb (e:X.env.cells.lookup x=some tu):tu∈(er X).map (·.2):=
 nP.mpr ⟨(x,tu),Rx.mpr ⟨x,M4 (f:=(·.1)) (zS e),by rw[e];rfl⟩,rfl⟩
def sE (I:mn X b r H c):∀g o,bQ (er X) c.heap g=some o->c.heap.get? g=some o/\H g=none:=λg o q=>by obtain⟨h,e⟩:=iS q;obtain⟨y,a⟩:=oO h;exact⟨e,I.hJ y g a⟩
section
variable {s:my}
theorem uS (I:mn X b r H s)(G0:au X.kw H w a):∀{cl:List (Str×Addr)} {h:List V},zY X r cl h->cH (dR (bQ (er X) s.heap) H) w cl h
 |_,_,.nil=>.nil
 |_,_,.cons (y:=y) (c:=c) (v:=v) e k hN hσ t=>by
  obtain⟨mm,_,f⟩:=I.loc;obtain⟨u,n,d⟩:=f _ y v hN hσ (.inr (.inl k));rcases d with⟨g,_⟩|⟨_,c',e',o,ho,hd⟩
  . have g:X.env.scope.names.lookup y=some .local:=g
    rw[k]at g;cases g
  . rw[e]at e';cases e'
    have i:=I.hJ y c e;exact .cons ⟨jI (xu (Eb e) ho),G0.fresh i,λ_=>G0.iK i⟩ hd n (uS I G0 t)
end
theorem xA (I:mn X b r H c)(G0:au X.kw H w a):∀{ds:List D} {h:List V},oM X H w r ds h->ai X.kw (dR (bQ (er X) c.heap) H) w ds h
 |_,_,.nil=>by simp[ai]
 |_,_,.cons g t=>by
  have e:Ext H w (dR (bQ (er X) c.heap) H) w:=Ext.kX λi o q=>(sE I i o q).2;simp only[ai];refine⟨_,_,rfl,?_,xA I G0 t⟩;cases g with
  |val g=>exact Rel.ext e _ g
  |lam n hf hc p hd u g =>
   simp only[Rel];exact⟨_,_,rfl,.inr ⟨_,_,_,_,_,n,hf.ext e,hc.ext e,p,hd,uS I G0 u⟩,ai.ext e _ g⟩
def K6 (I:mn X b r H c)(h:∀y,X.fn y=true):qB X.prog X.w X.K X.mg X.base X.A X.stack c (dR (bQ (er X) c.heap) H):=by
 have a:=I.FP;have p:∀g o,bQ (er X) c.heap g=some o->X.s₀.heap.objs.size<=g:=λg o q=>by obtain⟨y,d⟩:=oO (iS q).1;exact I.ok.yO y g (h y) d
 refine⟨a.frames,a.mod,λg o e=>⟨(a.bs g o e).1,?_⟩,a.n_,a.iE,λg i=>?_,D7 a.aW (sE I),a.bare⟩
 . rw[cf ?_]
   . exact(a.bs g o e).2
   . cases z:bQ (er X) c.heap g with
     |none=>rfl|some n=>exact absurd (wi (nI e) (rK I.ok.n_ (p g n z))) (GW _)
 . rw[cf ?_]
   . exact a.rE g i
   . cases z:bQ (er X) c.heap g with
     |none=>rfl
     |some n =>
      obtain⟨y,d⟩:=oO (iS z).1;rcases nF.mp (I.rF g i)with e|i
      . exact absurd e (I.ug y g d)
      . obtain⟨_,o,f,_⟩:=I.ok.iE.mem i
        exact absurd (wi (nI f) (p g n z)) (GW _)
def GK {fd:x3}{fr:Pos}(F:d9 X.prog X.w X.kw X.mg X.base iI p f fd K (k_ X.kw n h))(P:dA p X.A)(E:X.mg x=some (.ref f))(M:Ou X.kw (.ref f)=true)(C:L5 X.kw fd K [])(O:∀ds fn r,h ds fn=some r->ds.length=n)(J:∀y,X.fn y=true)(L:xw X (e::B) g)(N:Gl X x)(R:(x == ("__debug__":Str))=false)(ps:ni (e::B) X.env=(false,eval e X.env)::ni B X.env)(S:(v3 fr (ni B X.env)).any (·.1)=false):DE X (.Call (.Name x j) (e::B) [] fr) (aj (j8 h) g):=.of (by
 intro cv s σ H Q I nm;obtain⟨ι,σd,fn,d,g',G0,S0,nm,q⟩:=nm;obtain⟨⟨ds,g1⟩,h1,nm⟩:=bind_some nm;refine Tb (pq I N E ?_ R);refine afj (h₀:=X.base) I.ok.mod.rD M (aV (L.un fr cv s σ H (λk U=>∃a,Ext H ι U a/\au X.kw U a g1/\oM X U a σ ds k) I ⟨ι,σd,fn,ds,g1,G0,S0,h1,λU a k e1 i rq=>⟨a,e1,i,rq⟩⟩) λus Y ⟨k,U,l,r,a,e1,i,rq⟩=>⟨l.gO,?_⟩) ps S;obtain⟨z1,⟨gx,hx⟩,z3,z4,rfl⟩:=BJ nm;have cm:=sE l;have rl:=xA l i rq;have hl:k.length=n:=by rw[<- rq.len];exact O _ _ _ hx
 have Ge:au X.kw (dR (bQ (er X) Y.heap) U) (Ix.none a) []:=i.empty (λb nn=>.inl ((Ext.kX (ι:=a) λb o q=>(cm b o q).2).there b nn)) λq c=>by rw[(i.tb q c).1];exact(Ext.kX (ι:=a) λb o q=>(cm b o q).2).same _ _ (i.tb q c).1 (i.tb q c).2
 have sp:k_ X.kw n h k (dR (bQ (er X) Y.heap) U) (λv Z=>∃z,Ext (dR (bQ (er X) Y.heap) U) (Ix.none a) Z z/\Rel X.kw Z z d v) E0:=⟨hl,Ix.none a,[],ds,d,gx,Ge,ai.toN _ z1 rl,hx,λZ z v e _ r=>⟨z,e,r⟩⟩
 have ab:(us ++ []).length=K.length:=by rw[wz,<- r.length];exact F.len _ _ _ _ sp
 have HW:=C Y us l.gO ab;rw[wz]at HW;refine agE (U7 (F.run X.A X.stack Y (dR (bQ (er X) Y.heap) U) ⟨us,[]⟩ us k _ E0 P (K6 l J) HW r sp) λrr s' c=>?_);cases rr with
 |error e=>exact c.elim
 |ok fl =>
  cases fl with
  |next=>exact A9 c|brk=>exact A9 c|cont=>exact A9 c
  |ret u =>
   obtain⟨v,Z,os,bare,un,aW,rv,z,e,r'⟩:=c;obtain⟨E1,G2,same,kE⟩:=K2 i (λb o q=>(cm b o q).2) e;refine l.after ⟨v,cS (bQ (er X) Y.heap) Z,os,bare,OB un cm kE aW,D8 aW kE,rv,?_⟩;refine q _ a v (e1.trans E1) G2 (Rel.xt kE d z4 (Rel.se e.cF (λb C=>?_) d z3 r'));obtain⟨o,ev,OD⟩:=i.lst C;exact⟨o,by rw[same b C];exact ev,OD⟩)
end
section
open PyProof.Rows
variable {U:List Value->Prop}{E:Expr->FE}{T:Env}{R:Nat->Nat->Fn}{Q:List Y8}{M:Nat->x3}{A:List (Addr×Pos×Str)}{z:Nat->Addr}{w:Str->Option Value}{v:List CmpOp}{t:KW}{s:oi}{r:List Addr}{o:FG}{m:Expr->FT}{d:List x3}{i:Expr}{k:U1}{a:Stmt}
structure G0 where
 T:Nat->Fn
 k:Nat
 fns:List (Str×Nat×Nat)
 jK:List Str
 xB:List (Str×D)
 xC:List (Str×List (Str×D))
 OK:List (Str×Nat)
structure Cs where
 N:List Str
 sc:Scope
 all:Bool
 mt:List Str
 own:List Str
 lam:Option (Pos×Str×d7)
inductive xD (m:G0)(X:Cx)(x:Str)(i n:Nat):Prop
 |mk (f:Addr) (fd:x3) (ps:List Str) (ok:d9 X.prog X.w X.K X.mg X.base iI m.k f fd ps (k_ X.kw n (m.T i))) (hm:X.mg x=some (.ref f)) (kp:Ou X.K (.ref f)=true) (b:L5 X.K fd ps []) (ln:∀ds g r,m.T i ds g=some r->ds.length=n):xD m X x i n
structure Gd (m:G0)(c:Cs)(X:Cx):Prop where
 hN:X.N=c.N
 hs:X.env.scope=c.sc
 nd:c.N.Nodup
 xe:X.xe=λ_ _=>False
 cm:X.calm=true
 rm:dA m.k X.A
 al:c.all=true->∀x,X.fn x=true
 ow:∀x∈c.own,X.fn x=true
 fn:∀x i n,(x,i,n)∈m.fns->xD m X x i n
 bl:∀x∈m.jK,X.mg x=none
 cn:∀x d,(x,d)∈m.xB->∃v u,X.mg x=some u/\mI v u /\ ∀K H ι,Rel K H ι d v
 dc:∀x t,(x,t)∈m.xC->∃a,X.mg x=some (.ref a)/\jB X.w X.kw a t
 lf:∀x i n,(x,i,n)∈m.fns->X.lx.lm x=none
 ll:∀x i,(x,i)∈m.OK->(∃l,X.lx.lm x=some l)/\sC X.prog X.kw X.base m.k x (m.T i)
 lh:∀p x l,c.lam=some (p,x,l)->vI X p x l
noncomputable def kP:FT:=λ_ _=>none
noncomputable def sF:FA:=λ_ _=>none
noncomputable def b9:FS:=λ_ _=>none
noncomputable def xF:FI:=λ_ _=>none
noncomputable def sG:FG:=λ_ _ _=>none
def tX:DT X e kP:=.of (λc s g H Q I h=>by obtain⟨_,_,_,_,_,_,_,h,_⟩:=h;cases h)
def tY:DA X B sF:=.of (λ_ c s g H Q I h=>by obtain⟨_,_,_,_,_,_,_,h,_⟩:=h;cases h)
def bT:DS X a b9:=.of (λc s g H Q I h=>by obtain⟨_,_,_,_,_,_,_,_,h,_⟩:=h;cases h)
def zZ:DI X y e xF:=.of (λc s g H Q I h=>by obtain⟨_,_,_,_,_,_,_,h,_⟩:=h;cases h)
def pO:DG X e sG:=.of (λc s g H v u Q I r h=>by obtain⟨_,_,_,_,_,_,_,_,_,h,_⟩:=h;cases h)
noncomputable def isStar (e:Expr):Bool:=HI e.ctorIdx 22
noncomputable def isSet (e:Expr):Bool:=HI e.ctorIdx 7
noncomputable def vJ (e:Expr):Bool:=HI e.ctorIdx 26
noncomputable def oP (e:Expr):Bool:=HI e.ctorIdx 8||HI e.ctorIdx 9||HI e.ctorIdx 10
noncomputable def R9 (e:Expr):Bool:=HI e.ctorIdx 24
noncomputable def mB (e:Expr):Bool:=HI e.ctorIdx 25
noncomputable def z9 (e:Expr):Bool:=HI e.ctorIdx 16
noncomputable def ny:Expr->Bool
 |.UnaryOp .Not _ _=>false|.BoolOp ..=>false|.IfExp ..=>false|.Compare ..=>false|_=>true
noncomputable def R_ (e:Expr):Bool:=HI e.ctorIdx 23||HI e.ctorIdx 21||HI e.ctorIdx 19
def bj (h:isStar e=false):ni (e::B) T=(false,eval e T)::ni B T:=by cases e<;>first|rfl|cases h
def marks {op:CmpOp}(h:isSet e=false):aew op e=false:=by cases e<;>first|rfl|cases h
def plainT (h:ny e=true):∀whole,isTrue e T whole=(do let c <- whole;Zg e.pos;HQ [c] (truthy c)):=by
 intro whole;cases e with
 |UnaryOp op a p=>cases op<;>first|rfl|cases h
 |_=>first|rfl|cases h
def z_ (h:vJ e=false):pA e:=by intro o i;cases e<;>first|rfl|cases h
def baseOk (h:z9 e=false):aex e x T (eval e T)=eval e T:=by cases e<;>first|rfl|cases h
def xG {t:Option Expr}(h:oP e=false):M5 e t n T=pure false:=by cases e<;>first|rfl|cases h
def hU (h:isSet e=false):∀x,zg e T x=pure x:=by intro x;cases e<;>first|rfl|cases h
def gz (h:B.any isStar=false):(v3 j (ni B T)).any (·.1)=false:=by
 induction B with
 |nil=>rfl
 |cons e B c =>
  rw[Bw,H_]at h;rw[bj h.1]
  show(false||(v3 j (ni B T)).any (·.1))=false
  rw[c h.2];rfl
def xH (h:B.any isStar=false):(v3 j (ni B T)).all (λx=>!x.1)=true:=by
 induction B with
 |nil=>rfl
 |cons e B c =>
  rw[Bw,H_]at h;rw[bj h.1];show(true&&(v3 j (ni B T)).all (λx=>!x.1))=true;rw[c h.2];rfl
noncomputable def iT:List Str->Str->Option Nat
 | [],_=>none|y::N,x=>if y == x then some 0 else(iT N x).map (· + 1)
theorem et:∀{N:List Str} {x:Str} {i:Nat},iT N x=some i->N[i]? = some x
 | [],_,_,h=>by cases h
 |y::N,x,i,h=>by
  unfold iT at h;split at h
  . rename_i e
    cases h;simp[eq_of_beq e]
  . obtain⟨j,a,rfl⟩:=oN.mp h
    simpa using et a
theorem lookup_mem {c:Type}:∀{l:List (Str×c)} {x:Str} {a:c},l.lookup x=some a->(x,a)∈l
 | [],_,_,h=>by cases h
 | (y,b)::l,x,a,h=>by
  rw[zr]at h;split at h
  . rename_i e
    cases h;rw[eq_of_beq e];exact sv
  . exact p8 _ (lookup_mem h)
def nn {a:Type}{x:a}{P:Prop}(h:(none:Option a)=some x):P:=nomatch h
noncomputable def Aa:Expr->Option (Str×Pos)
 |.Name x p=>some (x,p)|_=>none
def sH (h:Aa e=some (x,j)):e = .Name x j:=by
 cases e with
 |Name y j=>cases h;rfl|_=>exact nn h
noncomputable def nV (e:Expr):Option Str:=(Aa e).map (·.1)
def jC (h:nV e=some x):∃p,e = .Name x p:=by obtain⟨⟨y,p⟩,a,rfl⟩:=oN.mp h;exact⟨p,sH a⟩
noncomputable def IJ:Expr->Option (Expr×Expr×Pos)
 |.Subscript o i p=>some (o,i,p)|_=>none
def xI (h:IJ e=some (y,i,j)):e = .Subscript y i j:=by
 cases e with
 |Subscript=>cases h;rfl|_=>exact nn h
noncomputable def sV (e:Expr):Option (Expr×Expr):=(IJ e).map λq=>(q.1,q.2.1)
def BL (h:sV e=some (y,i)):∃p,e = .Subscript y i p:=by obtain⟨⟨d,c,p⟩,a,b⟩:=oN.mp h;cases b;exact⟨p,xI a⟩
noncomputable def tV:Expr->Option (List Expr)
 |.Tuple c _ _=>some c|_=>none
def BM (h:tV e=some B):∃k p,e = .Tuple B k p:=by
 cases e with
 |Tuple a k p=>cases h;exact⟨k,p,rfl⟩|_=>exact nn h
noncomputable def Ec:Expr->Option (Expr×List Expr×Pos)
 |.Call f c g p=>if g.isEmpty then some (f,c,p)else none|_=>none
def sI (h:Ec e=some (y,B,j)):e = .Call y B [] j:=by
 cases e with
 |Call g i c q=>cases c with
  |nil=>cases h;rfl|cons=>exact nn h
 |_=>exact nn h
noncomputable def cV (e:Expr):Option (Str×List Expr):=(Ec e).bind λq=>(nV q.1).map λx=>(x,q.2.1)
def vK (h:cV e=some (x,B)):∃p q,e = .Call (.Name x p) B [] q:=by obtain⟨⟨f,b,q⟩,c,h⟩:=bind_some h;obtain⟨y,a,h⟩:=oN.mp h;cases h;obtain⟨p,a⟩:=jC a;exact⟨p,q,by rw[sI c];exact congrArg (λz=>Expr.Call z b [] q) a⟩
noncomputable def two {c:Type}:List c->Option (c×c)
 | [a,b]=>some (a,b)|_=>none
def sJ {c:Type}{l:List c}{a b:c}(h:two l=some (a,b)):l = [a,b]:=by
 cases l with
 |nil=>cases h
 |cons x l=>cases l with
  |nil=>cases h
  |cons y l=>cases l with
   |nil=>cases h;rfl|cons=>cases h
noncomputable def gV:List Y8->Option (Expr×Expr×List Expr)
 | [g]=>if g.is_async=0 then some (g.target,g.iter,g.ifs)else none|_=>none
def IK (h:gV Q=some (e,y,B)):Q = [⟨e,y,B,0⟩]:=by
 cases Q with
 |nil=>cases h
 |cons g Q=>cases Q with
  |cons=>cases h
  |nil =>
   obtain⟨a,b,d,k⟩:=g;change (if k=0 then some (a,b,d)else none)=some _ at h;by_cases hk:k=0
   . subst hk;cases h;rfl
   . rw[if_neg hk]at h;cases h
noncomputable def jj (x:Str):Bool:=x == ("__debug__":Str)||x == ("__classdict__":Str)||x == ("__name__":Str)
def oQ (h:jj x=false):(x == ("__debug__":Str))=false/\(x == ("__classdict__":Str))=false/\x ≠ "__name__":=by simp only[jj,H_]at h;exact⟨h.1.1,h.1.2,λe=>by have:=h.2;rw[e]at this;simp at this⟩
structure pP where
 nm:Str
 fn:Fn
 ok:∀{X:Cx} {k:Nat},dA k X.A->X.calm=true->(∃id,dM X (.builtin id) (lX X.kw fn)/\L0 nm=some (.builtin id))\/(∃T,dM X (.type T) (lX X.kw fn)/\L0 nm=some (.type T))
structure vL where
 nm:Str
 i5:D->Bool
 m:D->List D->G->Option (D×G)
 ok:∀{X:Cx} {k:Nat},dA k X.A->∃T id,MR X T nm id i5 m
noncomputable def aE (E:Expr->FE):List Expr->FA
 | []=>af|e::c=>if isStar e then sF else ae (E e) (aE E c)
structure BN where
 nm:Str
 tup:Bool
 f:(Expr->FE)->List Expr->FI
 ok:∀{X:Cx} {k:Nat} {E:Expr->FE} {tg:Expr} {as:List Expr} {p pos:Pos},dA k X.A->X.calm=true->X.mg nm=none->Gl X nm->(∀e,DE X e (E e))->as.any isStar=false->(tup=true->mB tg=true)->DI X tg (.Call (.Name nm p) as [] pos) (f E as)
structure lB where
 e:G0->Cs->(Expr->FE)->Bool->Expr->Option FE
 uT:∀{m:G0} {c:Cs} {X:Cx} {E:Expr->FE},Gd m c X->(∀e,DE X e (E e))->∀{rf x f},e m c E rf x=some f->DE X x f
 t:G0->Cs->(Expr->FE)->Expr->Option FT
 tok:∀{m:G0} {c:Cs} {X:Cx} {E:Expr->FE},Gd m c X->(∀e,DE X e (E e))->∀{x f},t m c E x=some f->DT X x f
structure Pk where
 bl:List pP
 br:List pP
 mt:List vL
 it:List BN
 xr:List lB
noncomputable def Ed:Const->FE
 |.int i=>fC (.int i)|.str x=>fC (.str x)|.bool b=>fC (.bl b)|.none=>fC .aA|_=>bM
noncomputable def vM:Option Dc->Bool
 |some .local=>true|some .cell=>true|some .free=>true|_=>false
noncomputable def eName (m:G0)(c:Cs)(x:Str):FE :=
 if jj x then bM else
 match vM (c.sc.names.lookup x),iT c.N x with
 |true,some i=>aa i|true,none=>bM|false,_=>if c.sc.names.lookup x=some .globalImplicit then(match m.xB.lookup x with|some d=>fC d|none=>match m.fns.lookup x with|some _=>fC (.fn x [])|none=>bM)else bM
noncomputable def OM (op:U1)(c d:Bool)(b a:FE):FE:=match op with
 |.Add=>ag (if c then pI else bf) b a|.Sub=>ag (cu eE (· - ·)) b a|.Mult=>ag (if d then(if c then lA else j5)else cK) b a|.FloorDiv=>ag (cu e_ (· / ·)) b a|.Mod=>ag (cu dQ (· % ·)) b a|.Pow=>ag (cu j4 (λi j=>i ^ j.toNat)) b a|_=>bM
noncomputable def UB (op:UnaryOp)(a:FE):FE:=match op with
 |.USub=>rS mZ a|_=>bM
noncomputable def bE (E:Expr->FE)(g:Bool)(op:BoolOp):List Expr->FE
 | []=>bM| [a]=>E a
 |a::b::r=>match op with
  |.And=>jy (E a) (bE E g .And (b::r))|.Or=>if g then Gr (E a) (bE E g .Or (b::r))else F4 (E a) (bE E g .Or (b::r))
noncomputable def UC:CmpOp->D->D->G->Option (D×G)
 |.Lt=>oLt|.LtE=>oLe|.Gt=>ma|.GtE=>zD|.Eq=>oEq|.NotEq=>bp|.Is=>qp|.IsNot=>vC|.In=>ie|.NotIn=>iw
noncomputable def tZ (E:Expr->FE)(l:Expr):List CmpOp->List Expr->FE
 | [op],[b]=>if isSet b then bM else ag (UC op) (E l) (E b)|_,_=>bM
noncomputable def pE (E:Expr->FE):Option Expr->FO
 |none=>fE|some e=>bL (E e)
noncomputable def GL (E:Expr->FE)(v:Expr):Expr->FE
 |.Slice c g none _=>d_ (E v) (pE E c) (pE E g)|.Slice c g (some st) _=>w5 (E v) (pE E c) (pE E g) (bL (E st))|s=>ag ao (E v) (E s)
noncomputable def BO (m:G0)(P:Pk)(c:Cs)(d:Bool)(E:Expr->FE)(f:Expr)(a:List Expr)(b:Pos):FE:=match f with
 |.Name x _=>if jj x||a.any isStar then bM else if c.sc.names.lookup x=some .globalImplicit then
   (match m.fns.lookup x with
   |some (i,_)=>aj (m.T i) (aE E a)
   |none=>if a.isEmpty || !(m.jK.elem x)then bM else match(if d then P.br else P.bl).find? (λr=>r.nm == x)with
    |some r=>aj r.fn (aE E a)|none=>bM)
  else bM
 |.Attribute o x g=>if z9 o||a.any isStar || !(g.endLine == b.line) || !(decide (a.length<29))then bM else match P.mt.find? (λr=>r.nm == x)with
  |some r=>dh r.i5 r.m (E o) (aE E a)|none=>bM
 |_=>bM
def Gd.hu {m:G0}{c:Cs}(g:Gd m c X):X.A.units+64<cLine:=g.rm.units
def Gd.gl {m:G0}{c:Cs}(g:Gd m c X)(h:c.sc.names.lookup x=some .globalImplicit):Gl X x:=by show X.env.scope.names.lookup x=_;rw[g.hs];exact h
theorem fj (a:∀e,DE X e (E e)):∀c:List Expr,DA X c (aE E c)
 | []=>C_
 |e::c=>by
  unfold aE;split
  . exact tY
  . rename_i h
    exact tG (a e) (fj a c) (bj (by simpa using h))
def Ee {v:Const}:DE X (.Constant v n j) (Ed v):=by
 cases v with
 |int i=>exact Ni|str x=>exact Nj|bool b=>exact Rz|none=>exact Nk|_=>exact bN
def GN {m:G0}{c:Cs}(g:Gd m c X):DE X (.Name x j) (eName m c x):=by
 unfold eName;split
 . exact bN
 rename_i z;obtain⟨b,s,_⟩:=oQ (by simpa using z);split
 . rename_i i a r
   refine Nl i (by rw[g.hN];exact et r) ?_ b s;rw[g.hs];unfold vM at a;split at a
   . rename_i e;exact .inl e
   . rename_i e;exact .inr (.inl e)
   . rename_i e;exact .inr (.inr e)
   . cases a
 . exact bN
 . split
   . rename_i l
     split
     . rename_i d hd
       obtain⟨v,u,h1,q,o⟩:=g.cn x d (lookup_mem hd);exact JZ (g.gl l) h1 q o b
     . split
       . rename_i y p
         obtain⟨i,n⟩:=y;obtain⟨f,fd,ps,_,hm,_⟩:=g.fn x i n (lookup_mem p);exact .of (PE.imp (td (v:=.ref f) (g.gl l) hm rfl b) λE H Q h=>by obtain⟨B,C,I,d,J,G0,M,h,j⟩:=h;cases h;exact j H B _ Ext.refl G0 (by simp only[Rel];exact⟨f,[],rfl,.inl ⟨rfl,g.lf x i n (lookup_mem p),hm⟩,by simp[ai]⟩))
       . exact bN
   . exact bN
def K7 {op:Bool}{h:FE}(f:DE X e C)(d:DE X y h):DE X (.BinOp e k y j) (OM k Z op C h):=by
 cases k<;>first|exact bN|skip
 . cases Z
   . exact jx N1 f d
   . exact jx Kt f d
 . exact jx NO f d
 . cases op
   . exact jx wO f d
   . cases Z
     . exact jx Kz f d
     . exact jx zX f d
 . exact jx NP f d
 . exact jx NQ f d
 . exact jx Ke f d
def ON {op:UnaryOp}(d:DE X e C):DE X (.UnaryOp op e j) (UB op C):=by
 cases op with
 |USub=>exact RA NR d|_=>exact bN
theorem IL (d:∀e,DE X e (E e)){gf:Bool}{op:BoolOp}{p:Pos}:∀g:List Expr,DE X (.BoolOp op g p) (bE E gf op g)
 | []=>bN| [a]=>Nw (d a)
 |a::b::r=>by
  have c:=IL d (gf:=gf) (op:=op) (p:=p) (b::r);cases op<;>cases gf
  . exact C9 (d a) c
  . exact C9 (d a) c
  . exact RC (d a) c
  . exact N6 (d a) c
def Ef (hu:X.A.units+64<cLine):∀op:CmpOp,bJ X (u3 op) (dD X.kw (UC op))
 |.Lt=>RK|.LtE=>RL|.Gt=>RM|.GtE=>RN|.Eq=>RO hu|.NotEq=>Ob hu|.Is=>RS|.IsNot=>Kp|.In=>Oh hu|.NotIn=>DX hu
def K8 (hu:X.A.units+64<cLine)(a:∀l,DE X l (E l)):DE X (.Compare e v B j) (tZ E e v B):=by
 unfold tZ;split
 . split
   . exact bN
   . rename_i h
     exact Nn (Ef hu _) (a _) (a _) (marks (by simpa using h))
 . exact bN
def K9 (hu:X.A.units+64<cLine)(a:∀l,DE X l (E l)):DT X (.Compare e v B j) (ay (tZ E e v B)):=by
 have none_:DT X (.Compare e v B j) (ay bM):=.of (λc s g H Q I h=>by obtain⟨_,_,_,_,_,_,_,h,_⟩:=h;cases h);unfold tZ;split
 . split
   . exact none_
   . rename_i h
     exact Nq (Ef hu _) (a _) (a _) (marks (by simpa using h))
 . exact none_
def vN (a:∀e,DE X e (E e)):∀o:Option Expr,DO X o (pE E o)
 |none=>Kj|some e=>zC (a e)
def K_ (hu:X.A.units+64<cLine)(d:∀v,DE X v (E v)):DE X (.Subscript e y j) (GL E e y):=by
 unfold GL;split
 . exact DP (d _) (vN d _) (vN d _)
 . exact DL (d _) (vN d _) (vN d _) (zC (d _))
 . rename_i a b
   refine Og hu (d _) (d _) (z_ ?_);cases y with
   |Slice c g st q =>
    cases st with
    |none=>exact absurd rfl (a _ _ _)|some v=>exact absurd rfl (b _ _ _ _)
   |_=>rfl
def GO {m:G0}{c:Cs}(P:Pk)(g:Gd m c X)(A:∀f,DE X f (E f)):DE X (.Call e B [] j) (BO m P c Z E e B j):=by
 unfold BO;split
 . rename_i x p
   split
   . exact bN
   rename_i h;simp only[yN,not_or,TZ]at h;obtain⟨s,O,I⟩:=oQ h.1;have d:=h.2;split
   . rename_i q
     split
     . rename_i i n hf
       obtain⟨fa,fd,ps,ok,hm,y,b,ln⟩:=g.fn x i n (lookup_mem hf);cases B with
       |nil=>exact Gb ok g.rm hm y b ln (g.gl q) s
       |cons f C =>
         rw[Bw,H_]at d;exact J_ ok g.rm hm y b ln (fj A _) (g.gl q) s (bj d.1) (gz d.2)
     . split
       . exact bN
       rename_i v;simp only[yN,not_or,TZ,afp,yA]at v;split
       . rename_i r u
         have l:r.nm=x:=by have:=agf u;exact eq_of_beq this
         have hx:x∈m.jK:=H9.mp (by simpa using v.2);cases B with
         |nil=>simp at v
         |cons f C =>
          rw[Bw,H_]at d;rcases r.ok g.rm g.cm with⟨id,H,a⟩|⟨T,H,a⟩
          . rw[l]at a
            exact Gf H (g.bl x hx) a (fj A _) (g.gl q) I s (bj d.1) (gz d.2)
          . rw[l]at a
            exact Di H (g.bl x hx) a (fj A _) (g.gl q) I s (bj d.1) (gz d.2)
       . exact bN
   . exact bN
 . rename_i o x Q
   split
   . exact bN
   rename_i h;simp only[yN,not_or,TZ,yA,afp,decide_eq_false_iff_not,Classical.not_not]at h;obtain⟨⟨⟨H,a⟩,z⟩,J⟩:=h;split
   . rename_i r u
     have l:r.nm=x:=by have:=agf u;exact eq_of_beq this
     obtain⟨T,id,R⟩:=r.ok g.rm;rw[l]at R;cases B with
     |nil=>exact KG R (A o) (baseOk H) (by simpa using z)
     |cons f C =>
       rw[Bw,H_]at a;refine Oi R (A o) (fj A _) (baseOk H) ?_ (by simpa using z) (bj a.1) (gz a.2);rw[xH (by rw[Bw,a.1,a.2];rfl)];have M:decide ((f::C).length+([]:List UD).length+(if([]:List UD).isEmpty then 0 else 1)<30)=true:=by simp at J ⊢;omega
       rw[M];rfl
   . exact bN
 . exact bN
noncomputable def xJ (c:Cs)(x:Str):Option Nat:=match c.sc.names.lookup x with
 |some .local=>iT c.N x|some .cell=>if c.all||c.own.elem x then iT c.N x else none|_=>none
noncomputable def GP (f:Expr->FG):List Expr->ql
 | []=>eZ|e::c=>aY (f e) (GP f c)
noncomputable def IM (c:Cs)(E:Expr->FE)(e:Expr):FG:=match nV e with
 |some x=>(match xJ c x with|some i=>gN i|none=>sG)
 |none=>match sV e with
  |some q=>if vJ q.2 then sG else dC (E q.1) (E q.2)|none=>sG
noncomputable def lC (c:Cs)(E:Expr->FE):Nat->Expr->FG
 | 0,e=>IM c E e
 |n+1,e=>match tV e with
  |some g=>if g.any isStar then sG else gT g.length (GP (lC c E n) g)|none=>IM c E e
def t6 {m:G0}{c:Cs}(g:Gd m c X)(h:xJ c x=some n):X.N[n]? = some x/\EB X.env.scope x/\(X.fn x=true\/X.env.scope.names.lookup x=some .local):=by
 unfold xJ at h;rw[g.hN,g.hs];split at h
 . rename_i e;exact⟨et h,.inl e,.inr e⟩
 . rename_i e
   split at h
   . rename_i a
     rw[yN]at a;exact⟨et h,.inr e,.inl (a.elim (λa=>g.al a x) λa=>g.ow x (H9.mp a))⟩
   . cases h
 . cases h
def Gd.oR {m:G0}{c:Cs}(g:Gd m c X):X.N.Nodup:=by rw[g.hN];exact g.nd
def qO (h:isStar e=false):AR (e::B) T=(false,Hq e T)::AR B T:=by cases e<;>first|rfl|cases h
def Ab (h:B.any isStar=false):(AR B T).length=B.length/\(AR B T).findIdx? (·.1)=none:=by
 induction B with
 |nil=>exact⟨rfl,rfl⟩
 |cons e B c =>
  rw[Bw,H_]at h;obtain⟨a,b⟩:=c h.2;rw[qO h.1];exact⟨by simp[a],by rw[List.findIdx?_cons,b];rfl⟩
def La (h:vJ i=false):∀v,Hq (.Subscript e i j) T v=(do
  let c <- HQ [v] (eval e T);let iv <- HQ [v,c] (eval i T)
  Zg j
  HQ [v,c,iv] (ahi c iv v)
  release [v,c,iv] []):=by
 intro v;cases i<;>first|rfl|cases h
def Eg {m:G0}{c:Cs}(g:Gd m c X)(l:∀e,DE X e (E e))(e:Expr):DG X e (IM c E e):=by
 unfold IM;split
 . rename_i x f
   obtain⟨p,rfl⟩:=jC f;split
   . rename_i i h;obtain⟨a,b,d⟩:=t6 g h;exact J6 g.oR a b d
   . exact pO
 . split
   . rename_i q j
     obtain⟨p,rfl⟩:=BL j;split
     . exact pO
     . rename_i h;exact KD g.hu (l _) (l _) (La (by simpa using h))
   . exact pO
def mC {m:G0}{c:Cs}(g:Gd m c X)(i:∀e,DE X e (E e)):∀(n:Nat) (e:Expr),DG X e (lC c E n e):=by
 intro n;induction n with
 |zero=>exact Eg g i
 |succ n p =>
  intro e;show DG X e (match tV e with|some a=>_|none=>_);split
  . rename_i a q
    obtain⟨u,f,rfl⟩:=BM q;split
    . exact pO
    . rename_i b
      have b:a.any isStar=false:=by simpa using b
      have d:∀a:List Expr,a.any isStar=false->Df X a (GP (lC c E n) a):=λa=>by
       induction a with
       |nil=>exact λ_=>J7
       |cons e a r =>
        intro h;rw[Bw,H_]at h;exact F9 (p e) (r h.2) (by rw[qO h.1];rfl)
      have d:=d a b;exact NC g.cm d (Ab b).1 (Ab b).2
  . exact Eg g i e
noncomputable def Eh (m:G0)(P:Pk)(c:Cs)(E:Expr->FE)(h:Expr)(a:Expr):FI:=match cV a with
 |some (x,g)=>if c.sc.names.lookup x=some .globalImplicit then(match P.it.find? (λr=>r.nm == x)with
  |some r=>if m.jK.elem x && !(g.any isStar)&&(!r.tup||mB h)then r.f E g else xF|none=>dg (E a))else dg (E a)
 |none=>dg (E a)
def oS {m:G0}{c:Cs}(P:Pk)(g:Gd m c X)(o:∀q,DE X q (E q)):DI X e y (Eh m P c E e y):=by
 unfold Eh;split
 . rename_i x u f
   obtain⟨p,pos,rfl⟩:=vK f;split
   . rename_i b
     split
     . rename_i r n
       have j:r.nm=x:=by have:=agf n;exact eq_of_beq this
       split
       . rename_i h
         simp only[mS,yN,yA,beq_iff_eq]at h;obtain⟨⟨d,l⟩,a⟩:=h;have i:x∈m.jK:=H9.mp d;subst j;exact r.ok g.rm g.cm (g.bl _ i) (g.gl b) o l (λz=>by rcases a with a|a;(rw[z]at a;cases a);exact a)
       . exact zZ
     . exact wR (o _)
   . exact wR (o _)
 . exact wR (o _)
noncomputable def xK (e:Expr):Bool:=HI e.ctorIdx 21
def xM (h:xK e=true):isStar e=false:=by cases e<;>first|rfl|cases h
def GQ (h:mB e=true):∃c k p,e = .Tuple c k p:=by
 cases e with
 |Tuple c k p=>exact⟨_,_,_,rfl⟩|_=>cases h
noncomputable def GR (m:G0)(c:Cs)(g a:Expr):Option (Expr×Expr):=(cV a).bind λq=>(two q.2).bind λr=>if q.1 == "zip" && mB g&&xK r.1&&xK r.2&&decide (c.sc.names.lookup q.1=some .globalImplicit)&&m.jK.elem q.1 then some r else none
def Lb {m:G0}{c:Cs}(g:Gd m c X)(z:∀a,DE X a (E a)){b:Expr}(h:GR m c e y=some (i,b)):qm X e y (pM (E i) (E b)):=by
 obtain⟨⟨x,I⟩,q,j⟩:=bind_some h;obtain⟨⟨u,s⟩,B,d⟩:=bind_some j;obtain⟨p,pos,rfl⟩:=vK q;obtain rfl:=sJ B;dsimp only at d;split at d
 . rename_i f
   simp only[mS,beq_iff_eq,decide_eq_true_eq]at f;obtain⟨⟨⟨⟨⟨rfl,n⟩,C⟩,o⟩,l⟩,r⟩:=f;cases d;obtain⟨elts,J,v,rfl⟩:=GQ n;have H:=xM C;have nb:=xM o;exact K0 (g.gl l) (g.bl _ (H9.mp r)) (z i) (z b) (bj H) (bj nb) (gz (by simp[nb]))
 . cases d
noncomputable def OO (sc:Scope)(S:Scope):Scope:={ sc with names:=sc.names.map λ(n,k)=>if(k == .free&&S.kind == .function&&S.names.lookup n == some .cell)then(n,.cell)else(n,k) }
noncomputable def uU:List Str->Bool
 | []=>true|x::r=>!(r.elem x)&&uU r
theorem oT:∀{l:List Str},uU l=true->l.Nodup
 | [],_=>TF|x::r,h=>by simp only[uU,mS,yA]at h;exact Dy.mpr (And.intro (λz=>(by rw[H9.mpr z]at h;exact absurd h.1 (by simp))) (oT h.2))
noncomputable def lM (sc:Scope):List Str:=(sc.names.filter λy=>y.2 == .local||y.2 == .cell).map (·.1)
noncomputable def Sa (sc:Scope):List Str:=(sc.names.filter λy=>y.2 == .cell).map (·.1)
noncomputable def jD (sc:Scope):List Str:=(sc.names.filter λy=>y.2 == .free).map (·.1)
noncomputable def dG (c:Cs)(sc:Scope):Cs:=⟨lM sc++jD sc,OO sc c.sc,false,c.mt,Sa sc,none⟩
noncomputable def qP (c:Cs)(sc:Scope):List (Option Nat):=(lM sc).map (λ_=>none)++(jD sc).map (λx=>iT c.N x)
noncomputable def BP (c:Cs)(sc:Scope):Bool:=tJ c.sc c.N (lM sc++jD sc) (qP c sc) sc&&uU (lM sc++jD sc)
noncomputable def xN (T:Expr->FT):List Expr->FT
 | []=>cN| [t]=>T t|_=>kP
noncomputable def OP (c:Cs):Expr->Bool
 |.Name x _=>c.mt.elem x|_=>false
noncomputable def Ei (c:Cs):Expr->Bool
 |.Name x _=>c.mt.elem (vx "*" ++ x)|_=>false
noncomputable def vO (m:G0)(P:Pk)(c:Cs)(a:Bool)(E:Cs->Expr->FE)(T:Cs->Expr->FT)(g:Expr)(n:List Y8)(sc:Scope):FE:=match gV n with
 |some (i,it,h)=>if BP c sc && !(isSet it)then
  (if Ei c it then gY (if a then gJ else bA) (tR (E c it)) (qP c sc) (lC (dG c sc) (E (dG c sc)) 3 i) (xN (T (dG c sc)) h) (E (dG c sc) g)
  else if OP c it then mh (if a then gJ else bA) (Gw (E c it)) (qP c sc) (lC (dG c sc) (E (dG c sc)) 3 i) (xN (T (dG c sc)) h) (E (dG c sc) g)
  else bH (if a then gJ else bA) (Eh m P c (E c) i it) (qP c sc) (lC (dG c sc) (E (dG c sc)) 3 i) (xN (T (dG c sc)) h) (E (dG c sc) g))else bM
 |none=>bM
def Gd.comp {m:G0}{c:Cs}(g:Gd m c X)(h:uU (lM J++jD J)=true){C:Addr}{s3:my}{fp:List Addr}{cv:List (Addr×Obj)}:Gd m (dG c J) (aN X (lM J++jD J) J C s3 H fp cv) where
 hN:=rfl
 hs:=by show WJ J X.env=OO J c.sc;rw[<- g.hs];rfl
 nd:=oT h
 xe:=rfl
 cm:=g.cm
 rm:=g.rm
 al:=λz=>by cases z
 ow:=λx o=>by
  show(J.names.any λy=>y.1 == x&&y.2 == .cell)=true
  obtain⟨y,j,e⟩:=nP.mp (show x∈(J.names.filter λy=>y.2 == .cell).map (·.1) from o)
  rw[EZ]at j;rw[aeC];exact⟨y,j.1,by rw[e,j.2];simp⟩
 fn:=λx i n hm=>by obtain⟨f,fd,p,a,b,d,e,l⟩:=g.fn x i n hm;exact⟨f,fd,p,a,b,d,e,l⟩
 bl:=g.bl
 cn:=g.cn
 dc:=g.dc
 lf:=g.lf
 ll:=g.ll
 lh:=λ_ _ _ h=>nomatch h
def OQ (a:∀e,DT X e (m e)):∀c:List Expr,fD X c (xN m c)
 | []=>Gh| [t]=>Gi (a t)|_::_::_=>.of (λg s i H Q I h=>by obtain⟨_,_,_,_,_,_,_,h,_⟩:=h;cases h)
def Ac {m:G0}{c:Cs}(g:Gd m c X){E:Cs->Expr->FE}{T:Cs->Expr->FT}(b:∀c X,Gd m c X->∀e,DE X e (E c e))(d:∀c X,Gd m c X->∀e,DT X e (T c e))(h:BP c J=true){tg elt:Expr}{ifs:List Expr}:
  dB X (lM J++jD J) (qP c J) J /\ ∀C s3 H fp cv,DG (aN X (lM J++jD J) J C s3 H fp cv) tg (lC (dG c J) (E (dG c J)) 3 tg) /\
   fD (aN X (lM J++jD J) J C s3 H fp cv) ifs (xN (T (dG c J)) ifs)/\DE (aN X (lM J++jD J) J C s3 H fp cv) elt (E (dG c J) elt):=by
 simp only[BP,mS]at h;refine⟨Dz g.hs g.hN h.1,λC s3 H fp cv=>?_⟩;have a:=g.comp h.2 (C:=C) (s3:=s3) (H:=H) (fp:=fp) (cv:=cv);exact⟨mC a (b _ _ a) 3 tg,OQ (d _ _ a) ifs,b _ _ a elt⟩
def Ej {d:iu}(r:X.xe=λ_ _=>False)(h:X.calm=true)(ok:dB X K u J)(a:Iy X e y d)(g:∀c n H p q,DG (aN X K J c n H p q) e o/\fD (aN X K J c n H p q) B Y/\DE (aN X K J c n H p q) i C)(f:∀x,zg y X.env x=pure x):DE X (.ListComp i [⟨e,y,B,0⟩] J j) (mh gJ d u o Y C):=by
 rw[w8];exact oz r h ok (zK a) g f
def Ek {d:iu}(r:X.xe=λ_ _=>False)(h:X.calm=true)(ok:dB X K u J)(a:zR X e y d)(g:∀c n H p q,DG (aN X K J c n H p q) e o/\fD (aN X K J c n H p q) B Y/\DE (aN X K J c n H p q) i C)(f:∀x,zg y X.env x=pure x):DE X (.ListComp i [⟨e,y,B,0⟩] J j) (gY gJ d u o Y C):=by
 rw[ng];exact oz r h ok (pK a) g f
def xO {m:G0}{c:Cs}(P:Pk)(g:Gd m c X){E:Cs->Expr->FE}{T:Cs->Expr->FT}(d:∀c X,Gd m c X->∀e,DE X e (E c e))(i:∀c X,Gd m c X->∀e,DT X e (T c e)){elt:Expr}:
   DE X (.ListComp elt Q J j) (vO m P c Z E T elt Q J):=by
 unfold vO;split
 . rename_i tg it ifs b
   obtain rfl:=IK b;split
   . rename_i h
     simp only[mS,yA]at h;obtain⟨ok,a⟩:=Ac g d i h.1 (tg:=tg) (elt:=elt) (ifs:=ifs);split
     . cases Z
       . exact GB g.xe g.cm ok (pJ (d c X g it)) a (hU h.2)
       . exact Ek g.xe g.cm ok (pJ (d c X g it)) a (hU h.2)
     split
     . cases Z
       . exact Gx g.xe g.cm ok (zJ (d c X g it)) a (hU h.2)
       . exact Ej g.xe g.cm ok (zJ (d c X g it)) a (hU h.2)
     . cases Z
       . exact Ka g.xe g.cm ok (oS P g (d c X g)) a (hU h.2)
       . exact Gy g.xe g.cm ok (oS P g (d c X g)) a (hU h.2)
   . exact bN
 . exact bN
noncomputable def baR (T:Expr->FT)(op:BoolOp):List Expr->FT
 | []=>kP| [a]=>T a
 |a::b::r=>match op with
  |.And=>iM (T a) (baR T .And (b::r))|.Or=>wB (T a) (baR T .Or (b::r))
noncomputable def xE (P:Pk)(m:G0)(c:Cs)(E:Expr->FE)(a:Bool)(e:Expr):Option FE:=P.xr.findSome? λr=>r.e m c E a e
noncomputable def xT (P:Pk)(m:G0)(c:Cs)(E:Expr->FE)(e:Expr):Option FT:=P.xr.findSome? λr=>r.t m c E e
noncomputable def Sb (m:G0)(P:Pk)(E:Cs->Bool->Expr->FE)(T:Cs->Expr->FT)(c:Cs)(d:Bool):Expr->FE
 |.Constant v _ _=>Ed v|.Name x _=>eName m c x|.BinOp a op b _=>OM op d (R9 a) (E c false a) (E c false b)|.UnaryOp op a _=>UB op (E c false a)|.BoolOp op g _=>bE (E c false) (g.dropLast.any R_) op g|.IfExp t a b _=>tF (T c t) (E c d a) (E c d b)|.Compare l h rs _=>tZ (E c false) l h rs|.Tuple i _ _=>aJ aB (aE (E c false) i)|.List i _=>aJ (if d then mkRef else dP) (aE (E c false) i)|.Dict n g _=>if n.isEmpty&&g.isEmpty then(if d then j7 else fC .dI)else bM|.Subscript v s _=>GL (E c false) v s|.Call f q n pos=>if n.isEmpty then BO m P c d (E c false) f q pos else bM|.ListComp p r sc _=>vO m P c d (λc e=>E c false e) T p r sc|_=>bM
noncomputable def Sd (m:G0)(P:Pk)(E:Cs->Bool->Expr->FE)(T:Cs->Expr->FT)(c:Cs):Expr->FT
 |.Compare l g rs _=>ay (tZ (E c false) l g rs)|.UnaryOp op a q=>match op with|.Not=>Bf (T c a)|op=>if ny (.UnaryOp op a q)then ia (E c false (.UnaryOp op a q))else kP
 |.BoolOp op h _=>baR (T c) op h|e=>if ny e then ia (E c false e)else kP
noncomputable def BQ (m:G0)(P:Pk)(E:Cs->Bool->Expr->FE)(T:Cs->Expr->FT)(c:Cs)(a:Bool)(e:Expr):FE:=match xE P m c (E c false) a e with
 |some f=>f|none=>Sb m P E T c a e
noncomputable def baD (m:G0)(P:Pk)(E:Cs->Bool->Expr->FE)(T:Cs->Expr->FT)(c:Cs)(e:Expr):FT:=match xT P m c (E c false) e with
 |some f=>f|none=>Sd m P E T c e
noncomputable def iv (m:G0)(P:Pk):Nat->(Cs->Bool->Expr->FE)×(Cs->Expr->FT)
 | 0=>(λ_ _ _=>bM,λ_ _=>kP)|n+1=>(BQ m P (iv m P n).1 (iv m P n).2,baD m P (iv m P n).1 (iv m P n).2)
theorem kQ {i j:Type}{f:i->Option j}:∀{l:List i} {b:j},l.findSome? f=some b->∃a∈l,f a=some b
 | [],_,h=>by cases h
 |a::l,b,h=>by
  rw[List.findSome?_cons]at h;cases g:f a with
  |none=>rw[g]at h;obtain⟨x,d,e⟩:=kQ h;exact⟨x,p8 _ d,e⟩
  |some c=>rw[g]at h;cases h;exact⟨a,sv,g⟩
def Se (c:∀e,DT X e (m e)){op:BoolOp}:∀g:List Expr,DT X (.BoolOp op g j) (baR m op g):=by
 have w:∀g:List Expr,g ≠ []->DW X (.BoolOp op g j) (baR m op g):=λg=>by
  induction g with
  |nil=>intro h;exact absurd rfl h
  |cons a r i =>
   intro _;cases r with
   |nil=>cases op;exact J0 (c a);exact Nt (c a)
   |cons b r =>
    have:=i (by simp);cases op
    . exact Nu (c a) this
    . exact RB (c a) this
 intro g;cases g with
 |nil=>exact tX|cons a r=>exact(w (a::r) (by simp)).dt
theorem BR (m:G0)(P:Pk):∀n:Nat,(∀c X,Gd m c X->∀rf e,DE X e ((iv m P n).1 c rf e))/\(∀c X,Gd m c X->∀e,DT X e ((iv m P n).2 c e))
 | 0=>⟨λ_ _ _ _ _=>bN,λ_ _ _ _=>tX⟩
 |n+1=>by
  obtain⟨d,i⟩:=BR m P n;refine⟨λc X g rf e=>?_,λc X g e=>?_⟩
  . show DE X e (BQ m P (iv m P n).1 (iv m P n).2 c rf e)
    unfold BQ;split
    . rename_i f hf
      obtain⟨r,_,h⟩:=kQ hf;exact r.uT g (d c X g false) h
    have b:=d c X g false;cases e with
    |Constant=>exact Ee|Name=>exact GN g|BinOp=>exact K7 (b _) (b _)|UnaryOp=>exact ON (b _)|BoolOp=>exact IL b _|IfExp=>exact Nx (i c X g _) (d c X g rf _) (d c X g rf _)|Compare=>exact K8 g.hu b|Tuple=>exact Dd (fj b _)
    |List=>cases rf with
      |false=>exact De (fj b _)|true=>exact wC (fj b _)
    |Dict p u _=>cases p with
      |cons=>exact bN
      |nil=>cases u with
        |cons=>exact bN
        |nil=>cases rf with
         |false=>exact Gn|true=>exact KH
    |Subscript=>exact K_ g.hu b
    |Call f v p pos=>cases p with
      |nil=>exact GO P g b|cons=>exact bN
    |ListComp=>exact xO P g (λc X g e=>d c X g false e) i|_=>exact bN
  . show DT X e (baD m P (iv m P n).1 (iv m P n).2 c e)
    unfold baD;split
    . rename_i f hf
      obtain⟨r,_,h⟩:=kQ hf;exact r.tok g (d c X g false) h
    have j:∀e,DT X e (if ny e then ia ((iv m P n).1 c false e)else kP):=λe=>by
      split
      . rename_i h;exact Nr (d c X g false _) (plainT h)
      . exact tX
    cases e with
    |Compare=>exact K9 g.hu (d c X g false)
    |UnaryOp op a q=>cases op with
      |Not=>exact Nv (i c X g _)|_=>exact j _
    |BoolOp=>exact Se (i c X g) _|_=>exact j _
noncomputable def IP (f:Stmt->FS):List Stmt->FS
 | []=>a_| [s]=>f s|s::t::r=>aw (f s) (IP f (t::r))
noncomputable def BS (S:Scope):Bool:=(if S.kind.isAnnotationScope then afq else S.kind)== .function
noncomputable def BU (S:Scope)(x:Str)(c p:Pos)(sc:Scope):Bool:=BS S&&S.names.lookup x == some .local&&c.line == p.line && !(sc.names.any λ(n,k)=>n == x&&(k == .local||k == .cell))
noncomputable def Ic:Expr->Option Str
 |.Constant v _ _=>match v with|.str k=>some k|_=>none
 |_=>none
noncomputable def El (a:List Str):Expr->Bool
 |e=>((nV e).map λx=>a.elem x).getD (((sV e).bind λq=>(Ic q.2).map λk=>a.elem (vx "=" ++ k)).getD false)
noncomputable def aZ (E:Bool->Expr->FE)(a:List Str):List Expr->List Expr->FA
 |_,[]=>af| [],v::c=>if isStar v then sF else ae (E false v) (aZ E a [] c)|t::g,v::c=>if isStar v then sF else ae (E (El a t) v) (aZ E a g c)
noncomputable def IQ (m:G0)(P:Pk)(c:Cs)(a:Bool)(E:Cs->Expr->FE)(T:Cs->Expr->FT)(g:Expr)(n:List Y8)(sc:Scope):FE:=match gV n with
 |some (i,it,h)=>if BP c sc && !(isSet it)then
  (if Ei c it then gY (if a then gJ else bA) (tR (E c it)) (qP c sc) (lC (dG c sc) (E (dG c sc)) 3 i) (xN (T (dG c sc)) h) (E (dG c sc) g)
  else bH (if a then gJ else bA) (Eh m P c (E c) i it) (qP c sc) (lC (dG c sc) (E (dG c sc)) 3 i) (xN (T (dG c sc)) h) (E (dG c sc) g))else bM
 |none=>bM
noncomputable def qu (S:Scope)(a:List Expr):List Str:=a.filterMap fun
 |.Name id pos=>if S.names.lookup id == some .local&&pos.line == (a.head?.map (·.pos.line)).getD 0 then some id else none|_=>none
noncomputable def OR (S:Scope)(a c:List Expr):Option Bool :=
 if !(a.length == 2||a.length == 3)||c.length != a.length || !(BS S)then some false
 else if(qu S a).length != a.length||(qu S a).eraseDups.length != (qu S a).length then some false
 else if c.all (foldedForSure 8)then some false
 else if c.all (constantsAlone 8)then none
 else some true
noncomputable def three {d:Type}:List d->Option (d×d×d)
 | [a,b,c]=>some (a,b,c)|_=>none
def xP {d:Type}{l:List d}{a b c:d}(h:three l=some (a,b,c)):l = [a,b,c]:=by
 match l,h with
 | [_,_,_],h=>cases h;rfl
noncomputable def mD (c:Cs)(x:Str):Bool:=c.sc.names.lookup x == some .local
noncomputable def UE:Expr->Option (Expr×List Y8×Scope×Pos)
 |.ListComp c g sc p=>some (c,g,sc,p)|_=>none
def OS (h:UE e=some (y,Q,J,j)):e = .ListComp y Q J j:=by
 cases e with
 |ListComp=>cases h;rfl|_=>exact nn h
noncomputable def GS (m:G0)(P:Pk)(E:Cs->Bool->Expr->FE)(T:Cs->Expr->FT)(c:Cs)(g v:Expr):FS:=match Aa g with
 |some (x,H)=>(match xJ c x with
  |some i=>(match UE v with
   |some (q,B,sc,p)=>aF (if BU c.sc x H p sc then IQ m P c (c.mt.elem x) (λc e=>E c false e) T q B sc else vO m P c (c.mt.elem x) (λc e=>E c false e) T q B sc) (gN i)|none=>if oP v then b9 else aF (E c (c.mt.elem x) v) (gN i))
  |none=>b9)
 |none=>match sV g with
  |some _=>aF (E c (El c.mt g) v) (lC c (E c false) 3 g)
  |none=>match tV v with
   |some n=>(match tV g with
    |some h=>if n.any isStar then b9 else(match OR c.sc h n with
     |some r=>if r then(match two h,two n with
      |some C,some _=>(match nV C.1,nV C.2 with
       |some x,some y=>(match iT c.N x,iT c.N y with|some i,some j=>if qu c.sc h == [x,y]&&mD c x&&mD c y && !(i == j)then oC i j (aZ (E c) c.mt h n)else b9|_,_=>b9)
       |_,_=>b9)
      |_,_=>(match three h,three n with
       |some u,some _=>(match nV u.1,nV u.2.1,nV u.2.2 with
        |some x,some y,some z=>(match iT c.N x,iT c.N y,iT c.N z with|some i,some j,some k=>if qu c.sc h == [x,y,z]&&mD c x&&mD c y&&mD c z && !(i == j) && !(i == k) && !(j == k)then By i j k (aZ (E c) c.mt h n)else b9|_,_,_=>b9)
        |_,_,_=>b9)
       |_,_=>b9))else aF (aJ aB (aZ (E c) c.mt h n)) (lC c (E c false) 3 g)
     |none=>b9)
    |none=>b9)
   |none=>if oP v||mB v||isStar g then b9 else aF (E c false v) (lC c (E c false) 3 g)
noncomputable def GU (c:Cs)(E:Expr->FE)(g:Expr)(op:U1)(v:Expr):FS:=match(nV g).bind λx=>xJ c x with
 |some i=>(match op with|.Add=>qL i (λi j=>i+j) (E v)|.Sub=>qL i (λi j=>i-j) (E v)|_=>b9)
 |none=>b9
noncomputable def OT (m:G0)(P:Pk)(W:Nat)(d:Bool)(E:Cs->Bool->Expr->FE)(T:Cs->Expr->FT)(B:List Stmt->FS)(c:Cs):Stmt->FS
 |.Return v _=>(match v with|some e=>aP (E c d e)|none=>b9)
 |.If t a b _=>cA (T c t) (B a) (B b)|.Assign h v _=>(match h with|g::r=>if r.isEmpty then GS m P E T c g v else b9| []=>b9)
 |.AugAssign g op v _=>GU c (E c false) g op v|.For g it body i _=>if isSet it || !i.isEmpty then b9 else(match GR m c g it with|some q=>mY (pM (E c false q.1) (E c false q.2)) (lC c (E c false) 3 g) (B body)|none=>dF (Eh m P c (E c false) g it) (lC c (E c false) 3 g) (B body))
 |.While t body [] _=>zm W (T c t) (B body)|.Pass _=>a_|.Expr e _=>if(Ic e).isSome then a_ else if oP e then b9 else dw (E c false e)|_=>b9
noncomputable def sS (m:G0)(P:Pk)(W:Nat)(a:Bool)(E:Cs->Bool->Expr->FE)(T:Cs->Expr->FT)(c:Cs):Nat->Stmt->FS
 | 0,_=>b9|n+1,s=>OT m P W a E T (IP (sS m P W a E T c n)) c s
noncomputable def body (m:G0)(P:Pk)(W:Nat)(a:Bool)(c:Cs)(b:List Stmt):FS:=IP (sS m P W a (iv m P 30).1 (iv m P 30).2 c 12) b
theorem xQ {f:Stmt->FS}(h:∀s,DS X s (f s)):∀c:List Stmt,lY X c (IP f c)
 | []=>J2| [s]=>J3 (h s)|s::t::r=>F8 (h s) (xQ h (t::r))
theorem sM {E:Bool->Expr->FE}{b:List Str}(a:∀rf e,DE X e (E rf e)):∀(g c:List Expr),DA X c (aZ E b g c)
 |_,[]=>by cases ‹List Expr›<;>exact C_
 | [],v::c=>by
  unfold aZ;split
  . exact tY
  . rename_i h;exact tG (a _ v) (sM a [] c) (bj (by simpa using h))
 |t::g,v::c=>by
  unfold aZ;split
  . exact tY
  . rename_i h;exact tG (a _ v) (sM a g c) (bj (by simpa using h))
def Ae {m:G0}{c:Cs}(g:Gd m c X){elt:Expr}{gs:List Y8}{sc:Scope}{p px:Pos}{l:Nat}:M5 (.ListComp elt gs sc p) (some (.Name x px)) l X.env=pure (BU c.sc x px p sc):=by rw[<- g.hs];rfl
def swT {m:G0}{c:Cs}{p:List Expr}{kt k2:Nat}{pt pt2:Pos}(g:Gd m c X)(n:p.any isStar=false)(h:OR c.sc B p=some Z):Ql [.Tuple B kt pt] (.Tuple p k2 pt2) X.env=pure (if Z then some (qu c.sc B)else none):=by
 have i:(p.any fun|.Starred ..=>true|_=>false)=false:=by
   have:(λ(e:Expr)=>match e with|.Starred ..=>true|_=>false)=isStar:=by funext e;cases e<;>rfl
   rw[this];exact n
 have d:(X.env.blockKind != afq)= !(BS c.sc):=by rw[<- g.hs];rfl
 unfold OR at h;show(if(!(B.length == 2||B.length == 3)||p.length != B.length||X.env.blockKind != afq)=true then pure none else if(p.any fun|.Starred ..=>true|_=>false)=true then pure none else
   if((qu X.env.scope B).length != B.length||(qu X.env.scope B).eraseDups.length != (qu X.env.scope B).length)=true then pure none else if p.all (foldedForSure 8)=true then pure none else if p.all (constantsAlone 8)=true then _ else pure (some (qu X.env.scope B)))=_
 rw[d,i,g.hs];split at h
 . rename_i b;cases h;rw[if_pos b];rfl
 rename_i b;rw[if_neg b,if_neg (by simp)];split at h
 . rename_i f;cases h;rw[if_pos f];rfl
 rename_i f;rw[if_neg f];split at h
 . rename_i a;cases h;rw[if_pos a];rfl
 rename_i a;rw[if_neg a];split at h
 . cases h
 rename_i j;cases h;rw[if_neg j];rfl
def IS:DS X a (aF bM o):=.of (λc a g H Q I h=>by obtain⟨_,_,_,_,_,_,_,_,h,_⟩:=h;cases h)
def WO (h:mB y=false):Ql [e] y T=pure none:=by
 cases e with
 |Tuple c g p=>cases y<;>first|rfl|cases h
 |List c p=>cases y<;>first|rfl|cases h
 |_=>rfl
def Af (h:isStar e=false):(AR [e] T).map (·.2)= [Hq e T]:=by rw[qO h];rfl
def GV:UT [.Subscript e i j] y n T=pure false:=by cases y<;>rfl
def OW:Ql [.Subscript e i j] y T=pure none:=by cases y<;>rfl
def Lc {m:G0}{c:Cs}(P:Pk)(g:Gd m c X){E:Cs->Bool->Expr->FE}{T:Cs->Expr->FT}(A:∀c X,Gd m c X->∀rf v,DE X v (E c rf v))(B:∀c X,Gd m c X->∀v,DT X v (T c v)){tg:Expr}{p:Pos}:DS X (.Assign [tg] e p) (GS m P E T c tg e):=by
 have o:∀{x:Str},mD c x=true->X.env.scope.names.lookup x=some .local:=fun {x} h=>by rw[g.hs];exact eq_of_beq h
 unfold GS;split
 . rename_i x px s
   obtain rfl:=sH s;split
   . rename_i i n
     obtain⟨a,b,d⟩:=t6 g n;split
     . rename_i elt gs sc q f
       obtain rfl:=OS f;split
       . rename_i H
         unfold IQ;split
         . rename_i tg it ifs hg
           obtain rfl:=IK hg;split
           . rename_i h
             simp only[mS,yA]at h;obtain⟨ok,C⟩:=Ac g (λc X g v=>A c X g false v) B h.1 (tg:=tg) (elt:=elt) (ifs:=ifs);have hs:=(Ae g (elt:=elt) (gs:=[⟨tg,it,ifs,0⟩]) (sc:=sc) (p:=q) (px:=px) (x:=x) (l:=p.line)).trans (by rw[H]);split
             . cases c.mt.elem x
               . exact xm g.xe g.cm ok (pJ (A c X g false it)) C g.oR a b hs (hU h.2) d
               . exact xn g.xe g.cm ok (pJ (A c X g false it)) C g.oR a b hs (hU h.2) d
             cases c.mt.elem x
             . exact Bl g.xe g.cm ok (oS P g (A c X g false)) C g.oR a b hs (hU h.2) d
             . exact yH g.xe g.cm ok (oS P g (A c X g false)) C g.oR a b hs (hU h.2) d
           . exact IS
         . exact IS
       . rename_i H
         exact Dg g.oR a b (xO P g (λc X g v=>A c X g false v) B) ((Ae g).trans (by rw[show BU c.sc x px q sc=false by simpa using H])) d
     . split
       . exact bT
       . rename_i h
         exact Dg g.oR a b (A c X g _ _) (xG (by simpa using h)) d
   . exact bT
 . split
   . rename_i q hq
     obtain⟨_,rfl⟩:=BL hq;exact wD (A c X g _ _) (mC g (A c X g false) 3 _) GV OW (Af rfl)
   . split
     . rename_i I f
       obtain⟨k2,pt2,rfl⟩:=BM f;split
       . rename_i ts ht
         obtain⟨kt,pt,rfl⟩:=BM ht;split
         . exact bT
         rename_i f;have f:I.any isStar=false:=by simpa using f
         have J:∀l,UT [.Tuple ts kt pt] (.Tuple I k2 pt2) l X.env=pure false:=λ_=>rfl;split
         . rename_i r hp
           have M:=swT (kt:=kt) (k2:=k2) (pt:=pt) (pt2:=pt2) g f hp;cases r with
           |false=>exact wD (Dd (sM (A c X g) ts I)) (mC g (A c X g false) 3 _) (J _) M rfl
           |true =>
             rw[if_pos rfl];split
             . rename_i xy O Q R
               split
               . rename_i x y s U
                 split
                 . rename_i i j n Y
                   split
                   . rename_i h
                     simp only[mS,yA,beq_iff_eq]at h;obtain⟨⟨⟨h1,h2⟩,Z⟩,h4⟩:=h;obtain⟨ex,ey⟩:=xy;obtain⟨a,b⟩:=O;obtain rfl:=sJ Q;obtain rfl:=sJ R;obtain⟨px,rfl⟩:=jC s;obtain⟨py,rfl⟩:=jC U;exact N9 g.cm g.oR (by rw[g.hN];exact et n) (by rw[g.hN];exact et Y) (by simpa using h4) (o h2) (o Z) (sM (A c X g) _ _) (M.trans (by rw[if_pos rfl,h1])) (J _)
                   . exact bT
                 . exact bT
               . exact bT
             . split
               . rename_i u O Q R
                 split
                 . rename_i x y z s U hz
                   split
                   . rename_i i j k n Y hk
                     split
                     . rename_i h
                       simp only[mS,yA,beq_iff_eq]at h;obtain⟨⟨⟨⟨⟨⟨h1,h2⟩,Z⟩,h4⟩,h5⟩,h6⟩,h7⟩:=h;obtain⟨ex,ey,ez⟩:=u;obtain⟨a,b,d⟩:=O;obtain rfl:=xP Q;obtain rfl:=xP R;obtain⟨px,rfl⟩:=jC s;obtain⟨py,rfl⟩:=jC U;obtain⟨pz,rfl⟩:=jC hz;exact Ky g.cm g.oR (by rw[g.hN];exact et n) (by rw[g.hN];exact et Y) (by rw[g.hN];exact et hk) (by simpa using h5) (by simpa using h6) (by simpa using h7) (o h2) (o Z) (o h4) (sM (A c X g) _ _) (M.trans (by rw[if_pos rfl,h1])) (J _)
                     . exact bT
                   . exact bT
                 . exact bT
               . exact bT
         . exact bT
       . exact bT
     . split
       . exact bT
       rename_i h;simp only[yN,not_or,TZ]at h;exact wD (A c X g false _) (mC g (A c X g false) 3 _) (xG h.1.1) (WO h.1.2) (Af h.2)
def Ld {m:G0}{c:Cs}(g:Gd m c X)(n:∀v,DE X v (E v)):DS X (.AugAssign e k y j) (GU c E e k y):=by
 unfold GU;split
 . rename_i i h
   obtain⟨x,f,p⟩:=bind_some h;obtain⟨l,rfl⟩:=jC f;obtain⟨a,b,d⟩:=t6 g p;cases k with
   |Add=>exact DH g.oR a b Ms (n _) d|Sub=>exact DH g.oR a b Mt (n _) d|_=>exact bT
 . exact bT
def OY (h:(Ic e).isSome=true):∃s k p,e = .Constant (.str s) k p:=by
 cases e with
 |Constant v k p=>cases v with
  |str s=>exact⟨s,k,p,rfl⟩|_=>cases h
 |_=>cases h
def Le {m:G0}{c:Cs}(P:Pk)(g:Gd m c X){E:Cs->Bool->Expr->FE}{T:Cs->Expr->FT}(f:∀c X,Gd m c X->∀rf e,DE X e (E c rf e))(j:∀c X,Gd m c X->∀e,DT X e (T c e)){B:List Stmt->FS}(i:∀b,lY X b (B b))(s:Stmt):
  DS X s (OT m P n Z E T B c s):=by
 have a:ZX (model X.prog X.w) X.A X.env X.xe:=by rw[g.xe];exact PassesOwn.never
 cases s with
 |Return v p=>cases v with
  |some e=>exact Ny (f c X g _ _)|none=>exact bT
 |If=>exact RE (j c X g _) (i _) (i _)
 |Assign y v p=>cases y with
  |nil=>exact bT
  |cons x r=>cases r with
    |nil=>exact Lc P g f j|cons=>exact bT
 |AugAssign=>exact Ld g (f c X g false)
 |For x it body u p =>
  show DS X _ (if isSet it || !u.isEmpty then b9 else(match GR m c x it with|some q=>_|none=>_));split
  . exact bT
  . rename_i h
    simp only[yN,not_or,TZ,afp]at h;cases u with
    |cons=>cases h.2
    |nil =>
      split
      . rename_i q d
        exact zt a g.cm (Lb g (f c X g false) d) (mC g (f c X g false) 3 _) (i _) (hU h.1)
      . exact NN a g.cm (oS P g (f c X g false)) (mC g (f c X g false) 3 _) (i _) (hU h.1)
 |While t body u p=>cases u with
  |nil=>exact Ga n a (j c X g _) (i _)|cons=>exact bT
 |Pass=>exact J4
 |Expr e p =>
  show DS X _ (if(Ic e).isSome then a_ else if oP e then b9 else dw (E c false e));split
  . rename_i h
    obtain⟨s,k,q,rfl⟩:=OY h;exact Nz
  . split
    . exact bT
    . rename_i h;exact J5 (f c X g false _) (xG (by simpa using h))
 |_=>exact bT
def Lf {m:G0}{c:Cs}(P:Pk)(g:Gd m c X)(d:List Stmt):lY X d (body m P n Z c d):=by
 obtain⟨a,b⟩:=BR m P 30;have:∀W s,DS X s (sS m P n Z (iv m P 30).1 (iv m P 30).2 c W s):=λW=>by
  induction W with
  |zero=>exact λ_=>bT|succ W h=>exact λs=>Le P g a b (xQ h) s
 exact xQ (this 12) d
structure bV where
 nm:Str
 ps:List Str
 N:List Str
 st:Stmt
 kp:Bool
 mt:List Str
 pu:Bool
 gn:Str
 ld:Option d7
 lam:Option (Pos×Str)
structure Mo where
 ds:List bV
 jK:List Str
 xB:List (Str×D)
 xC:List (Str×List (Str×D))
 P:Pk
 W:Nat
noncomputable def lD:Nat->List bV->List (Str×Nat×Nat)
 |_,[]=>[]|j,d::ds=>if d.ld.isSome then lD (j+1) ds else(d.gn,j,d.ps.length)::lD (j+1) ds
noncomputable def lE:Nat->List bV->List (Str×Nat)
 |_,[]=>[]|j,d::ds=>if d.ld.isSome then(d.gn,j)::lE (j+1) ds else lE (j+1) ds
noncomputable def mE (ds:List bV):List (Str×d7):=ds.filterMap λd=>d.ld.map λl=>(d.gn,l)
noncomputable def Mo.g (M:Mo)(T:Nat->Fn)(k:Nat):G0:=⟨T,k,lD 0 M.ds,M.jK,M.xB,M.xC,lE 0 M.ds⟩
noncomputable def BV (a:Bool)(f:Fn):Fn:=if a then gW f else f
noncomputable def Mo.sO (M:Mo)(d:bV):Option (Pos×Str×d7):=d.lam.bind λq=>((mE M.ds).lookup q.2).map λl=>(q.1,q.2,l)
noncomputable def bV.run (M:Mo)(d:bV)(T:Nat->Fn)(k:Nat):Fn:=match d.ld with
 |some l=>cj l.fv.length l.ps.length ((iv (M.g T k) M.P 30).1 ⟨l.fv++l.ps,l.sc,false,[],[],none⟩ false l.bd)|none=>BV d.pu (ak d.kp d.N.length d.ps.length (body (M.g T k) M.P M.W d.kp ⟨d.N,aX d.st,true,d.mt,[],M.sO d⟩ (d6 d.st)))
theorem uV:∀{ds:List bV} {j:Nat} {x:Str} {i n:Nat},(x,i,n)∈lD j ds->∃d q,i=j+q/\ds[q]? = some d/\d.ld=none/\d.gn=x/\d.ps.length=n
 | [],_,_,_,_,h=>by simp[lD]at h
 |d::ds,j,x,i,n,h=>by
  unfold lD at h;have rest:(x,i,n)∈lD (j+1) ds->∃e q,i=j+q/\(d::ds)[q]? = some e/\e.ld=none/\e.gn=x/\e.ps.length=n:=λh=>by obtain⟨e,q,f,c,a⟩:=uV h;exact⟨e,q+1,by omega,by simpa using c,a⟩
  split at h
  . exact rest h
  . rename_i b
    rcases nF.mp h with h|h
    . cases h;exact⟨d,0,rfl,rfl,by simpa using b,rfl,rfl⟩
    . exact rest h
theorem uW:∀{ds:List bV} {j:Nat} {x:Str} {i:Nat},(x,i)∈lE j ds->∃d q l,i=j+q/\ds[q]? = some d/\d.ld=some l/\d.gn=x
 | [],_,_,_,h=>by simp[lE]at h
 |d::ds,j,x,i,h=>by
  unfold lE at h;have rest:(x,i)∈lE (j+1) ds->∃e q l,i=j+q/\(d::ds)[q]? = some e/\e.ld=some l/\e.gn=x:=λh=>by obtain⟨e,q,l,f,c,a⟩:=uW h;exact⟨e,q+1,l,by omega,by simpa using c,a⟩
  split at h
  . rename_i b
    rcases nF.mp h with h|h
    . cases h
      obtain⟨l,e⟩:=ad4.mp b;exact⟨d,0,l,rfl,rfl,e,rfl⟩
    . exact rest h
  . exact rest h
structure Sw (M:Mo)(T:Nat->Nat->Fn):Prop where
 z:∀j ds g,T 0 j ds g=none
 s:∀k j d,M.ds[j]? = some d->T (k+1) j=d.run M (T k) k
 sc:∀d∈M.ds,d.ld=none->ke d.N d.ps (aX d.st)
 lc:∀d∈M.ds,∀p x l,M.sO d=some (p,x,l)->l.fv=nt l.sc/\l.ar.defaults = []/\l.ar.kw_defaults = []/\d.nm ++ ".<locals>." ++ "<lambda>" = l.qual /\ ∀y∈l.fv,(aX d.st).names.lookup y=some .cell
 ln:((mE M.ds).map (·.1)).Nodup
 lf:∀d∈M.ds,d.ld=none->d.gn ∉ (mE M.ds).map (·.1)
inductive xR (M:Mo)(T T':Nat->Fn)(k:Nat):Nat->List bV->Prop
 |nil {j:Nat}:xR M T T' k j []
 |cons {j:Nat} {d:bV} {ds:List bV} (h:T' j=d.run M T k) (r:xR M T T' k (j+1) ds):xR M T T' k j (d::ds)
theorem xR.get {M:Mo}{T U:Nat->Fn}{k:Nat}:∀{j:Nat} {ds:List bV},xR M T U k j ds->∀{i:Nat} {d:bV},ds[i]? = some d->U (j+i)=d.run M T k
 |_,_,.nil,_,_,h=>by simp at h|_,_,.cons h r,0,d,e=>by simp at e;subst e;exact h|j,_,.cons h r,i+1,d,e=>by have:=r.get (i:=i) (by simpa using e);rw[show j+(i+1)=j+1+i by omega];exact this
structure wt (M:Mo)(K:KW)(f:Nat->Addr)(fd:Nat->x3):Prop where
 fn:∀j d,M.ds[j]? = some d->d.ld=none->yW K.fr d.nm d.nm d.st (f j) (fd j)/\K.mg d.gn=some (.ref (f j))/\L5 K.fr (fd j) d.ps []
 lt:∀(j:Nat) (d:bV),M.ds[j]? = some d->d.ld=none->∀p x,d.lam=some (p,x)->∃cc P,(fd j).code = .ref cc/\adP K.fr cc P=true/\(P,p,d.nm ++ ".<locals>." ++ "<lambda>")∈K.lx.tb
 lm:K.lx.lm=λx=>(mE M.ds).lookup x
 ls:∀(j:Nat) (d:bV) (l:d7),M.ds[j]? = some d->d.ld=some l->vH l
 bl:∀x∈M.jK,K.mg x=none
 cn:∀x d,(x,d)∈M.xB->∃v u,K.mg x=some u/\mI v u /\ ∀K H ι,Rel K H ι d v
 dc:∀x t,(x,t)∈M.xC->∃a,K.mg x=some (.ref a)/\jB K.w K a t
def Sw.len {M:Mo}(G:Sw M R){d:bV}(h:M.ds[p]? = some d)(a:d.ld=none):∀ds g r,R n p ds g=some r->ds.length=d.ps.length:=λds g r q=>by
 cases n with
 |zero=>rw[G.z]at q;cases q
 |succ n =>
  rw[G.s n p d h]at q;unfold bV.run at q;rw[a]at q;unfold BV at q;dsimp only at q;split at q
  . exact Br (λ_ _ _=>uI _ _ _) ds g r q
  . exact uI ds g r q
def BX {T:Mo}(G:Sw T R)(A:wt T t z M){l:d7}(h:(x,l)∈mE T.ds):t.lx.lm x=some l:=by rw[A.lm];exact fM G.ln h
def Ag {ds:List bV}{d:bV}{l:d7}(h:ds[n]? = some d)(a:d.ld=some l):(d.gn,l)∈mE ds:=Rx.mpr ⟨d,sZ h,by rw[a];rfl⟩
def Lg {T:Mo}{f:Nat->Addr}(G:Sw T R)(A:wt T t f M){d:bV}(a:d∈T.ds)(b:d.ld=none):t.lx.lm d.gn=none:=by
 rw[A.lm];show(mE T.ds).lookup d.gn=none;cases e:(mE T.ds).lookup d.gn with
 |none=>rfl|some l=>exact absurd (M4 (f:=(·.1)) (zS e)) (G.lf d a b)
section
variable {K:Mo}{P:uy}{base:Heap}
theorem En (G:Sw K R)(A:wt K t z M):∀k,(∀j d,K.ds[j]? = some d->d.ld=none->d9 P t.w t.fr t.mg base iI k (z j) (M j) d.ps (k_ t d.ps.length (R k j))) /\ ∀j d l,K.ds[j]? = some d->d.ld=some l->sC P t base k d.gn (R k j)
 | 0=>⟨λj d h _=>J9 λds g=>G.z j ds g,λj d l h _=>GH λds g=>G.z j ds g⟩
 |k+1=>by
  obtain⟨ih,ar⟩:=En G A k;have U:∀{X:Cx},X.prog=P->X.kw=t->X.base=base->(∀x i n,(x,i,n)∈(K.g (R k) k).fns->xD (K.g (R k) k) X x i n/\X.lx.lm x=none)/\(∀x i,(x,i)∈(K.g (R k) k).OK->(∃l,X.lx.lm x=some l)/\sC X.prog X.kw X.base (K.g (R k) k).k x ((K.g (R k) k).T i)):=fun {X} C J e3=>by
    subst C J e3;refine⟨λx i n b=>?_,λx i b=>?_⟩
    . obtain⟨e,q,v,r,B,O,h4⟩:=uV b
      have v:i=q:=by omega
      subst v O h4;obtain⟨F',lT,nM⟩:=A.fn i e r B;exact⟨⟨z i,M i,e.ps,ih i e r B,lT,F'.kp,nM,G.len r B⟩,Lg G A (sZ r) B⟩
    . obtain⟨e,q,l,v,r,B,O⟩:=uW b
      have v:i=q:=by omega
      subst v O;exact⟨⟨l,BX G A (Ag r B)⟩,ar i e l r B⟩
  refine⟨λj d h c=>?_,λj d l h c=>?_⟩
  . obtain⟨F,hm,hb⟩:=A.fn j d h c
    have hd:=sZ h;have S:=G.sc d hd c;have fX:d.ps.length<=d.N.length:=by have:=congrArg afc S.pre;rw[Cu]at this;omega
    have main:d9 P t.w t.fr t.mg base iI (k+1) (z j) (M j) d.ps (k_ t d.ps.length (ak d.kp d.N.length d.ps.length (body (K.g (R k) k) K.P K.W d.kp ⟨d.N,aX d.st,true,d.mt,[],K.sO d⟩ (d6 d.st)))):=by
      refine RH F S fX λY y outer s H E jT hr=>?_;have o:=U (X:=(mR t.lx iI P t.w t.fr t.mg base d.N d.nm (aX d.st) (z j) Y y outer s H E).vY) rfl rfl rfl;by_cases Z:t.fr.In base
      . have gd:Gd (K.g (R k) k) ⟨d.N,aX d.st,true,d.mt,[],K.sO d⟩ (mR t.lx iI P t.w t.fr t.mg base d.N d.nm (aX d.st) (z j) Y y outer s H E).vY:=⟨rfl,rfl,S.nd,rfl,rfl,hr,λ_ _=>rfl,(λ_ h=>nomatch h),λx i n b=>(o.1 x i n b).1,A.bl,A.cn,A.dc,λx i n b=>(o.1 x i n b).2,o.2,λp x l u=>?_⟩
        . exact Lf K.P gd _
        obtain⟨c2,c3,c4,c5,c6⟩:=G.lc d hd p x l u;obtain⟨⟨p',x'⟩,hq,u⟩:=Option.bind_eq_some_iff.mp u;obtain⟨l',gQ,u⟩:=oN.mp u;cases u;have c1:=zS gQ;obtain⟨cc,PP,t1,t2,t3⟩:=A.lt j d h c _ _ hq;rw[c5]at t3;obtain⟨e,ah,aq⟩:=Rx.mp c1;obtain⟨l',C,J⟩:=oN.mp aq;cases J;obtain⟨je,ab⟩:=Wg ah;exact⟨BX G A c1,A.ls je e l ab C,c2,c3,c4,⟨cc,PP,jT.symm.trans t1,agW Z t2,t3⟩,c5,c6,λ_=>rfl⟩
      . exact .of λcv s' σ H' Q I _=>absurd I.ok.mod.rD Z
    rw[G.s k j d h];unfold bV.run;rw[c];unfold BV;dsimp only;split
    . exact Kq main
    . exact main
  . rw[G.s k j d h]
    unfold bV.run;rw[c];have S:=A.ls j d l h c;refine OC S (BX G A (Ag h c)) λcl a cd y outer s H hr=>?_;have o:=U (X:=pN t.lx P t.w t.fr t.mg base l cl a cd y outer s H) rfl rfl rfl;have gd:Gd (K.g (R k) k) ⟨l.fv++l.ps,l.sc,false,[],[],none⟩ (pN t.lx P t.w t.fr t.mg base l cl a cd y outer s H):=⟨rfl,rfl,S.nd,rfl,rfl,hr,(λT=>nomatch T),(λ_ h=>nomatch h),λx i n b=>(o.1 x i n b).1,A.bl,A.cn,A.dc,λx i n b=>(o.1 x i n b).2,o.2,λ_ _ _ h=>nomatch h⟩
    exact(BR (K.g (R k) k) K.P 30).1 _ _ gd false l.bd
end
noncomputable def BY (K:oi)(lx:Lx):Sp:=λb H Q _=>∃(a:Addr) (c:List Int),b = [.ref a]/\dy K H a (c.map V.int)/\c.length<=63/\(∀q∈lx.tb,H q.1=some (.cp q.2.1 q.2.2)) /\ ∀g,Q (.bl true) g
theorem uX {K:KW}{H:Hp}{g:Ix}:∀c:List Int,ai K H g (c.map D.int) (c.map V.int)
 | []=>by simp[ai]|n::c=>by simp only[yp,ai];exact⟨_,_,rfl,by simp[Rel],uX c⟩
def OZ {K:KW}(fn:∀g:List Int,g.length<=63->∃u,h [.lst (g.map .int)] []=some (.bl true,u))(x:List V)(H:Hp)(Q:VK)(E:XK)(q:BY K.fr K.lx x H Q E):k_ K 1 h x H Q E:=by
 obtain⟨a,g,rfl,c,n,j,d⟩:=q;obtain⟨u,l⟩:=fn g n;refine⟨rfl,⟨[],[],λ_=>0⟩,[],[.lst (g.map .int)],.bl true,u,⟨TF,rfl,(λb o=>by cases o),(λi y z=>by simp at z),λq d=>⟨j q d,by simp⟩⟩,?_,l,λf p v e G r=>?_⟩
 . simp only[ai]
   refine⟨_,_,rfl,?_,rfl⟩;simp only[Rel];refine⟨a,_,rfl,?_,uX g⟩;rcases c with c|c
   . exact .inl ⟨c,by simp,by simp⟩
   . exact .inr c
 . simp only[Rel]at r
   rw[r];exact d f
inductive bB (K:oi)(ts:List Addr):List bV->List Addr->List x3->List (Addr×Pos×Str)->Prop
 |nil:bB K ts [] [] [] []
 |cons {nm gn:Str} {ps N:List Str} {st:Stmt} {kp pu:Bool} {mt:List Str} {ds:List bV} {fs:List Addr} {fB:List x3} {tb:List (Addr×Pos×Str)} {f:Addr} {oc:Value} {od an:Option Addr} {sl:Array (Option Value)} {Ic dc pm cd ct:Value}
  (a:O5 K tA gn=some (some (.ref f)))
  (l:K.lookup f=some ⟨oc,od,.func (Oc nm nm (gq st) (d6 st) (aX st) .none Ic dc pm an cd ct),sl⟩)
  (e:aeg K cd nm=true) (k:Ou K (.ref f)=true)
  (b:∀us:List Value,us.length=ps.length->WU (Oc nm nm (gq st) (d6 st) (aX st) .none Ic dc pm an cd ct) ⟨us,[]⟩=pure (ps.zip us))
  (r:bB K ts ds fs fB tb):bB K ts (⟨nm,ps,N,st,kp,mt,pu,gn,none,none⟩::ds) (f::fs) (Oc nm nm (gq st) (d6 st) (aX st) .none Ic dc pm an cd ct::fB) tb
 |maker {nm gn:Str} {ps N:List Str} {st:Stmt} {kp pu:Bool} {mt:List Str} {ds:List bV} {fs:List Addr} {fB:List x3} {tb:List (Addr×Pos×Str)} {f:Addr} {oc:Value} {od an:Option Addr} {sl:Array (Option Value)} {Ic dc pm ct:Value} {cc:Addr} {P:Addr} {p:Pos} {x:Str} {vs:Array Value} {od2:Option Addr} {jU:Array (Option Value)}
  (a:O5 K tA gn=some (some (.ref f)))
  (l:K.lookup f=some ⟨oc,od,.func (Oc nm nm (gq st) (d6 st) (aX st) .none Ic dc pm an (.ref cc) ct),sl⟩)
  (e:aeg K (.ref cc) nm=true) (k:Ou K (.ref f)=true)
  (h:K.lookup cc=some ⟨.type "code",od2,.fields vs,jU⟩) (Ah:vs[11]? = some (.ref P)) (hh:adP K cc P=true) (o:K.lookup P=none) (m:P∈ts)
  (b:∀us:List Value,us.length=ps.length->WU (Oc nm nm (gq st) (d6 st) (aX st) .none Ic dc pm an (.ref cc) ct) ⟨us,[]⟩=pure (ps.zip us))
  (r:bB K ts ds fs fB tb):bB K ts (⟨nm,ps,N,st,kp,mt,pu,gn,none,some (p,x)⟩::ds) (f::fs) (Oc nm nm (gq st) (d6 st) (aX st) .none Ic dc pm an (.ref cc) ct::fB) ((P,p,nm ++ ".<locals>." ++ "<lambda>")::tb)
 |lam {nm gn:Str} {ps N:List Str} {st:Stmt} {kp pu:Bool} {mt:List Str} {ds:List bV} {fs:List Addr} {fB:List x3} {tb:List (Addr×Pos×Str)} {ld:d7}
  (b:∀(cl:List (Str×Addr)) (pm dn fY:Value) (us:List Value),us.length=ld.ps.length->WU (agC "<lambda>" ld.qual ld.ar ld.bd ld.sc cl pm dn fY) ⟨us,[]⟩=pure (ld.ps.zip us))
  (r:bB K ts ds fs fB tb):bB K ts (⟨nm,ps,N,st,kp,mt,pu,gn,some ld,none⟩::ds) (0::fs) (default::fB) tb
section
variable {f0:Addr}{d0:x3}
theorem bB.all (X:s.In I)(G:I.Ns tA w){ds:List bV}{fs:List Addr}{K:List x3}{tb:List (Addr×Pos×Str)}(L:bB s O ds fs K tb):
  ∀j d,ds[j]? = some d->(d.ld=none->(yW s d.nm d.nm d.st (fs.getD j f0) (K.getD j d0)/\w d.gn=some (.ref (fs.getD j f0))/\L5 s (K.getD j d0) d.ps []) /\ ∀g:List Value,g.length=d.ps.length->WU (K.getD j d0) ⟨g,[]⟩=pure (d.ps.zip g)) /\
   (∀p x,d.lam=some (p,x)->∃cc P,(K.getD j d0).code = .ref cc/\adP s cc P=true/\(P,p,d.nm ++ ".<locals>." ++ "<lambda>")∈tb) /\
   ∀l,d.ld=some l->∀(cl:List (Str×Addr)) (u v y:Value) (g:List Value),g.length=l.ps.length->WU (agC "<lambda>" l.qual l.ar l.bd l.sc cl u v y) ⟨g,[]⟩=pure (l.ps.zip g):=by
 induction L with
 |nil=>intro j d I;simp at I
 |cons a l e k b r h =>
  intro j d I;cases j with
  |zero=>cases I;exact⟨λ_=>⟨⟨CW l e k,afy X G a,.all b⟩,b⟩,λ_ _ z=>nn z,λ_ z=>nn z⟩|succ j=>exact h j d I
 |maker a l e k h1 _ h2 B C b r h =>
  intro j d I;cases j with
  |zero=>cases I;exact⟨λ_=>⟨⟨CW l e k,afy X G a,.all b⟩,b⟩,λp x z=>by cases z;exact⟨_,_,rfl,h2,sv⟩,λ_ z=>nn z⟩
  |succ j =>
   obtain⟨n,f,c⟩:=h j d I;refine⟨n,λp x z=>?_,c⟩;obtain⟨cc,P,o,q,i⟩:=f p x z;exact⟨cc,P,o,q,p8 _ i⟩
 |lam b r h =>
  intro j d I;cases j with
  |zero=>cases I;exact⟨λz=>nn z.symm,λ_ _ z=>nn z,λl z=>by cases z;exact b⟩|succ j=>exact h j d I
end
def bB.out {ds:List bV}(L:bB s r ds O d A):∀q∈A,(∃c,adP s c q.1=true)/\s.lookup q.1=none/\q.1∈r:=by
 induction L with
 |nil=>intro q h;cases h|cons a l e k b fs g=>exact g|lam b fs g=>exact g
 |maker a l e k h1 _ h2 i n b fs g =>
  intro q h;cases h with
  |head=>exact⟨⟨_,h2⟩,i,n⟩|tail _ h=>exact g q h
def us0 (h:U []):∀c:List Value,c.length=0->U c
 | [],_=>h
def Ai (h:∀a c,c.length=n->U (a::c)):∀c:List Value,c.length=n+1->U c
 |a::c,e=>h a c (Nat.succ.inj e)
def oU (h:∀a,U [a]):∀c:List Value,c.length=1->U c:=Ai λa=>us0 (h a)
def oV (h:∀a b,U [a,b]):∀c:List Value,c.length=2->U c:=Ai λa=>oU (h a)
def mF (h:∀a b c,U [a,b,c]):∀g:List Value,g.length=3->U g:=Ai λa=>oV (h a)
def UI (h:∀a b c d,U [a,b,c,d]):∀g:List Value,g.length=4->U g:=Ai λa=>mF (h a)
def O0 (h:∀a b c d e,U [a,b,c,d,e]):∀g:List Value,g.length=5->U g:=Ai λa=>UI (h a)
def us6 (h:∀a b c d e f,U [a,b,c,d,e,f]):∀g:List Value,g.length=6->U g:=Ai λa=>O0 (h a)
structure IT (l:d7):Prop where
 kind:l.sc.kind = .function
 co:l.sc.isCoroutine=false
 gen:l.sc.isGenerator=false
 IG:∀y∈l.sc.names,y.2 ≠ .cell
 fr:∀x,l.sc.names.lookup x=some .free->x∈l.fv
 fv:∀x∈l.fv,l.sc.names.lookup x=some .free
 ps:∀x∈l.ps,l.sc.names.lookup x=some .local
 nd:(l.fv++l.ps).Nodup
def whole {fa:Zh}{K:oi}{M:Mo}{T:bV}(X:K.In I)(G:I.Ns tA w)(N:M.ds[n]? = some T)(J:T.ld=none)(E:T.ps = [x])(U:T.gn = "law")(tb:w "law" = some (.ref f))(gd:Sw M R)(Z:∀e∈M.ds,∀fa,e.ld=some fa->IT fa)(L:bB K r M.ds O d A)(Q:(A.map (·.1)).Nodup)(Y:∀y∈M.jK,O5 K tA y=some none)(cn:∀y e,(y,e)∈M.xB->∃v u,O5 K tA y=some (some u)/\mI v u /\ ∀K H ι,Rel K H ι e v)(dc:∀y t,(y,t)∈M.xC->∃a,O5 K tA y=some (some (.ref a)) /\ ∀lx,jB l ⟨K,l,w,lx⟩ a t)(C:∀g:List Int,g.length<=63->∃g',R p n [.lst (g.map .int)] []=some (.bl true,g')):
   ∃(fd:x3) (lx:Lx),TabsOk K r lx/\(∀(s:my) (v:Value),ahj s fd ⟨[v],[]⟩ [(x,v)]) /\ ∀base:Heap,K.In base->base.Ns tA w->d9 fa.prog l K w base iI p f fd [x] (BY K lx):=by
 have fs:wt M ⟨K,l,w,⟨A,λx=>(mE M.ds).lookup x⟩⟩ (λj=>O.getD j f) (λj=>d.getD j (d.getD 0 default)):=⟨λj T I b=>((L.all X G j T I).1 b).1,λj T I _ h x b=>(L.all X G (f0:=f) j T I).2.1 h x b,rfl,λj T fa I b=>by
   have S:=Z T (sZ I) fa b;exact⟨S.kind,S.co,S.gen,S.IG,S.fr,S.fv,S.ps,S.nd,(L.all X G (f0:=f) (d0:=default) j T I).2.2 fa b⟩,λy mg=>PySem.W.mg_none_of X G (Y y mg),λy e hm=>by
   obtain⟨v,u,i,B,o⟩:=cn y e hm;exact⟨v,u,afy X G i,B,o⟩,λy t hm=>by
   obtain⟨a,i,B⟩:=dc y t hm;exact⟨a,afy X G i,B _⟩⟩
 obtain⟨F,hm,z⟩:=fs.fn n T N J;rw[U]at hm;have e:O.getD n f=f:=by have:=hm.symm.trans tb;injection this with this;injection this
 refine⟨d.getD n (d.getD 0 default),⟨A,λx=>(mE M.ds).lookup x⟩,⟨λq c=>(L.out q c).1,λq c=>(L.out q c).2.1,λq c=>(L.out q c).2.2,Q⟩,λs v=>.of_eq ?_,λbase _ _=>?_⟩
 . have:=((L.all X G (f0:=f) (d0:=d.getD 0 default) n T N).1 J).2 [v] (by rw[E];rfl)
   rw[this,E];rfl
 have ok:=(En (P:=fa.prog) (base:=base) gd fs p).1 n T N J;dsimp only at ok;rw[e,E]at ok;exact d9.imp ok (OZ (K:=⟨K,l,w,⟨A,λx=>(mE M.ds).lookup x⟩⟩) C)
end
section
open PySem.SeqAt PyProof.Rows PySem.W
section
variable {N:Nat}(hN:0<N)
include hN
end
end
section
open PyProof.Rows
variable {Z:Nat->Nat->Fn}{Y:List bV}{M:Mo}
noncomputable def WQ:pP:=⟨"len",cg,λ_ _=>.inl ⟨_,NW,PySem.boot_len⟩⟩
noncomputable def WR:pP:=⟨"int",jR,λ_ _=>.inr ⟨_,NY,ah3⟩⟩
noncomputable def O1:pP:=⟨"tuple",gL,λ_ _=>.inr ⟨_,NZ,ahA⟩⟩
noncomputable def j9 (a c:Fn):Fn:=λds g=>match ds with| [_,_]=>a ds g|_=>c ds g
def Eo {c:Fn}(e:dM X T (lX X.kw h))(f:dM X T (lX X.kw c)):dM X T (lX X.kw (j9 h c)):=by
 intro i s n H u v Q I r q;obtain⟨x,g,ds,d,b,G0,a,q,p⟩:=q;unfold j9 at q;split at q
 . exact e i s n H u v Q I r ⟨x,g,_,d,b,G0,a,q,p⟩
 . exact f i s n H u v Q I r ⟨x,g,_,d,b,G0,a,q,p⟩
noncomputable def Sf:pP:=⟨"min",j9 lK iR,λa b=>.inl ⟨_,Eo (NX b) (Kw a.hd),boot_min⟩⟩
noncomputable def Si:vL:=⟨"get",j6,kM,λa=>⟨_,_,Oj a.units⟩⟩
noncomputable def isRef:D->Bool
 |.ref _=>true|_=>false
def xS {q:Ix}{x:V}(I:mn X b r H c)(G0:au X.kw H q a)(y:Rel X.kw H q v x)(i:mI x T)(h:isRef v=true):
  c.TypeIs T "list" /\ ∀p,T = .ref p->∃u,c.heap.get? p=some u/\u.dict=none:=by
 cases v with
 |ref n =>
  obtain⟨p,rfl,s⟩:=y;have f:n<a.length:=by rw[<- G0.len];exact(mT.mp s.1).1
  obtain⟨e,g,_⟩:=G0.at (nz f) s;exact CS I i (.inl ⟨rfl,e,.of g⟩)
 |_=>cases h
noncomputable def bW (d:D)(ds:List D)(g:G):Option (D×G):=match d,ds with
 |.ref n,[x]=>(g[n]?).bind λc=>if ax (c.length+1)=true then some (.aA,g.set n (c ++ [x]))else none|_,_=>none
def Ep:MR X "list" "append" "list.append" isRef bW where
 pa:=aga
 slot:=PySem.F.slot_list_append
 ty:=PySem.F.type_list_append
 is:=xS
 run:=by
  intro cv s σ H x xs v us Q I i rs q;obtain⟨ι,g,d,ds,r,o,G0,f,rl,h,q,p⟩:=q;cases d with
  |ref n =>
   match ds,q,rl with
   | [y],q,rl =>
    simp only[bW]at q;obtain⟨u,j,q⟩:=bind_some q;split at q
    . rename_i l
      cases q;obtain⟨a,rfl,b⟩:=f;obtain⟨w,_,rfl,c,rfl⟩:=rl;obtain⟨ws,hw,e⟩:=G0.at j b;refine uB cv s σ H _ _ v us Q I i rs ⟨a,ws,w,rfl,rfl,hw,?_,?_⟩
      . have:=ax.le l;rw[<- e.length];omega
      . exact p _ ι _ (Ext.put b hw) (G0.put b hw (ai.append e (by simp only[ai];exact⟨_,_,rfl,c,rfl⟩))) (by simp[Rel])
    . cases q
   | [],q,_=>cases q|_::_::_,q,_=>cases q
  |_=>cases h
noncomputable def GX:vL:=⟨"append",isRef,bW,λ_=>⟨_,_,Ep⟩⟩
noncomputable def Er (E:Expr->FE)(c:List Expr):FI:=match c with
 | [a]=>dX (aE E [a])| [a,b]=>TQ (aE E [a,b])|_=>xF
noncomputable def Lh:BN where
 nm:="range"
 tup:=false
 f:=Er
 ok:=λj h hm e d c _=>by
  rename_i X k E i as p pos;unfold Er;split
  . rename_i a
    simp only[Bw,List.any_nil,afu]at c;exact RF e hm (fj d _) (bj c)
  . rename_i a b
    simp only[Bw,List.any_nil,afu,H_]at c;exact RG e hm (fj d _) (by rw[bj c.1,bj c.2];rfl) (bj c.2)
  . exact zZ
noncomputable def Sj:BN where
 nm:="zip"
 tup:=true
 f:=λE as=>su (aE E as)
 ok:=λl j hm i b a c=>by
  rename_i X k E d as p pos;have:=c rfl;cases as with
  |nil=>exact .of (λcv s σ H R I h=>by obtain⟨_,_,_,_,_,_,_,h,_⟩:=h;cases h)
  |cons e es =>
   rw[Bw,H_]at a;cases d with
   |Tuple elts kt tp=>exact KZ i hm (fj b _) (bj a.1) (gz a.2)|_=>cases this
noncomputable def GY (x:Str):Option Ty:=if x == "int" then some .int else if x == "bool" then some .bool else if x == "str" then some .str else if x == "tuple" then some .tuple else if x == "list" then some .list else if x == "dict" then some .dict else none
def Li {T:Ty}(h:GY x=some T):x=vx T.name:=by
 unfold GY at h
 split at h;· rename_i e;cases h;exact eq_of_beq e
 split at h;· rename_i e;cases h;exact eq_of_beq e
 split at h;· rename_i e;cases h;exact eq_of_beq e
 split at h;· rename_i e;cases h;exact eq_of_beq e
 split at h;· rename_i e;cases h;exact eq_of_beq e
 split at h;· rename_i e;cases h;exact eq_of_beq e
 cases h
noncomputable def xU:G0->Cs->(Expr->FE)->Expr->Option FT:=λ_ _ _ _=>none
noncomputable def UJ (x:Expr):Option (Str×Expr×Str):=(cV x).bind λq=>(two q.2).bind λr=>(nV r.2).map λt=>(q.1,r.1,t)
def O2 {t:Str}(h:UJ e=some (x,y,t)):∃p g pos,e = .Call (.Name x p) [y,.Name t g] [] pos:=by obtain⟨⟨n,u⟩,q,c⟩:=bind_some h;obtain⟨⟨i,l⟩,r,a⟩:=bind_some c;obtain⟨j,b,d⟩:=oN.mp a;cases d;obtain⟨p,pos,rfl⟩:=vK q;obtain rfl:=sJ r;obtain⟨g,rfl⟩:=jC b;exact⟨p,g,pos,rfl⟩
noncomputable def WS:lB where
 e:=λm c E _ x=>(UJ x).bind λq=>if q.1 == "isinstance" && c.sc.names.lookup q.1 == some .globalImplicit&&c.sc.names.lookup q.2.2 == some .globalImplicit&&m.jK.elem q.1&&m.jK.elem q.2.2 && !(isStar q.2.1)then(GY q.2.2).map λT=>Bn T (E q.2.1)else none
 uT:=by
  intro m c X E g d v x f h;obtain⟨⟨z,a,t⟩,v1,b⟩:=bind_some h;obtain⟨p,y,pos,rfl⟩:=O2 v1;dsimp only at b;split at b
  . rename_i i
    simp only[mS,beq_iff_eq,yA]at i;obtain⟨⟨⟨⟨⟨s,o⟩,j⟩,r⟩,n⟩,u⟩:=i;obtain⟨T,l,h⟩:=oN.mp b;subst h;have e:=Li l;subst s;subst e;exact N0 T (g.bl _ (H9.mp r)) (g.bl _ (H9.mp n)) (d a) (g.gl o) (g.gl j) (bj u)
  . cases b
 t:=xU
 tok:=by intro m c X E g d x f h;cases h
noncomputable def Es (d:bV):Bool:=d.ld.isSome||(
 decide ((aX d.st).kind = .function) && !(aX d.st).isCoroutine && !(aX d.st).isGenerator&&uU d.N&&decide (d.N.take d.ps.length=d.ps) &&
 d.ps.all (λx=>(aX d.st).names.lookup x == some .local||(aX d.st).names.lookup x == some .cell)&&(aX d.st).names.all (λy=>!(y.2 == .free)))
noncomputable def Aj (ds:List bV):Bool:=ds.all Es
def Et (h:Aj Y=true):∀d∈Y,d.ld=none->ke d.N d.ps (aX d.st):=λd hd b=>by have:=IU.mp h d hd;unfold Es at this;rw[b]at this;simp only[ahe,Bool.false_or,mS,decide_eq_true_eq,yA,IU,yN,beq_iff_eq]at this;obtain⟨⟨⟨⟨⟨⟨i,l⟩,c⟩,j⟩,n⟩,o⟩,a⟩:=this;exact⟨i,l,c,oT j,n,o,λy f e=>by have:=a y f;rw[e]at this;simp at this⟩
noncomputable def O3 (l:d7):Bool:=decide (l.sc.kind = .function) && !l.sc.isCoroutine && !l.sc.isGenerator&&l.sc.names.all (λy=>!(y.2 == .cell))&&l.sc.names.all (λy=>!(y.2 == .free)||l.fv.elem y.1) &&
 l.fv.all (λx=>l.sc.names.lookup x == some .free)&&l.ps.all (λx=>l.sc.names.lookup x == some .local)&&uU (l.fv++l.ps)
noncomputable def IW (ds:List bV):Bool:=ds.all λd=>match d.ld with|some l=>O3 l|none=>true
def Lj (h:IW Y=true):∀d∈Y,∀l,d.ld=some l->IT l:=λd hd l b=>by have:=IU.mp h d hd;rw[b]at this;simp only[O3,mS,decide_eq_true_eq,yA,IU,yN,beq_iff_eq]at this;obtain⟨⟨⟨⟨⟨⟨⟨i,o⟩,c⟩,j⟩,p⟩,q⟩,a⟩,r⟩:=this;exact⟨i,o,c,λy f e=>by have:=j y f;rw[e]at this;simp at this,λx n=>(p _ (zS n)).elim (λz=>by simp at z) λz=>H9.mp z,q,a,oT r⟩
noncomputable def O4 (M:Mo):Bool:=M.ds.all (λd=>match M.sO d with
 |some (_,_,l)=>decide (l.fv=nt l.sc)&&l.ar.defaults.isEmpty&&l.ar.kw_defaults.isEmpty&&decide (d.nm ++ ".<locals>." ++ "<lambda>" = l.qual)&&l.fv.all (λy=>(aX d.st).names.lookup y == some .cell)|none=>true)&&uU ((mE M.ds).map (·.1))&&M.ds.all (λd=>d.ld.isSome || !((mE M.ds).map (·.1)).elem d.gn)
def Ll (z:∀j ds g,Z 0 j ds g=none)(r:∀k,xR M (Z k) (Z (k+1)) k 0 M.ds)(s:Aj M.ds=true)(q:O4 M=true):Sw M Z:=by
 simp only[O4,mS,IU]at q;obtain⟨⟨q,n⟩,o⟩:=q;refine⟨z,λk j d h=>by simpa using (r k).get h,Et s,λd hd p x l i=>?_,oT n,λd hd i m=>?_⟩
 . have:=q d hd
   rw[i]at this;simp only[mS,decide_eq_true_eq,IU,beq_iff_eq,aeF]at this;obtain⟨⟨⟨⟨a,b⟩,c⟩,e⟩,f⟩:=this;exact⟨a,b,c,e,f⟩
 . have:=o d hd
   rw[i,H9.mpr m]at this;simp at this
noncomputable def IX:List Addr->Bool
 | []=>true|x::r=>!(r.elem x)&&IX r
theorem Eu:∀{l:List Addr},IX l=true->l.Nodup
 | [],_=>TF|x::r,h=>by simp only[IX,mS,yA]at h;exact Dy.mpr (And.intro (λz=>(by rw[H9.mpr z]at h;exact absurd h.1 (by simp))) (Eu h.2))
noncomputable def At (K:oi)(b:List Addr)(w:World)(mg:Str->Option Value)(M:Mo):Prop:=∃fs c tb,bB K b M.ds fs c tb/\IX (tb.map (·.1))=true/\(∀y∈M.jK,O5 K tA y=some none) /\
 (∀y e,(y,e)∈M.xB->∃v u,O5 K tA y=some (some u)/\mI v u /\ ∀K H g,Rel K H g e v) /\
 (∀y t,(y,t)∈M.xC->∃a,O5 K tA y=some (some (.ref a)) /\ ∀lx,jB w ⟨K,w,mg,lx⟩ a t)
def Lm {l:Zh}{U:(Str->Option Value)->Heap->Prop}{H:World->Heap->Prop}{d:DefRec}{y:Params->oi}{i R:Nat}{dt:bV}(S:l.most=some 63)(W:dA R Uv)(E:d.params.defaults = [])(Y:d.name = "law")(I:∀(w:World) (h:Heap),H w h->(y w.params).In h /\ ∀P∈O,h.get? P=some (Um #[]))(F:∀(w:World) (mg:Str->Option Value) (h:Heap),(y w.params).In h->h.Ns tA mg->At (y w.params) O w mg M)(T:M.ds[i]? = some dt)(uY:dt.ld=none)(Q:dt.ps = [x])(J:dt.gn = "law")(X:Sw M Z)(N:IW M.ds=true)(A:∀g:List Int,g.length<=63->∃g',Z R i [.lst (g.map .int)] []=some (.bl true,g')):
  agS q K U H l.row.toRowW d [] (λf vs=>agI f vs):=
 JR (n:=63) (k:=R) (x:=x) (CX:=λ_=>iI) (sp:=λw r=>BY (y w.params) r) S (by decide) E W I
  (λw mg u h b G c=>by obtain⟨fs,v,tb,L,o,B,C,p⟩:=F w mg h b G;rw[Y]at c;exact whole b G T uY Q J c X (Lj N) L (Eu o) B C p A)
  (λ_ _ _ a g s e j=>⟨a,g,rfl,e,s,j,λ_=>rfl⟩) λ_ _ _ _ _ z=>z
section
variable {α β:Type}{P:α->Prop}{Q:α->β->Prop}
def bn:∀y∈([]:List α),P y:=λy h=>by simp at h
def bc {x:α}{l:List α}(h:P x)(r:∀y∈l,P y):∀y∈x::l,P y:=λy z=>by
 rcases nF.mp z with rfl|z
 . exact h
 . exact r y z
def UK:∀y e,(y,e)∈([]:List (α×β))->Q y e:=λy e h=>by simp at h
def cc {x:α}{d:β}{l:List (α×β)}(h:Q x d)(r:∀y e,(y,e)∈l->Q y e):∀y e,(y,e)∈(x,d)::l->Q y e:=λy e z=>by
 rcases nF.mp z with z|z
 . cases z;exact h
 . exact r y e z
end
noncomputable def GZ (m:G0)(c:Cs)(x:Str):Option (List (Str×D)):=if jj x then none else if c.sc.names.lookup x=some .globalImplicit then m.xC.lookup x else none
def Ln {m:G0}{c:Cs}(g:Gd m c X){t:List (Str×D)}(h:GZ m c x=some t):(x == ("__debug__":Str))=false/\Gl X x /\ ∃a,X.mg x=some (.ref a)/\jB X.w X.kw a t:=by
 unfold GZ at h;split at h
 . cases h
 . rename_i b
   split at h
   . rename_i d
     exact⟨(oQ (by simpa using b)).1,g.gl d,g.dc x t (lookup_mem h)⟩
   . cases h
noncomputable def UL:Expr->Option (Expr×Str×Pos)
 |.Attribute o x p=>some (o,x,p)|_=>none
noncomputable def one {b:Type}:List b->Option b
 | [a]=>some a|_=>none
def O6 {b:Type}{l:List b}{a:b}(h:one l=some a):l = [a]:=by
 cases l with
 |nil=>cases h
 |cons x l=>cases l with
  |nil=>cases h;rfl|cons=>cases h
def O7 (h:UL e=some (y,x,j)):e = .Attribute y x j:=by
 cases e with
 |Attribute=>cases h;rfl|_=>exact nn h
noncomputable def UM (e:Expr):Option (Str×Expr):=(sV e).bind λu=>(nV u.1).map λC=>(C,u.2)
def O8 (h:UM e=some (x,y)):∃g p4,e = .Subscript (.Name x p4) y g:=by obtain⟨⟨o,d⟩,a,h⟩:=bind_some h;obtain⟨c,b,h⟩:=oN.mp h;cases h;obtain⟨g,rfl⟩:=BL a;obtain⟨p4,rfl⟩:=jC b;exact⟨g,p4,rfl⟩
noncomputable def UN (e:Expr):Option (Expr×Str×Pos×Expr×Pos):=(Ec e).bind λq=>(UL q.1).bind λr=>(one q.2.1).map λy=>(r.1,r.2.1,r.2.2,y,q.2.2)
def O9 {o:Expr}{pos:Pos}(h:UN e=some (o,x,j,y,pos)):e = .Call (.Attribute o x j) [y] [] pos:=by obtain⟨⟨f,g,p⟩,b,h⟩:=bind_some h;obtain⟨⟨l,c,i⟩,d,h⟩:=bind_some h;obtain⟨nm,a,h⟩:=oN.mp h;cases h;obtain rfl:=sI b;obtain rfl:=O7 d;obtain rfl:=O6 a;rfl
noncomputable def UO (x:Expr):Option (Str×Expr×Str×Pos×Expr×Pos):=(UN x).bind λq=>(UM q.1).map λr=>(r.1,r.2,q.2)
def O_ {k:Expr}{nm:Str}{pos:Pos}(h:UO e=some (x,k,nm,j,y,pos)):∃g p4,e = .Call (.Attribute (.Subscript (.Name x p4) k g) nm j) [y] [] pos:=by obtain⟨⟨o,b,d,C,pos'⟩,a,h⟩:=bind_some h;obtain⟨⟨f,i⟩,c,h⟩:=oN.mp h;cases h;obtain rfl:=O9 a;obtain⟨g,p4,rfl⟩:=O8 c;exact⟨g,p4,rfl⟩
noncomputable def Sk:lB where
 e:=λm c E _ x=>(UO x).bind λq=>if !(q.2.2.1 == "index")||vJ q.2.1||isStar q.2.2.2.2.1 || !(q.2.2.2.1.endLine == q.2.2.2.2.2.line)then none else(GZ m c q.1).map λt=>Bu t (E q.2.1) (E q.2.2.2.2.1)
 uT:=by
  intro m c X E g d r x f h;obtain⟨⟨C,k,nm,ap,y,pos⟩,v1,b⟩:=bind_some h;obtain⟨u,s,rfl⟩:=O_ v1;dsimp only at b;split at b
  . cases b
  . rename_i i
    simp only[yN,not_or,yA,afH,TZ]at i;obtain⟨⟨⟨s1,s2⟩,s3⟩,s4⟩:=i;have s1:=eq_of_beq s1;subst s1;obtain⟨t,l,rfl⟩:=oN.mp b;obtain⟨p,n,a,j,o⟩:=Ln g l;refine Ks o j (d _) (d _) n (z_ s2) p (baseOk rfl) ?_ s4 (bj s3);rw[xH (by rw[Bw,s3];rfl)];rfl
 t:=xU
 tok:=by intro m c X E g d x f h;cases h
noncomputable def jk (d:D)(ds:List D)(g:G):Option (D×G):=match d,ds with
 |.ref n,[e]=>(g[n]?).bind λc=>(fg e g).bind λzs=>if ax (c.length+zs.length)=true then some (.aA,g.set n (c++zs))else none|_,_=>none
def Ew:MR X "list" "extend" "list.extend" isRef jk where
 pa:=aga
 slot:=PySem.F.slot_list_extend
 ty:=PySem.F.type_list_extend
 is:=xS
 run:=by
  intro cv s σ H x xs v us Q I r rs q;obtain⟨ι,g,d,ds,d',g',G0,l,rl,hT,q,p⟩:=q;unfold jk at q;split at q
  . rename_i n e
    obtain⟨ys,y,q⟩:=bind_some q;obtain⟨zs,f,q⟩:=bind_some q;split at q
    . rename_i z
      cases q;obtain⟨a,rfl,c⟩:=l;obtain⟨w0,_,rfl,o,rfl⟩:=rl;obtain⟨ws,hw,i⟩:=G0.at y c;obtain⟨b,j,rfl,u,h⟩:=ib G0 o f;have:=ax.le z;refine Bv cv s σ H _ _ v us Q I r rs ⟨a,b,ws,j,rfl,rfl,hw,u,by rw[<- i.length,<- h.length];omega,?_⟩;exact p _ ι _ (Ext.put c hw) (G0.put c hw (ai.append i h)) (by simp[Rel])
    . cases q
  . cases q
noncomputable def G_:vL:=⟨"extend",isRef,jk,λ_=>⟨_,_,Ew⟩⟩
end
section
noncomputable def rl (x:Nat):Nat:=(x*2147483648) % 18446744073709551616+x / 8589934592
noncomputable def gx (w:Nat):Nat:=let y:=((w+18446744073709551616-2870177450013471924) % 18446744073709551616)*614540362697595703 % 18446744073709551616;y % 2147483648*8589934592+y / 2147483648
noncomputable def out (w:Nat):Int:=if(w == 18446744073709551616-1)=true then 1546275796 else if w<9223372036854775808 then(w:Int)else(w:Int)-18446744073709551616
end
set_option maxRecDepth 10000
section
def el (a b:Int):[a,b].length=2:=rfl
def ec:((18446744073709551616:Nat):Int)=18446744073709551616:=rfl
end
section
open PyProof.Rows
noncomputable def iU (R:Str->Option Fn)(i:Nat)(fr:FA):FE:=λc g=>match c[i]? with
 |some (some (.fn y ds))=>(R y).bind λfn=>(fr c g).bind λq=>fn (ds++q.1) q.2|_=>none
noncomputable def UP (m:G0):Str->Option Fn:=λy=>match m.fns.lookup y with
 |some q=>some (m.T q.1)|none=>(m.OK.lookup y).map λi=>c_ (m.T i)
noncomputable def Pa:lB where
 e:=λm c E _ x=>match x with
  |.Call (.Name y _) (a::as) [] _=>if jj y||(a::as).any isStar || !(vM (c.sc.names.lookup y))then none else(iT c.N y).map λi=>iU (UP m) i (aE E (a::as))|_=>none
 uT:=by
  intro m c X E g hE rf x f h;split at h
  . rename_i y p a as pos
    split at h
    . cases h
    . rename_i hh
      simp only[yN,not_or,TZ,yA,afH]at hh;obtain⟨⟨h1,h2⟩,h3⟩:=hh;obtain⟨i,hi,rfl⟩:=oN.mp h;obtain⟨o1,o2,_⟩:=oQ h1;rw[Bw,H_]at h2;have hN:X.N[i]? = some y:=by rw[g.hN];exact et hi
      have hv:Ct X.env.scope y:=by
        rw[g.hs];unfold vM at h3;split at h3
        . rename_i e;exact .inl e
        . rename_i e;exact .inr (.inl e)
        . rename_i e;exact .inr (.inr e)
        . cases h3
      refine .of (λcv s σ H Q I o=>?_);obtain⟨ι,σd,g0,d,g',G0,S0,o,pp⟩:=o;unfold iU at o;split at o
      . rename_i z dz hz
        obtain⟨fn,p_,o⟩:=bind_some o;obtain⟨v,hσ,rv⟩:=S0.2 i _ hz;obtain⟨fa,gZ,rfl,hV,rc⟩:=rv;obtain⟨mm,hn,OJ⟩:=I.loc;obtain⟨u,r,l⟩:=OJ i y _ hN hσ hv;cases r;have load:∀{Q:Value->my->Prop} {E:Value->my->Prop},Q (.ref fa) s->wpAny (model X.prog X.w) X.A (eval (.Name y p) X.env) Q E s:=λfin=>by
          rcases l with⟨hk,hm⟩|⟨hk,c,hc,gm⟩
          . exact Z5 (aeN I.ok.kind hk hn hm fin) o1
          . rcases hk with hk|hk
            . exact Z5 (aeZ I.ok.kind hk hc gm fin) o1
            . exact Z5 (agV I.ok.kind hk hc gm fin o2) o1
        unfold UP at p_;split at p_
        . rename_i jn hl
          obtain⟨j,n⟩:=jn;cases p_;obtain⟨ah,fd,ps,ok,hm,kp,b,ln⟩:=g.fn z j n (lookup_mem hl);rcases hV with⟨rfl,_,lT⟩|⟨l',_,_,_,_,gQ,_⟩
          . have e:dz = []:=by
              have:=rc.length;exact ZW.mp (by simpa using this)
            subst e;have lT:X.mg z=some (.ref fa):=lT;rw[hm]at lT;cases lT;have q2:vq (k_ X.kw n (m.T j)) [] E0 (iL X.kw (aE E (a::as))) σ H Q:=qD ln ⟨ι,σd,g0,d,g',G0,S0,o,pp⟩;refine Tb (load ?_);refine afj (h₀:=X.base) I.ok.mod.rD kp (aV ((fj hE (a::as)).un pos cv s σ H _ I q2) λus s1 ⟨vs,H1,I1,r,q⟩=>⟨I1.gO,?_⟩) (bj h2.1) (gz h2.2);exact v9 ok g.rm b .nil A_ I1 r q
          . have gQ:X.lx.lm z=some l':=gQ
            rw[g.lf z j n (lookup_mem hl)]at gQ;cases gQ
        . obtain⟨j,hl,rfl⟩:=oN.mp p_
          obtain⟨⟨l0,ab⟩,ok⟩:=g.ll z j (lookup_mem hl);obtain⟨⟨es,g1⟩,h4,h5⟩:=bind_some o;rcases hV with⟨_,gQ,_⟩|C
          . have gQ:X.lx.lm z=none:=gQ
            rw[ab]at gQ;cases gQ
          . have Ex:∀{s':my} {H':Hp} {σ':mO},mn X cv σ' H' s'->∀{ι':Ix} {Iw:List V},C7 X.kw H' ι' z fa Iw->PySem.W.FnAt fa s'.heap:=fun {s' H' σ'} I' {ι' Iw} C'=>by
              obtain⟨_,_,_,_,_,_,hf,_⟩:=C';exact⟨_,_,_,_,(I'.aW fa _ hf.1).1⟩
            refine Tb (load ?_);refine PySem.W.callWith_F (Ex I C) (aV ((fj hE (a::as)).un pos cv s σ H (λvs H1=>∃ι1,Ext H ι H1 ι1/\au X.kw H1 ι1 g1/\ai X.kw H1 ι1 es vs) I ⟨ι,σd,g0,es,g1,G0,S0,h4,λH1 ι1 vs e1 G1 r1=>⟨ι1,e1,G1,r1⟩⟩) λus s1 aO=>?_) (bj h2.1) (gz h2.2);obtain⟨vs,H1,I1,r,ι1,e1,G1,r1⟩:=aO;have C1:C7 X.kw H1 ι1 z fa gZ:=by obtain⟨l,c,fY,pm,cl,q1,q2,q3,q4,q5,q6⟩:=C;exact⟨l,c,fY,pm,cl,q1,q2.ext e1,q3.ext e1,q4,q5,q6.mono λc u z q=>q.ext e1⟩
            refine⟨Ex I1 C1,agE (U7 (ok.run X.A X.stack s1 H1 ι1 fa gZ vs us Q dz es d g1 g' g.rm I1.FP C1 r G1 (ai.ext e1 _ rc) r1 h5 (pp.mono e1)) λrr s' o=>?_)⟩;cases rr with
            |error e=>exact o.elim
            |ok fl =>
              cases fl with
              |ret u=>exact I1.after o|next=>exact A9 o|brk=>exact A9 o|cont=>exact A9 o
      . cases o
  . cases h
 t:=xU
 tok:=by intro m c X E g hE x f h;cases h
noncomputable def dr (d:D)(g:G):D:=match d with
 |.ref n=>(match g[n]? with|some c=>.lst c|none=>.ref n)
 |d=>d
end
namespace PyProof.Rows
variable {Z:Array Value}
def Ha {out:Array Value}(h:I.get? f=some (QO "list" R.toArray n)):∃c,(agO I f R out).get? f=some (QO "list" out c):=by unfold agO;have e:f<I.objs.size:=nI h;have b:=get?_update_seq h (λ_=>#[]);have d:=nG (QO "list" #[] 0) (nG (QO "tuple" R.toArray 0) b);exact⟨_,get?_update_seq d (λ_=>out)⟩
def Ey {b:Addr}{o:Obj}(c:b≠f)(e:I.get? b=some o):(agO I f R Z).get? b=some o:=by unfold agO;rw[Y6 _ _ c.symm];exact nG _ (nG _ ((Y6 _ _ c.symm).trans e))
def Ez {ns:List Int}(y:ns.length<64)(v:∀(H:qc) (J:Value->my->Prop) (I:List Value->my->Prop),H.handled=M.handled->(∀(g:Heap) (C:Nat) (B:List Value),(∀b o,c.heap.get? b=some o->g.get? b=some o)->c.heap.objs.size<=g.objs.size->Bb B ns->I B { c with heap:=g,toks:=C })->wpAny (model q l) H (Dw T) I J c)(h:∀(g:Heap) (C L prog:Nat) (out:Array Value),(∀b o,c.heap.get? b=some o->g.get? b=some o)->c.heap.objs.size<=L->g.get? L=some (QO "list" out prog)->Bb out.toList (Ts ns)->Q (.ref L) { c with heap:=g,toks:=C }):
  wpAny (model q l) M (call (.builtin "sorted") [T]) Q E c:=by
 refine Calls.call_function_entry kind_sorted plain_sorted entry_sorted (args_sorted1 _) ?_;unfold um.«sorted»;refine l8 (m:=checkCount "sorted" 1 1 _) (mA ?_);refine l8 (v _ _ _ rfl λd u B j n f=>?_);have r:B.length<64:=by rw[f.length];exact y
 refine l8 (wpAny_newList ?_ (by rw[IV];omega));have a:(d.push (QO "list" B.toArray 0)).get? d.objs.size=some (QO "list" B.toArray 0):=p9 _ rfl;refine l8 (wh (yc slot_list_sort ⟨_,a,rfl⟩ entry_list_sort (list_sort_tree a f r λout x O R p=>⟨_,rfl,?_⟩) (args_list_sort _)));have e:=af6 R p;subst e;obtain⟨prog,v⟩:=Ha (out:=out) a;refine mA ⟨_,rfl,h _ _ d.objs.size prog out (λb o w=>?_) n v O⟩;have i:=j b o w;exact Ey (ro (nI i)) (nG _ i)
end PyProof.Rows
section
open PyProof.Rows
variable {Y:TH}{U:D}
def jg.at {g:Heap}(e:jg I f Z z)(k:∀o,I.get? f=some o->g.get? f=some o):jg g f Z z:=by obtain⟨c,b,P,l,d,r⟩:=e;exact⟨c,b,P,l,k _ d,r⟩
noncomputable def bO (val:Nat->Int):Nat->List Int
 | 0=>[]|i+1=>kB (bO val i) (val i)
theorem sP (val:Nat->Int){i:Nat}:∀{n:Nat},i<=n->(bO val i).length<=(bO val n).length
 | 0,h=>by
  have:i=0:=by omega
  subst this;exact nc _
 |n+1,h=>by
  by_cases e:i=n+1
  . subst e;exact nc _
  . refine rK (sP val (n:=n) (by omega)) ?_
    show _<=(kB _ _).length;unfold kB;split<;>simp
def EA {R:Result->my->Prop}{J:List Addr}{G:Array afV->Array afV->Prop}{P:Nat->Value->Prop}{St:Nat->my->Prop}(W:WalksS q l M.in1 f O J G n P St)(S:Addr)(B:S ∉ O)(I:Bool)(val:Nat->Int)(C:∀i v,P i v->∃t,v = .int (val i) t)(H:(bO val n).length<=4)(E:∀i,i<n->0<=val i/\val i<=7):
  ∀(k i:Nat) (s:my),n-i=k->i<=n->St i s->jg s.heap S I (bO val i) ->
    (∀g,Moved (S::J) G s g->jg g.heap S I (bO val n)->R (.ok (.ret .none)) g) ->
    PL (model q l) M (.builtin "set.update.loop" ⟨[.ref S,.ref f],[]⟩) R s:=by
 have p:S ∉ J:=λh=>B (W.sub _ h);have prog:∀b∈J,b∈S::J:=λb a=>p8 _ a;intro k;induction k with
 |zero =>
  intro i s hk Q d A j;have z:i=n:=by omega
  subst z;refine Ze F.entry_set_update_loop ?_;rw[adf F.plain_set_update_loop _];show wpAny _ M.in1 (ES (.ref f) >>= _) _ _ s;refine l8 (W.done s _ _ d λg hm=>?_);exact mA (j g (hm.mono prog) (A.at λo e=>hm.heap S _ p e))
 |succ k U =>
  intro i s hk Q d A j;have c:i<n:=by omega
  refine Ze F.entry_set_update_loop ?_;rw[adf F.plain_set_update_loop _];show wpAny _ M.in1 (ES (.ref f) >>= _) _ _ s;refine l8 (W.item i s _ _ c d λv g X x hm=>?_);obtain⟨t,rfl⟩:=C i v X;have Y:jg g.heap S I (bO val i):=A.at λo e=>hm.heap S _ p e;show wpAny _ M.in1 (HQ [ZQ (val i) t] (setAdd S (.int (val i) t)) >>= _) _ _ g;refine l8 (wh ?_);unfold setAdd;refine wh ?_;refine l8 ((Ol q l).pyHash (k:=val i) (intKind_is _ _ _ _) ?_);have hr:(bO val i).length<=3\/val i∈bO val i:=by
    by_cases hm:val i∈bO val i
    . exact .inr hm
    . have h1:=sP val (i:=i+1) c
      have h2:(bO val (i+1)).length=(bO val i).length+1:=by show(kB _ _).length=_;unfold kB;rw[if_neg hm];simp
      exact .inl (by omega)
  refine JX (s:={ g with toks:=g.toks+1 }) Y hr (E i c) λb Z w u=>?_;refine mA ⟨afw F.plain_set_update_loop _,U (i+1) _ (by omega) c (W.frame _ g _ _ x (ahD _) λb a o e=>?_) u λv_ r y=>?_⟩
  . rw[w.2 b (λh:b=S=>B (by rw[<- h];exact a))];exact e
  . refine j v_ (Moved.trans W.gtrans ((hm.mono prog).then_heap (ahD _) λb o a e=>?_) r) y
    rw[w.2 b (λh:b=S=>a (by rw[h];exact sv))];exact e
def WW (e:I.get? f=some (emp Z)):jg I f Z []:=
 ⟨#[],0,tb [] Z,[],e,⟨rfl,rfl,rfl,aho,by intro j b;simp[tb]at b,rfl,by decide⟩,rfl,aid _,rfl,by intro j b;simp[tb]at b⟩
def WX {prog:uy}(B:jg c.heap f (!l.params.followText "set-order") z):∃g E t I ok H,c.heap.get? f=some (iY g E t)/\Way prog l f g E t I ok/\(l.params.followText "set-order" = true\/t.plain=true)/\g.size<=18/\Bb I H/\H.Perm z:=by
 obtain⟨g,E,t,C,o,T,q,x,r,_⟩:=B;have hf:t.fits g.size=true:=T.fits;have n:g.size<=18:=rK T.n4 (by decide)
 have u:(g.toList.map (·.2)).Perm (C.map λp=>(ou p).2):=by
  have:=x.map (·.2)
  rwa[E5]at this
 have M:∀C:List (Int×Nat),Bb (C.map λp=>(ou p).2) (C.map (·.1)):=by
  intro C;induction C with
  |nil=>exact .nil|cons p C O=>exact .cons _ _ O
 cases hb:l.params.followText "set-order" with
 |true =>
  obtain⟨H,d,b⟩:=uH (((uE (l.params.setOrder f E) g).map (·.2)).trans u) (M C)
  exact⟨g,E,t,_,_,H,o,V7 hf hb,.inl rfl,n,d,by rw[<- r];exact b⟩
 |false =>
  rw[hb]at q;obtain⟨H,d,b⟩:=uH u (M C);have w:=T.ri;have y:∀i j,t.place[i]? = some j->qr t.place (j+1)=i+1:=by
   intro i j e;obtain⟨a,e⟩:=ac_.mp e;obtain⟨Q,J,v⟩:=mU w (j+1);have d:¬qr t.place (j+1)<=i:=λh=>by have:=v i a h;omega
   have b:¬i+1<qr t.place (j+1):=λh=>by
    have s:i+1<t.place.size:=by omega
    have U:=J (i+1) s h;have X:=rO w s (Zv i);omega
   omega
  have R:qr t.place 0=0:=by
   obtain⟨Q,J,v⟩:=mU w 0;refine afQ λh=>?_;have s:0<t.place.size:=by omega
   have:=J 0 s (by omega);omega
  exact⟨g,E,t,_,_,H,o,V8 hf hb q T.pl T.sz R y,.inr T.pl,n,d,by rw[<- r];exact b⟩
def yK {prog:uy}{s:my}(H:M.handled=none)(B:jg s.heap f (!l.params.followText "set-order") z)(h:∀(C:Heap) (I L c:Nat) (out:Array Value),(∀b o,s.heap.get? b=some o->C.get? b=some o)->s.heap.objs.size<=L->C.get? L=some (QO "list" out c)->Bb out.toList (Ts z)->Q (.ref L) { s with heap:=C,toks:=I }):
  wpAny (model prog l) M (call (.builtin "sorted") [.ref f]) Q E s:=by
 obtain⟨n,y,t,J,ok,g,O,W,hd,v,w,i⟩:=WX (prog:=prog) B;have u:Ts g=Ts z:=by refine af6 ((aeb g).trans i) ?_;exact PySem.W.sortI_rises g
 have e:n.size<=m6:=by rw[IV];omega
 refine Ez (ns:=g) (by rw[<- w.length,W.len];omega) (λR x a d k=>?_) (by rw[u];exact h);exact yF W (by rw[d];exact H) O hd e λr p q j=>k r p _ j (Vd q) w
section
set_option maxHeartbeats 3200000 in
def baF {items:Array Value}{val:Nat->Int}(Y:M.handled=none)(I:c.heap.IsList f items)(C:∀(i:Nat) (v:Value),items[i]? = some v->∃t,v=ZQ (val i) t)(B:(bO val items.size).length<=4)(H:∀i,i<items.size->0<=val i/\val i<=7)(h:∀(J:Heap) (O:Nat),jg J c.heap.objs.size (!l.params.followText "set-order") (bO val items.size)->(∀b o,b<c.heap.objs.size->c.heap.get? b=some o->J.get? b=some o)->Q (.ref c.heap.objs.size) { c with heap:=J,toks:=O }):
  wpAny (model q l) M (call (.type "set") [.ref f]) Q E c:=by
 generalize Z:(!l.params.followText "set-order")=g at *;obtain⟨prog,tl,aq⟩:=F.called_set.mro;have aW:=F.called_set.made;have Bc:=F.called_set.sub;refine agE (codeAny_of_tree ?_);show wpAny _ _ (callAny (.type "set") _) _ _ _;refine mA ⟨Code.quiet_builtin _ (by decide +kernel),Ze F.entry_type_call ?_⟩;rw[Around.under_plain (weight_type_call_type "set" [.ref f] []) rfl];have h1:=F.called_set.notType;have h2:=F.called_set.canCreate;have a0:=F.typeCall_set_1 (.ref f);repeat (any_goals (first|assumption|wp_step))
 refine U7 (JY (.ref f) (E:=E) (Q₁:=λobj p=>obj = .ref c.heap.objs.size/\p={ c with heap:=c.heap.push (emp g) }) ⟨rfl,by rw[Z]⟩) λr p A=>?_;cases r with
 |error e=>exact A
 |ok fl =>
  cases fl with
  |ret obj =>
   obtain⟨rfl,rfl⟩:=A;have w:(c.heap.push (emp g)).get? c.heap.objs.size=some (emp g):=p9 _ rfl;have hT:aiK { c with heap:=c.heap.push (emp g) } (.ref c.heap.objs.size) "set":=⟨_,w,rfl⟩
   have ab:=F.called_set.init.lookup;have aA:=F.called_set.init.bind (.ref c.heap.objs.size);repeat (any_goals (first|assumption|wp_step))
   refine U7 (codeAny_call_builtin (R:=wants (λr n=>r = .none /\ ∃J O,n={ c with heap:=J,toks:=O }/\jg J c.heap.objs.size g (bO val items.size) /\
      (∀b o,b<c.heap.objs.size->c.heap.get? b=some o->J.get? b=some o)) E) F.called_set.init.plain F.entry_set_init (check_set_init_1 hT ?_)) λr₂ n a=>?_
   . obtain⟨ol,x,y,U,X⟩:=I
     obtain⟨ar,Sl,aO,Pc⟩:=ol;simp only at y X;subst y;subst X;have WY:(c.heap.push (emp g)).get? f=some { cls:=.type "list",dict:=Sl,data:=.seq items U,slots:=Pc }:=nG _ x;have aG:=F.sub_list_set;have ah:=F.sub_list_frozenset;have gF:(wo "list" == wo "dict")=false:=by decide
     have z:(c.heap.push (emp g)).IsList f items:=⟨_,WY,rfl,U,rfl⟩
     unfold um.«set.__init__» noKeywords ail;generalize j:Tt=PI
     wp_walk
     subst j;refine afC z ?_;refine l8 (wpAny_runValue ?_);have u:f<c.heap.objs.size:=nI x;have d:M.in1.in1.in1.handled=none:=by simp[Y]
     have WZ:f≠(c.heap.push (emp g)).objs.size:=by rw[M8];exact ro (Oy u)
     have ze:c.heap.objs.size ∉ [(c.heap.push (emp g)).objs.size,f]:=by rw[M8];simp only[nF,afm,x5,or_false,not_or];exact⟨ro (Zv _),aeP u⟩
     refine EA ((Walks.list d _ f WZ items).toS) c.heap.objs.size ze g val C B H (items.size-0) 0 _ (by omega) (tc _) ⟨⟨_,p9 _ rfl,rfl,rfl⟩,(z.push _)⟩ ?hS0 ?hR
     case hS0=>exact WW (nG _ w)
     case hR =>
      intro s' hm zf;obtain⟨J,g',d',C3,CL⟩:=s';have eg:g'=c.gens:=hm.gens;have ed:d'=c.drawn:=hm.drawn;have eo:CL=c.os:=hm.os;subst eg;subst ed;subst eo;show wpAny _ _ _ _ _ _;refine mA ?_;show wpAny _ _ (ret Ad) _ _ _;have ht:∀b o,b<c.heap.objs.size->c.heap.get? b=some o->J.get? b=some o:=λb o B e=>by
       have q1:b≠c.heap.objs.size:=ro B;have q2:b≠(c.heap.push (emp g)).objs.size:=by rw[M8];exact ro (Oy B)
       exact hm.heap b o (by simp only[nF,x5,or_false,not_or];exact⟨q1,q2⟩) (nG _ (nG _ e))
      exact mA ⟨rfl,J,C3,rfl,zf,ht⟩
   . cases r₂ with
     |error e=>exact a
     |ok fl₂ =>
      cases fl₂ with
      |ret r =>
       obtain⟨rfl,J,O,rfl,Ak,gU⟩:=a;repeat (any_goals (first|assumption|wp_step))
       exact h _ _ Ak gU
      |_=>exact a.elim
  |_=>exact A.elim
end
noncomputable def oW (a:FE):FE:=λh g=>(a h g).bind λr=>(fg r.1 r.2).bind λn=>(fG n).bind λc=>if decide ((bO (λi=>c.getD i 0) c.length).length<=4 /\ ∀i,i<c.length->0<=c.getD i 0/\c.getD i 0<=7)=true then some (.lst ((Ts (bO (λi=>c.getD i 0) c.length)).map .int),r.2)else none
def Pe {S N B:Pos}(hh:X.A.handled=none)(E:X.mg "sorted" = none)(K:X.mg "set" = none)(T:DE X e C)(J:Gl X "sorted")(M:Gl X "set")(O:ni [Expr.Call (.Name "set" S) [e] [] B] X.env=(false,eval (.Call (.Name "set" S) [e] [] B) X.env)::ni [] X.env)(P:ni [e] X.env=(false,eval e X.env)::ni [] X.env):
   DE X (.Call (.Name "sorted" j) [.Call (.Name "set" S) [e] [] B] [] N) (oW C):=.of (by
 intro cv s σ H Q I h;obtain⟨ι,σd,g,d,g',G0,S0,h,p⟩:=h;obtain⟨⟨d1,g1⟩,h1,h⟩:=bind_some h;obtain⟨xs,hx,h⟩:=bind_some h;obtain⟨U,hn,h⟩:=bind_some h;dsimp only at hx h;split at h
 . rename_i l
   cases h;rw[decide_eq_true_eq]at l;obtain⟨l,h7⟩:=l;have arg:=(ik T.un lQ P) B cv s σ H (λvs Y=>∃f a Z,vs = [.ref a]/\dy X.kw Y a Z/\ai X.kw Y f xs Z/\Ext H ι Y f/\au X.kw Y f g') I (tD.bind G0 S0 h1 λY f v e1 R S1 r1=>by obtain⟨a,Z,rfl,hq,hr⟩:=ib R r1 hx;exact⟨f,a,Z,rfl,hq,hr,e1,R⟩)
   refine Tb (iG I J E (u:=.builtin "sorted") rfl ?_ (by decide) (by decide));refine aeR ?_ O rfl;rw[O];show wpAny _ _ (spliced ((false,eval (.Call (.Name "set" S) [e] [] B) X.env)::v3 N (ni [] X.env))) _ _ s;refine afi ?_;refine Tb (iG I M K (u:=.type "set") rfl ?_ (by decide) (by decide));refine ZV (aV arg λoU s1 q1=>?_) P rfl;obtain⟨vs,Y,x,rv,f,a,Z,rfl,hq,hr,e1,R⟩:=q1;obtain⟨u,rfl,ru⟩:=rv.one;cases ru;obtain⟨n,f_,pl,hz⟩:=x.list hq;have hA:=oF hn hr f_;have y:n.length=U.length:=by obtain⟨ps,rfl,rfl⟩:=m9 hA;simp
   have jG:n.toArray.size=U.length:=by rw[om];exact y
   refine baF (items:=n.toArray) (val:=λi=>U.getD i 0) hh pl.isList (λi v hv=>ais (by simpa using hA:Bb n.toArray.toList U) i v (by rw[adH];exact hv)) (by rw[jG];exact l) (by rw[jG];exact h7) λh2 UU uF k2=>?_;rw[jG]at uF;refine ahm ?_;have kk:∀b o,s1.heap.get? b=some o->h2.get? b=some o:=λb o q=>k2 b o (nI q) q;have I2:mn X cv σ Y { s1 with heap:=h2,toks:=UU }:=x.kept kk;refine yK (s:={ s1 with heap:=h2,toks:=UU }) hh uF λh3 z L c out k3 hL hc hO=>?_;have Ow:s1.heap.objs.size<=L:=by obtain⟨_,_,_,_,ha,_⟩:=uF;exact rK (Vd (nI ha)) hL
   have r:=x.aW.fresh Ow;have Tx:((Ts (bO (λi=>U.getD i 0) U.length)).map V.int).length<=m6:=by rw[qV,(aeb _).length_eq];exact rK l (by decide)
   refine⟨.ref L,_,x.laid (t':=z) (λb o q=>k3 b o (kk b o q)) Ow (show dJ X.prog X.w _ _ _ (.lst ((Ts (bO (λi=>U.getD i 0) U.length)).map V.int)) from⟨Tx,out.toList,c,baS hO,by simpa[QO]using hc⟩),rfl,p _ _ _ (e1.trans (Ext.lay r)) (R.lay r) ?_⟩;simp only[Rel];exact⟨_,_,rfl,.inl ⟨.inl aR,R.fresh r,R.iK r⟩,sg _⟩
 . cases h)
@[simp] def Al:oW C d a=(C d a).bind λr=>(fg r.1 r.2).bind λg=>(fG g).bind λc=>if decide ((bO (λi=>c.getD i 0) c.length).length<=4 /\ ∀i,i<c.length->0<=c.getD i 0/\c.getD i 0<=7)=true then some (.lst ((Ts (bO (λi=>c.getD i 0) c.length)).map .int),r.2)else none:=rfl
noncomputable def vP (x:Expr):Option (Str×Expr):=match x with
 |.Call f c g _=>(match f with
  |.Name t _=>(match c with
   | []=>none|a::r=>if r.isEmpty&&g.isEmpty then some (t,a)else none)
  |_=>none)
 |_=>none
def xW (h:vP e=some (x,y)):∃p pos,e = .Call (.Name x p) [y] [] pos:=by
 cases e with
 |Call f g i pos =>
  cases f with
  |Name n p =>
   cases g with
   |nil=>cases h
   |cons b r =>
    simp only[vP]at h;split at h
    . rename_i c
      rw[mS,aeF,aeF]at c;cases h;obtain⟨rfl,rfl⟩:=c;exact⟨_,_,rfl⟩
    . cases h
  |_=>cases h
 |_=>cases h
noncomputable def EC (m:G0)(c:Cs)(t r:Str)(x:Expr):Option Expr:=(vP x).bind λy=>(vP y.2).bind λz=>if y.1 == t&&z.1 == r&&c.sc.names.lookup y.1 == some .globalImplicit&&c.sc.names.lookup z.1 == some .globalImplicit&&m.jK.elem y.1&&m.jK.elem z.1 && !(isStar z.2)then some z.2 else none
def ED {m:G0}{c:Cs}{r:Str}(h:EC m c x r e=some y):∃p g pos v,e = .Call (.Name x p) [.Call (.Name r g) [y] [] v] [] pos/\c.sc.names.lookup x=some .globalImplicit/\c.sc.names.lookup r=some .globalImplicit/\x∈m.jK/\r∈m.jK/\isStar y=false:=by
 obtain⟨⟨u,t⟩,o,l⟩:=bind_some h;obtain⟨⟨s,z⟩,d,b⟩:=bind_some l;dsimp only at b d;obtain⟨p,pos,rfl⟩:=xW o;obtain⟨g,v,rfl⟩:=xW d;split at b
 . rename_i a
   simp only[mS,beq_iff_eq,yA]at a;obtain⟨⟨⟨⟨⟨⟨rfl,rfl⟩,f⟩,n⟩,j⟩,q⟩,i⟩:=a;cases b;exact⟨_,_,_,_,rfl,f,n,H9.mp j,H9.mp q,i⟩
 . cases b
noncomputable def Pg:lB where
 e:=λm c E _ x=>(EC m c "sorted" "set" x).map λa=>oW (E a)
 uT:=by intro m c X E g b q x f h;obtain⟨a,l,rfl⟩:=oN.mp h;obtain⟨p,r,pos,s,rfl,o,j,d,n,i⟩:=ED l;exact Pe g.rm.hd (g.bl _ d) (g.bl _ n) (b a) (g.gl o) (g.gl j) rfl (bj i)
 t:=xU
 tok:=by intro m c X E g b x f h;cases h
noncomputable def Sm:lB where
 e:=λm c E _ x=>match x with
  |.List [] _=>if c.mt.elem (vx "[]")then some (aJ mkRef af)else none|_=>none
 uT:=by
  intro m c X E g a b x f h;split at h
  . split at h
    . cases h
      exact wC (fj a [])
    . cases h
  . cases h
 t:=xU
 tok:=by intro m c X E g a x f h;cases h
noncomputable def Ph:Expr->Option (List Expr)
 |.List c _=>some c|_=>none
def EE (h:Ph e=some B):∃p,e = .List B p:=by
 cases e with
 |List a p=>cases h;exact⟨p,rfl⟩|_=>exact nn h
noncomputable def UW:Expr->Option (Expr×Expr)
 |.BinOp a op b _=>if op = .Mult then some (a,b)else none|_=>none
def Pj {b:Expr}(h:UW e=some (y,b)):∃p,e = .BinOp y .Mult b p:=by
 cases e with
 |BinOp y op b p =>
  cases op with
  |Mult=>cases h;exact⟨p,rfl⟩|_=>exact nn h
 |_=>exact nn h
noncomputable def Pl (E:Expr->FE)(v:Expr):FE:=match Ph v with
 |some a=>aJ mkRef (aE E a)
 |none=>match(UW v).bind λq=>(Ph q.1).map λa=>(a,q.2)with
  |some q=>ag lA (aJ dP (aE E q.1)) (E q.2)|none=>E v
def Pm {E:Expr->FE}(j:∀e,DE X e (E e))(v:Expr):DE X v (Pl E v):=by
 unfold Pl;split
 . rename_i d h
   obtain⟨p,rfl⟩:=EE h;exact wC (fj j _)
 . split
   . rename_i q h
     obtain⟨⟨a,b⟩,c,h⟩:=bind_some h;obtain⟨d,f,rfl⟩:=oN.mp h;obtain⟨p,rfl⟩:=Pj c;obtain⟨i,rfl⟩:=EE f;exact jx zX (De (fj j _)) (j _)
   . exact j _
noncomputable def xX (E:Expr->FE):List (Option Expr)->List Expr->List (FE×FE)
 |some k::c,v::g=>(E k,Pl E v)::xX E c g|_,_=>[]
theorem An {X:Cx}{E:Expr->FE}(a:∀e,DE X e (E e)):∀(c:List (Option Expr)) (g:List Expr),c.all (·.isSome)=true->c.length=g.length->gy X c g (xX E c g)
 | [],[],_,_=>by simp[xX,gy]| [],_::_,_,h=>by simp at h|_::_,[],_,h=>by simp at h|none::_,_::_,h,_=>by simp at h|some k::c,v::g,h,i=>by simp only[xX,gy];exact⟨a k,Pm a v,An a c g (by simpa using h) (by simpa using i)⟩
noncomputable def Pn:lB where
 e:=λm c E _ x=>match x with
  |.Dict (k::b) vals _=>if(k::b).all (·.isSome)&&decide ((k::b).length=vals.length)&&decide ((k::b).length<=15)then some (oG (xX E (k::b) vals))else none|_=>none
 uT:=by
  intro m c X E g d i x f h;split at h
  . rename_i k b vals pos
    split at h
    . rename_i a
      rw[mS,mS,decide_eq_true_eq,decide_eq_true_eq]at a;cases h;exact Gz g.hu (An d _ _ a.1.1 a.1.2) a.1.1 a.1.2 (by simp) a.2
    . cases h
  . cases h
 t:=xU
 tok:=by intro m c X E g d x f h;cases h
noncomputable def IZ:Expr->Option (Const×Nat×Pos)
 |.Constant v k p=>some (v,k,p)|_=>none
def EF {v:Const}(h:IZ e=some (v,n,j)):e = .Constant v n j:=by
 cases e with
 |Constant=>cases h;rfl|_=>exact nn h
noncomputable def Po:Expr->Option (TH×Expr×Scope×Pos)
 |.Lambda a b s p=>some (a,b,s,p)|_=>none
def Pp (h:Po e=some (Y,y,J,j)):e = .Lambda Y y J j:=by
 cases e with
 |Lambda=>cases h;rfl|_=>exact nn h
noncomputable def Sn:Expr->Bool
 |e=>(Po e).isSome
def xY {b:Type}[DecidableEq b]{x y:Option b}(h:(x.isSome&&decide (x=y))=true):∃z,x=some z/\y=some z:=by simp only[mS,decide_eq_true_eq]at h;obtain⟨z,a⟩:=ad4.mp h.1;exact⟨z,a,h.2 ▸ a⟩
noncomputable def BZ (f:Expr->Expr->Bool):List Expr->List Expr->Bool
 | [],bs=>bs.isEmpty|a::c,bs=>(bs.head?.map λb=>f a b&&BZ f c bs.tail).getD false
def Lp {f:Expr->Expr->Bool}(h:∀a b,f a b=true->a=b):∀{c bs:List Expr},BZ f c bs=true->c=bs:=fun {c}=>by
 induction c with
 |nil=>intro bs q;cases bs with
  |nil=>rfl|cons=>cases q
 |cons a c g=>intro bs q;cases bs with
  |nil=>cases q
  |cons b bs =>
   have q:(f a b&&BZ f c bs)=true:=q;rw[mS]at q;rw[h a b q.1,g q.2]
noncomputable def Ao:Nat->Expr->Expr->Bool
 | 0,_,_=>false
 |n+1,a,b=>((Aa a).isSome&&decide (Aa a=Aa b))||((IZ a).isSome&&decide (IZ a=IZ b)) ||
  ((IJ a).bind λx=>(IJ b).map λy=>Ao n x.1 y.1&&Ao n x.2.1 y.2.1&&decide (x.2.2=y.2.2)).getD false ||
  ((Ec a).bind λx=>(Ec b).map λy=>Ao n x.1 y.1&&BZ (Ao n) x.2.1 y.2.1&&decide (x.2.2=y.2.2)).getD false
def baV {b a:Type}{x:Option b}{y:Option a}{f:b->a->Bool}(h:(x.bind λu=>y.map λv=>f u v).getD false=true):∃u v,x=some u/\y=some v/\f u v=true:=by
 cases x with
 |none=>cases h
 |some u=>cases y with
  |none=>cases h|some v=>exact⟨u,v,rfl,rfl,h⟩
def Pq:∀(n:Nat) (a b:Expr),Ao n a b=true->a=b:=λn=>by
 induction n with
 |zero=>intro a b h;cases h
 |succ n g =>
  intro a b h;rcases ae2.mp h with h|h
  . rcases ae2.mp h with h|h
    . rcases ae2.mp h with h|h
      . obtain⟨z,c,d⟩:=xY h
        exact(sH c).trans (sH d).symm
      . obtain⟨z,c,d⟩:=xY h
        exact(EF c).trans (EF d).symm
    . obtain⟨⟨o,j,i⟩,⟨e,f,l⟩,c,d,h⟩:=baV h
      simp only[mS,decide_eq_true_eq]at h;rw[xI c,xI d,g _ _ h.1.1,g _ _ h.1.2,h.2]
  . obtain⟨⟨o,j,i⟩,⟨e,f,l⟩,c,d,h⟩:=baV h
    simp only[mS,decide_eq_true_eq]at h;rw[sI c,sI d,g _ _ h.1.1,Lp g h.1.2,h.2]
noncomputable def I_:List Arg->Option (List (Str×Pos))
 | []=>some []|a::c=>if a.annotation.isSome then none else(I_ c).map ((a.arg,a.pos):: ·)
def Pr:∀{g:List Arg} {l:List (Str×Pos)},I_ g=some l->g=l.map λq=>⟨q.1,none,q.2⟩:=fun {g}=>by
 induction g with
 |nil=>intro l h;cases h;rfl
 |cons a g i =>
  intro l h;obtain⟨x,n,p⟩:=a;cases n with
  |some=>exact nn h
  |none =>
   obtain⟨c,b,rfl⟩:=oN.mp (show(I_ g).map ((x,p):: ·)=some l from h)
   rw[i b];rfl
noncomputable def EG (a:TH):Option (List (Str×Pos)):=if a.posonlyargs.isEmpty&&a.vararg.isNone&&a.kwonlyargs.isEmpty&&a.kw_defaults.isEmpty&&a.kwarg.isNone&&a.defaults.isEmpty then I_ a.args else none
def EH {l:List (Str×Pos)}(h:EG Y=some l):Y=⟨[],l.map λq=>⟨q.1,none,q.2⟩,none,[],[],none,[]⟩:=by
 obtain⟨p,c,v,k,kd,kw,d⟩:=Y;unfold EG at h;split at h
 . rename_i z
   simp only[mS,aeF,Option.isNone_iff_eq_none]at z;obtain⟨⟨⟨⟨⟨rfl,rfl⟩,rfl⟩,rfl⟩,rfl⟩,rfl⟩:=z;rw[<- Pr h]
 . cases h
noncomputable def Pt (a b:TH):Bool:=(EG a).isSome&&decide (EG a=EG b)
def Lq {b:TH}(h:Pt Y b=true):Y=b:=by obtain⟨z,c,d⟩:=xY h;exact(EH c).trans (EH d).symm
noncomputable def B1 (N:List Str):List Str->Option (List Nat)
 | []=>some []|y::c=>(iT N y).bind λi=>(B1 N c).map (i :: ·)
theorem Ap {N:List Str}:∀{g:List Str} {is:List Nat},B1 N g=some is->D_ N is g
 | [],is,h=>by cases h;exact⟨rfl,λj i y a _=>by simp at a⟩
 |y::g,is,h=>by
  unfold B1 at h;obtain⟨i,o,h⟩:=bind_some h;obtain⟨l,d,rfl⟩:=oN.mp h;obtain⟨f,n⟩:=Ap d;refine⟨by simp[f],λj e c a b=>?_⟩;cases j with
  |zero=>simp at a b;subst a b;exact et o|succ j=>exact n j e c (by simpa using a) (by simpa using b)
noncomputable def aL (E:Expr->FE)(q:Pos×Str×d7)(is:List Nat):List Expr->Option FA
 | []=>some af
 |e::c=>match Po e with
  |some (ar,bd,sc,p)=>if decide (p=q.1)&&Pt ar q.2.2.ar&&Ao 9 bd q.2.2.bd&&decide (sc=q.2.2.sc)then(aL E q is c).map (ae (tW q.2.1 is))else none|none=>if isStar e then none else(aL E q is c).map (ae (E e))
theorem B2 {X:Cx}{E:Expr->FE}(u:∀e,DE X e (E e)){p:Pos}{x:Str}{l:d7}(L:vI X p x l){is:List Nat}(s:D_ X.N is l.fv):∀{g:List Expr} {f:FA},aL E (p,x,l) is g=some f->xw X g f
 | [],f,h=>by cases h;exact K4
 |e::g,f,h=>by
  rw[aL]at h;split at h
  . rename_i r bd sc q n
    obtain rfl:=Pp n;split at h
    . rename_i z
      simp only[mS,decide_eq_true_eq]at z;obtain⟨⟨⟨j,b⟩,c⟩,d⟩:=z;obtain⟨o,a,rfl⟩:=oN.mp h;subst j;have:=Lq b;subst this;have:=Pq _ _ _ c;subst this;subst d;exact K5 L s (B2 u L s a)
    . cases h
  . split at h
    . cases h
    . rename_i i
      obtain⟨o,a,rfl⟩:=oN.mp h;exact GJ (u _) (B2 u L s a) (bj (by simpa using i))
noncomputable def W5:lB where
 e:=λm c E _ x=>(cV x).bind λy=>if jj y.1||y.2.any isStar || !(y.2.any Sn) || !c.all || !(decide (c.sc.names.lookup y.1=some .globalImplicit))then none else c.lam.bind λq=>(m.fns.lookup y.1).bind λj=>(B1 c.N q.2.2.fv).bind λis=>(aL E q is y.2).map λfr=>aj (j8 (m.T j.1)) fr
 uT:=by
  intro m c X E g r rf x f h;obtain⟨⟨y,as⟩,hv,d⟩:=bind_some h;obtain⟨p,pos,rfl⟩:=vK hv;dsimp only at d;split at d
  . cases d
  . rename_i s
    simp only[yN,not_or,TZ,yA,afH,decide_eq_true_eq]at s;obtain⟨⟨⟨⟨h1,o⟩,u⟩,h4⟩,h5⟩:=s;obtain⟨⟨p',x',l⟩,hq,k1⟩:=bind_some d;obtain⟨⟨i,n⟩,hf,k2⟩:=bind_some k1;obtain⟨is,hi,k3⟩:=bind_some k2;obtain⟨fr,kF,rfl⟩:=oN.mp k3;obtain⟨o1,o2,_⟩:=oQ h1;cases as with
    |nil=>cases u
    |cons a as =>
     rw[Bw,H_]at o;obtain⟨fa,fd,ps,ok,hm,v,b,ln⟩:=g.fn y i n (lookup_mem hf);have z:D_ X.N is l.fv:=by rw[g.hN];exact Ap hi
     exact GK ok g.rm hm v b ln (g.al h4) (B2 r (g.lh _ _ _ hq) z kF) (g.gl h5) o1 (bj o.1) (gz o.2)
 t:=xU
 tok:=by intro m c X E g r x f h;cases h
noncomputable def Pu:Nat->Expr->Option Expr
 |_,.Lambda a b s p=>some (.Lambda a b s p)|n+1,.Call _ c _ _=>c.findSome? (Pu n)|_,_=>none
noncomputable def Aq:Nat->Stmt->Option Expr
 |n+1,.FunctionDef _ _ b _ _ _ _ _ _ _=>b.findSome? (Aq n)|n+1,.If _ b o _=>(b.findSome? (Aq n)).or (o.findSome? (Aq n))|n+1,.For _ _ b _ _=>b.findSome? (Aq n)|n,.Assign _ v _=>Pu n v|n,.Return (some v) _=>Pu n v|_,_=>none
noncomputable def B3 (nm:Str)(c:Stmt):d7:=match Aq 9 c with
 |some (.Lambda a b s _)=>⟨a,b,s,nm ++ ".<locals>." ++ "<lambda>",nt s,a.args.map (·.arg)⟩|_=>⟨⟨[],[],none,[],[],none,[]⟩,.Constant .none 0 ⟨0,0,0,0⟩,⟨.function,[],false,false,[]⟩,"",[],[]⟩
noncomputable def Pw (a:Stmt):Pos:=match Aq 9 a with
 |some (.Lambda _ _ _ p)=>p|_=>⟨0,0,0,0⟩
noncomputable def top (i:Nat):Stmt:=PySem.Challenge.pw_wholeglance_k22_looks_of_shared.main.body.getD i (.Pass ⟨0,0,0,0⟩)
noncomputable def md (nm:Str)(ps a:List Str)(i:Nat)(b:Bool:=false)(d:List Str:=[])(e:Bool:=false)(c:Str:=nm):bV:=⟨nm,ps,ps++a,top i,b,d,e,c,none,none⟩
noncomputable def mm (nm:Str)(ps a:List Str)(i:Nat)(x:Str)(b:Str:=nm)(c:List Str:=[]):bV:=⟨nm,ps,ps++a,top i,false,c,false,b,none,some (Pw (top i),x)⟩
noncomputable def ml (nm x:Str)(i:Nat):bV:=⟨"<lambda>",(B3 nm (top i)).fv++(B3 nm (top i)).ps,[],top i,false,[],false,x,some (B3 nm (top i)),none⟩
noncomputable def W7:=md "number_of" ["manner","name"] [] 2
noncomputable def W8:=md "hands_of" ["manner"] [] 3
noncomputable def W9:=md "places_of" ["manner"] [] 4
noncomputable def W_:=md "collect_boxes" ["manner"] ["word"] 6
noncomputable def Xa:=md "last_round" ["stride","span","moves","reads","moved_in"] ["seen","start","moved","hand","often"] 8 false ["seen","*seen"]
noncomputable def Xb:=md "others_of" ["manner","hand"] [] 20
noncomputable def Xc:=md "shaken_by" ["manner","hand"] [] 21
noncomputable def Xd:=md "shake_step" ["sources","targets","answer","reads"] ["place"] 22
noncomputable def Xe:=mm "shared_look" ["manner","hand","reads"] ["span","ending","used"] 25 "shared_look.lambda"
noncomputable def Xf:=mm "round_step" ["manner","hand","reads"] ["calls","signs","collected"] 26 "round_step_shared.lambda" "round_step_shared"
noncomputable def So:=md "second_collect" ["manner","hand","reads"] ["behind"] 28
noncomputable def Sq:=md "moved_in" ["manner","hand","reads"] ["shaken","opening","calls","moved","first","second","others","before","behind"] 29 false ["moved"] false "moved_in_shared"
noncomputable def Sr:=md "is_rewritten" ["manner","before","behind"] [] 31
noncomputable def Ss:=md "next_step" ["manner","hand","deed","ahead","reads"] [] 45
noncomputable def Su:=md "look_step" ["manner","hand","reads"] ["word"] 46
noncomputable def Sv:=md "_law_hand" ["_law_script","_law_k"] ["_law_cell"] 50 true
noncomputable def Sy:=md "_law_take" ["_law_hand_here","_law_many"] ["_law_digit","_law_turn","_law_mixed","_law_other"] 51 false ["_law_hand_here"]
noncomputable def Sz:=md "_law_pick" ["_law_hand_here","_law_some"] [] 52
noncomputable def SA:=md "_law_value" ["_law_hand_here"] ["_law_way"] 53
noncomputable def SE:=md "_law_world" ["_law_hand_here","_law_boxes","_law_changes"] [] 54 true
noncomputable def SF:=md "_law_see" ["_law_world_here","_law_box"] [] 55 false ["_law_world_here"]
noncomputable def SG:=md "_law_set" ["_law_world_here","_law_box","_law_content"] [] 56
noncomputable def SH:=md "_law_collect" ["_law_world_here","_law_name","_law_many"] ["_law_found","_law_j"] 57 false ["_law_found"]
noncomputable def SI:=md "_law_follows" ["_law_manner","_law_own","_law_deed","_law_ahead_here","_law_world_here","_law_due"] ["_law_reads","_law_step","_law_content","_law_found"] 58
noncomputable def SK:=md "_law_ahead" ["_law_hand_here","_law_many"] [] 59
noncomputable def SM:=md "_law_hands" ["_law_hand_here"] [] 60
noncomputable def SN:=md "_law_state" ["_law_hand_here","_law_many"] [] 61
noncomputable def SO:=md "_law_other_content" ["_law_world_here","_law_box"] ["_law_hand_here","_law_value_here","_law_writer","_law_toggle","_law_writers"] 62
noncomputable def SQ:=md "_law_round" ["_law_world_here","_law_own","_law_manner"] ["_law_word","_law_hands_here","_law_places","_law_toggles","_law_shakes","_law_moves","_law_signs","_law_last","_law_j","_law_first","_law_second","_law_moved","_law_k","_law_one","_law_turned"] 63 false ["_law_signs","_law_last","_law_moved","*_law_signs","*_law_last"]
noncomputable def SR:=md "_law_look" ["_law_world_here","_law_own","_law_manner"] ["_law_seen","_law_second","_law_moved","_law_j"] 64 false ["_law_seen"]
noncomputable def SS:=md "_law_begin" ["_law_hand_here","_law_manner","_law_own"] ["_law_hands_here","_law_places","_law_boxes","_law_k","_law_i","_law_j","_law_world_here"] 65 true ["_law_world_here","_law_boxes","=moving","*_law_boxes"]
noncomputable def SU:=md "_law_shared_manner" ["_law_hand_here"] ["_law_bits"] 66
noncomputable def SV:=md "law" ["_law_script"] ["_law_n","_law_hand_here","_law_manner","_law_own","_law_world_here","_law_due"] 67
noncomputable def SX:=ml "shared_look" "shared_look.lambda" 25
noncomputable def SY:=ml "round_step" "round_step_shared.lambda" 26
noncomputable def ds:List bV:=[W7,W8,W9,W_,Xa,Xb,Xc,Xd,Xe,Xf,So,Sq,Sr,Ss,Su,Sv,Sy,Sz,SA,SE,SF,SG,SH,SI,SK,SM,SN,SO,SQ,SR,SS,SU,SV,SX,SY]
noncomputable def lN:List (Str×D):=[("once",.tup [.str "hands"]),("twice",.tup [.str "hands",.str "turn"]),("handed",.tup [.str "hands",.str "turn",.str "moves"]),("signs",.tup [.str "hands",.str "toggles",.str "shakes",.str "moves"]),("shared",.tup [.str "hands",.str "places",.str "toggles",.str "shakes",.str "moves"]),("tables",.tup [.str "hands",.str "boxes"])]
noncomputable def pk:Pk:=⟨[WQ,Sf,WR,O1],[O1],[GX,G_,Si],[Lh,Sj],[W5,WS,Sk,Pg,Pn,Sm,Pa]⟩
noncomputable def mo:Mo:=⟨ds,["len","min","int","tuple","sorted","set","range","zip","isinstance"],[],[("NUMBERS",lN)],pk,1000000⟩
@[simp] def YI:ao (.tup A) v a=gS (.tup A) v a:=rfl
@[simp] def YJ:ao (.lst A) v a=gS (.lst A) v a:=rfl
@[simp] def YK:ao (.ref n) v a=gS (.ref n) v a:=rfl
@[simp] def YL:ao (.az n) v a=(a[n]?).bind λc=>if aU 6 v=true then(aI c v).map λv=>(v,a)else none:=rfl
@[simp] def Xg:lL (.ref n) U v a=putD (.ref n) U v a:=rfl
@[simp] def Hb:lL (.az n) U v a=(a[n]?).bind λc=>if(aU 6 U&&iy c)=true then some (a.set n (aQ c U v))else none:=rfl
@[simp] def YM {c:FE}:dC C c v d a=(C d a).bind λr=>(c d r.2).bind λq=>(lL r.1 q.1 v q.2).map λg=>(d,g):=rfl
@[simp] def pQ {fr:FA}{c:D->Bool}{m:D->List D->G->Option (D×G)}:dh c m C fr d a=(C d a).bind λr=>if c r.1=true then(fr d r.2).bind λq=>m r.1 q.1 q.2 else none:=rfl
@[simp] def Xh:j7 d a=some (.az a.length,a ++ [[]]):=rfl
@[simp] def YN:j6 (.az n)=true:=rfl
@[simp] def YO:isRef (.ref n)=true:=rfl
@[simp] def abZ:kM (.az n) [v] a=(a[n]?).bind λc=>if aU 6 v=true then some ((aI c v).getD .aA,a)else none:=rfl
@[simp] def ab0:kM (.az n) [v,U] a=(a[n]?).bind λc=>if aU 6 v=true then some ((aI c v).getD U,a)else none:=rfl
@[simp] def ab1:bW (.ref n) [v] a=(a[n]?).bind λc=>if ax (c.length+1)=true then some (.aA,a.set n (c ++ [v]))else none:=rfl
@[simp] def YQ:aU n (.int i)=true:=by cases n<;>rfl
@[simp] def YR:mr v (.az n) a=(a[n]?).bind λc=>if aU 6 v=true then some (aI c v).isSome else none:=rfl
@[simp] def YS:ie v U a=(mr v U a).map λb=>(.bl b,a):=rfl
@[simp] def S4:iw v U a=(mr v U a).map λb=>(.bl (!b),a):=rfl
@[simp] def Xi:HT .aA=false:=rfl
@[simp] def YT:HT (.bl Z)=false:=rfl
@[simp] def Xj:HT (.int i)=false:=rfl
@[simp] def Xk:HT (.str x)=false:=rfl
@[simp] def Xl:HT (.tup A)=false:=rfl
@[simp] def Xm:HT (.lst A)=false:=rfl
@[simp] def Xn:HT .dI=false:=rfl
@[simp] def Xp:HT (.ref n)=false:=rfl
@[simp] def Xq:HT (.az n)=false:=rfl
end
section
variable {R:Str->Option Fn}{Z:List (List Nat)}{X M J:List D}{l:List Nat}{U z:G}{T:List (List D)}{b I:FS}{Q O K:Option D}{f:Nat->Nat}{H:Prop}{E:Sg}{y c g:D}{B:F×Sg×G->Prop}{u:D×G->Prop}{t:Option (F×Sg×G)}{j:Int}{r:FA}{q:Fn}{m:FE}{k:Nat}
def Hc {c:Type}{A B C:c->Prop}(h:∃x,A x/\B x/\C x)(k:∀x,A x->B x->C x->H):H:=by obtain⟨x,g,a,b⟩:=h;exact k x g a b
def He {d:Type}{c:Type}{A B C:d->c->Prop}(h:∃x y,A x y/\B x y/\C x y)(k:∀x y,A x y->B x y->C x y->H):H:=by obtain⟨x,y,g,a,b⟩:=h;exact k x y g a b
def qQ {e:Type}{d:Type}{A B C D:e->d->Prop}(h:∃x y,A x y/\B x y/\C x y/\D x y)(k:∀x y,A x y->B x y->C x y->D x y->H):H:=by obtain⟨x,y,g,b,c,a⟩:=h;exact k x y g b c a
def gM {f:Type}{e:Type}{A B C D E:f->e->Prop}(h:∃x y,A x y/\B x y/\C x y/\D x y/\E x y)(k:∀x y,A x y->B x y->C x y->D x y->E x y->H):H:=by obtain⟨x,y,g,b,d,a,c⟩:=h;exact k x y g b d a c
def Xr {p:Type}{o:Type}{l:Type}{n:Type}{A B C D E F I J K:p->o->l->n->Prop}(h:∃x y z u,A x y z u/\B x y z u/\C x y z u/\D x y z u/\E x y z u/\F x y z u/\I x y z u/\J x y z u/\K x y z u)(k:∀x y z u,A x y z u->B x y z u->C x y z u->D x y z u->E x y z u->F x y z u->I x y z u->J x y z u->K x y z u->H):H:=by obtain⟨x,y,z,u,g,c,f,b,d,e,i,a,j⟩:=h;exact k x y z u g c f b d e i a j
def Xs {j:Type}{f:Type}{d:Type}{e:Type}{i:Type}{A B C D:j->f->d->e->i->Prop}(h:∃x y z u v,A x y z u v/\B x y z u v/\C x y z u v/\D x y z u v)(k:∀x y z u v,A x y z u v->B x y z u v->C x y z u v->D x y z u v->H):H:=by obtain⟨x,y,z,u,v,g,b,c,a⟩:=h;exact k x y z u v g b c a
def S_ {p:Type}{n:Type}{r:Type}{q:Type}{s:Type}{o:Type}{A B C D E F I J K L:p->n->r->q->s->o->Prop}(h:∃x y z u v w,A x y z u v w/\B x y z u v w/\C x y z u v w/\D x y z u v w/\E x y z u v w/\F x y z u v w/\I x y z u v w/\J x y z u v w/\K x y z u v w/\L x y z u v w)(k:∀x y z u v w,A x y z u v w->B x y z u v w->C x y z u v w->D x y z u v w->E x y z u v w->F x y z u v w->I x y z u v w->J x y z u v w->K x y z u v w->L x y z u v w->H):H:=by obtain⟨x,y,z,u,v,w,g,d,f,c,e,i,j,a,l,b⟩:=h;exact k x y z u v w g d f c e i j a l b
noncomputable def vQ:FS:=aw (aF dV (gN 2)) (aw (cA (ay (ag oLt bg (aj cg (ae bR (af))))) (aF (ag ao bR bg) (gN 2)) (a_)) (aP (aJ mkRef (ae (ag cK b0 (aj jR (ae (ag zD b0 (ag (cu j4 (λi j=>i ^ j.toNat)) kn (fC (.int 18)))) (af)))) (ae (ag bf (ag bf (ag (cu dQ (· % ·)) b0 l6) (ag cK (fC (.int 7919)) bg)) fc) (ae dV (af)))))))
noncomputable def vR:FS:=aw (cA (ay (ag ma (ag ao bR dV) dV)) (aw (aF (ag (cu dQ (· % ·)) (ag ao bR dV) bg) (gN 2)) (aw (aF (ag (cu e_ (· / ·)) (ag ao bR dV) bg) (dC bR dV)) (aP b0))) (a_)) (aw (aF (ag bf (ag ao bR ej) cP) (dC bR ej)) (aw (aF (ag ao bR ej) (gN 3)) (aw (aF (ag (cu dQ (· % ·)) (ag cK (ag ao bR cP) (ag bf (ag bf (fC (.int 48271)) (ag cK (ag cK ej cT) cT)) (ag cK (fC (.int 65537)) cT))) (fC (.int 2305843009213693921))) (gN 4)) (aw (aF (ag bf (ag bf (ag (cu dQ (· % ·)) ee (fC (.int 1000003))) (ag cK cT (fC (.int 99991)))) (fC (.int 11))) (gN 5)) (aw (aF (ag (cu dQ (· % ·)) (ag cK ee d4) (fC (.int 2305843009213693907))) (gN 4)) (aP (ag (cu dQ (· % ·)) (ag bf (ag (cu e_ (· / ·)) ee (fC (.int 97))) (ag (cu e_ (· / ·)) ee (fC (.int 1000033)))) bg)))))))
noncomputable def B4 (take:Fn):FS:=aP (ag ao bg (aj take (ae bR (ae (aj cg (ae bg (af))) (af)))))
mutual
noncomputable def nf:D->Bool
 |.fn _ _=>false|.tup c=>UX c|_=>true
noncomputable def UX:List D->Bool
 | []=>true|d::ds=>nf d&&UX ds
end
def mG (a:-(2 ^ 64)<i)(b:i<2 ^ 64):cR i j=true:=by unfold cR;rw[yN];exact .inl (Zo (by omega))
def jl (a:-(2 ^ 64)<j)(b:j<2 ^ 64):cR i j=true:=by unfold cR;rw[yN];exact .inr (Zo (by omega))
def nA (a:0<j)(b:j<1073741824):e_ i j=true:=by unfold e_;rw[mS];exact⟨Zo (by omega),Zo (by omega)⟩
def jq (a:0<j):dQ i j=true:=Zo (by omega)
noncomputable def Hd (g:G)(n:Nat)(B:Int):Prop:=∃a b c:Int,g[n]? = some [.int a,.int b,.int c]/\0<=a/\0<=b/\b<2 ^ 62/\0<=c/\c<=B
def Hd.mono {g n B B'}(h:Hd g n B)(d:B<=B'):Hd g n B':=let⟨a,b,c,h1,h2,i,p,q,r⟩:=h;⟨a,b,c,h1,h2,i,p,q,by omega⟩
def Hd.lt {g n B}(h:Hd g n B):n<g.length:=let⟨_,_,_,h1,_⟩:=h;(mT.mp h1).1
noncomputable def o3 (n:Nat)(g c:G):Prop:=c.length=g.length /\ ∀j,j≠n->c[j]? = g[j]?
def o3.refl {n g}:o3 n g g:=⟨rfl,λ_ _=>rfl⟩
theorem o3.trans {n g g1 g2}(a:o3 n g g1)(b:o3 n g1 g2):o3 n g g2:=⟨b.1.trans a.1,λj h=>(b.2 j h).trans (a.2 j h)⟩
theorem o3.set:o3 n a (a.set n A):=⟨by simp,λj h=>by rw[p7 (n7 h)]⟩
def Ex:eI [v,y,c] 0=some v:=rfl
def qq:eI [v,y,c] 1=some y:=rfl
def at2:eI [v,y,c] 2=some c:=rfl
def Xt (h:a[n]? = some [y,g,c]):putD (.ref n) (.int 0) v a=some (a.set n [v,g,c]):=by unfold putD;simp only[h];rfl
def put2 (h:a[n]? = some [y,g,c]):putD (.ref n) (.int 2) v a=some (a.set n [y,g,v]):=by unfold putD;simp only[h];rfl
noncomputable def cU (f:Fn):Prop:=∀(n:Nat) (m:Int) (g:G) (B:Int),B<2 ^ 40->0<m->m<1073741824->Hd g n B ->
 ∃r c,f [.ref n,.int m] g=some (.int r,c)/\0<=r/\r<m/\Hd c n (B+1)/\o3 n g c
def Lr:cU (ak false 6 2 vR):=λn m g B X hm u h=>by
 obtain⟨a,b,c,d,j,o,f,q,uZ⟩:=h;have i:n<g.length:=(mT.mp d).1;by_cases C:0<a
 . refine⟨a % m,g.set n [.int (a / m),.int b,.int c],bS (σ':=[some (.ref n),some (.int m),some (.int (a % m)),none,none,none]) rfl ?_ (by simp),aeW _ (by omega),aec _ hm,⟨a / m,b,c,by simp[i],Int.ediv_nonneg j (by omega),o,f,q,by omega⟩,o3.set⟩
   simp[vR,d,Ex,C,jq hm,nA hm u,Xt d]
 . have l:(g.set n [.int a,.int b,.int (c+1)])[n]? = some [.int a,.int b,.int (c+1)]:=by simp[i]
   generalize e:b*(48271+2*(c+1)*(c+1)+65537*(c+1)) % 2305843009213693921=x;have z:0<=x:=by rw[<- e];exact aeW _ (by decide)
   have Y:x<2305843009213693921:=by rw[<- e];exact aec _ (by decide)
   generalize E:x*(x % 1000003+(c+1)*99991+11) % 2305843009213693907=y;refine⟨(y / 97+y / 1000033) % m,g.set n [.int a,.int b,.int (c+1)],bS (σ':=[some (.ref n),some (.int m),none,some (.int (c+1)),some (.int y),some (.int (x % 1000003+(c+1)*99991+11))]) rfl ?_ (by simp),aeW _ (by omega),aec _ hm,⟨a,b,c+1,l,j,o,f,by omega,by omega⟩,o3.set⟩;have H:cR 2 (c+1)=true:=mG (by decide) (by decide);have I:cR (2*(c+1)) (c+1)=true:=jl (by omega) (by omega);have r:cR 65537 (c+1)=true:=mG (by decide) (by decide);have J:cR b (48271+2*(c+1)*(c+1)+65537*(c+1))=true:=mG (by omega) (by omega);have M:cR (c+1) 99991=true:=jl (by decide) (by decide);have v:cR x (x % 1000003+(c+1)*99991+11)=true:=mG (by omega) (by omega);have O:dQ (b*(48271+2*(c+1)*(c+1)+65537*(c+1))) 2305843009213693921=true:=jq (by decide);have s:dQ x 1000003=true:=jq (by decide);have Q:dQ (x*(x % 1000003+(c+1)*99991+11)) 2305843009213693907=true:=jq (by decide);have p:dQ (y / 97+y / 1000033) m=true:=jq hm;have R:e_ y 97=true:=nA (by decide) (by decide);have U:e_ y 1000033=true:=nA (by decide) (by decide);simp[vR,d,Ex,qq,at2,C,put2 d,l,H,I,r,J,M,v,O,s,Q,p,R,U,e,E]
def cU.w (g:cU h)(f:j<2 ^ 40)(m:0<i)(l:i<1073741824)(v:Hd a n j)(q:∀r p,0<=r->r<i->Hd p n (j+1)->o3 n a p->u (.int r,p)):mX (h [.ref n,.int i] a) u:=by refine gM (g n i a j f m l v) λr p e b c B d=>?_;exact⟨_,e,q r p b c B d⟩
noncomputable def g_ (f:Fn):Prop:=∀(n:Nat) (c:List D) (g:G) (B:Int),B<2 ^ 40->c ≠ []->c.length<1000->Hd g n B ->
 ∃d h,f [.ref n,.lst c] g=some (d,h)/\d∈c/\Hd h n (B+1)/\o3 n g h
def Ls (s:cU h):g_ (ak false 2 2 (B4 h)):=λn u g B l i p t=>by
 have q:0<u.length:=agZ.mpr i;refine gM (s n (u.length:Int) g B l (by omega) (by omega) t) λr o e f j c a=>?_;have b:r.toNat<u.length:=by omega
 have d:eI u r=some u[r.toNat]:=by unfold eI lR;rw[if_pos f,if_pos j];exact nz b
 refine⟨u[r.toNat],o,bS (σ':=[some (.ref n),some (.lst u)]) rfl ?_ a.1,Cv b,c,a⟩;simp[B4,e,d]
def g_.w (r:g_ h)(j:i<2 ^ 40)(l:A ≠ [])(f:A.length<1000)(v:Hd a n i)(q:∀d p,d∈A->Hd p n (i+1)->o3 n a p->u (d,p)):mX (h [.ref n,.lst A] a) u:=by refine qQ (r n A a i j l f v) λd p e b g c=>?_;exact⟨_,e,q d p b g c⟩
def UZ:j4 10 18=true:=by decide
def p12:j4 10 12=true:=by decide
noncomputable def EI (f:Fn):Prop:=∀(h:List Int) (i:Nat) (g:G),i<=100->∃c,f [.lst (h.map .int),.int i] g=some (.ref g.length,g ++ [c])/\Hd (g ++ [c]) g.length 0
def jL {σ1:Sg}{g1:G}(h:b d a=some (.nx,σ1,g1)):aw b I d a=I σ1 g1:=by rw[pF,h];rfl
def xZ (h:b d a=some (.rt v,E,U)):aw b I d a=some (.rt v,E,U):=by rw[pF,h];rfl
def j_ {g1:G}{d:D}{i:Nat}(h:C E a=some (d,g1)):aF C (gN i) E a=some (.nx,E.set i (some d),g1):=by rw[kh,h];rfl
def nB {g1:G}(h:Y d a=some (true,g1)):cA Y b I d a=b d g1:=by rw[DB,h];rfl
def eQ {g1:G}(h:Y d a=some (false,g1)):cA Y b I d a=I d g1:=by rw[DB,h];rfl
def fu {g1:G}{d:D}(h:C E a=some (d,g1)):aP C E a=some (.rt d,E,g1):=by rw[zE,h];rfl
def aH (h:n<=1000):ax n=true:=by rw[Ko];exact decide_eq_true (by omega)
def Lu:EI (ak true 3 2 vQ):=λq i g p=>by
 have fin:∀cell:Int,∃r,(aP (aJ mkRef (ae (ag cK b0 (aj jR (ae (ag zD b0 (ag (cu j4 (λi j=>i ^ j.toNat)) kn (fC (.int 18)))) (af)))) (ae (ag bf (ag bf (ag (cu dQ (· % ·)) b0 l6) (ag cK (fC (.int 7919)) bg)) fc) (ae dV (af)))))) [some (.lst (q.map .int)),some (.int i),some (.int cell)] g=some (.rt (.ref g.length),[some (.lst (q.map .int)),some (.int i),some (.int cell)],g ++ [r])/\Hd (g ++ [r]) g.length 0:=by
   intro cell;have o:0<=cell % 2305843009213693951:=aeW _ (by decide);have n:cell % 2305843009213693951<2305843009213693951:=aec _ (by decide);have c:dQ cell 2305843009213693951=true:=jq (by decide);have f:cR 7919 (i:Int)=true:=mG (by decide) (by decide);by_cases hc:1000000000000000000<=cell
   . have b:cR cell 1=true:=jl (by decide) (by decide)
     refine⟨[.int cell,.int (cell % 2305843009213693951+7919*i+3),.int 0],by simp[UZ,hc,b,f,c],?_⟩;exact⟨cell,cell % 2305843009213693951+7919*i+3,0,by simp,by omega,by omega,by omega,by omega,by omega⟩
   . have b:cR cell 0=true:=jl (by decide) (by decide)
     refine⟨[.int 0,.int (cell % 2305843009213693951+7919*i+3),.int 0],by simp[UZ,hc,b,f,c],?_⟩;exact⟨0,cell % 2305843009213693951+7919*i+3,0,by simp,by omega,by omega,by omega,by omega,by omega⟩
 by_cases h:i<q.length
 . obtain⟨r,e,a⟩:=fin q[i]
   refine⟨r,zG (σ':=[some (.lst (q.map .int)),some (.int i),some (.int q[i])]) rfl ?_,a⟩;unfold vQ;refine(jL (j_ (d:=.int 0) (g1:=g) rfl)).trans ?_;refine(jL (σ1:=[some (.lst (q.map .int)),some (.int i),some (.int q[i])]) (g1:=g) ((nB (g1:=g) ?_).trans (j_ ?_))).trans e
   . have:(i:Int)<(q.length:Int):=by omega
     simp[this]
   . have l:eI (q.map D.int) (i:Int)=some (.int q[i]):=gp (by simp[h])
     simp[l]
 . obtain⟨r,e,a⟩:=fin 0
   refine⟨r,zG (σ':=[some (.lst (q.map .int)),some (.int i),some (.int 0)]) rfl ?_,a⟩;unfold vQ;refine(jL (j_ (d:=.int 0) (g1:=g) rfl)).trans ?_;refine(jL (σ1:=[some (.lst (q.map .int)),some (.int i),some (.int 0)]) (g1:=g) ((eQ (g1:=g) ?_).trans rfl)).trans e;have:¬(i:Int)<(q.length:Int):=by omega
   simp[this]
noncomputable def fS (i:Int)(n:Nat):List D:=(r6 n).map λ(k:Nat)=>D.int (i+k)
def cz {i n}:(fS i n).length=n:=by simp[fS]
def sQ {fr:FA}{σ:Sg}{g:G}{Q:List D×G->Prop}(h:mX (fr σ g) λr=>∃j:Int,r.1 = [.int j] /\ -1000000<=j/\j<=1000000/\Q (fS 0 j.toNat,r.2)):mX (dX fr σ g) Q:=by obtain⟨⟨ds,c⟩,e,j,rfl,a,b,q⟩:=h;refine⟨_,?_,q⟩;unfold dX;rw[e];simp only[m5];rw[if_pos (fA.of a b)];rfl
def Lv (h:(fS i n)[p]? = some v):p<n/\v = .int (i+p):=by
 unfold fS at h;rw[qd]at h;cases c:(r6 n)[p]? with
 |none=>rw[c]at h;cases h
 |some x =>
  rw[c]at h;have a:=(mT.mp c).1;have:x=p:=by rw[acY (by simpa using a)]at c;cases c;rfl
  subst this;cases h;exact⟨by simpa using a,rfl⟩
def di (h:(fS 0 n)[p]? = some v):p<n/\v = .int p:=by obtain⟨a,rfl⟩:=Lv h;exact⟨a,by simp⟩
def Lw (s:A.length=o)(h:mX (b (A.map some++nN (p-o) none) a) λr=>∃(k:Nat) (g:List D),r.1 = .rt (.ref k)/\a.length<=k/\r.2.2[k]? = some g/\aC a.length g=true/\(r.2.2.take a.length).all (aC a.length)=true/\u (.lst g,r.2.2.take a.length)):mX (ak false p o b A a) u:=by
 obtain⟨⟨r,v,ds⟩,e,k,g,rfl,l,c,d,i,q⟩:=h;dsimp only at *;unfold ak;rw[if_pos s,e];have n:k<ds.length:=(mT.mp c).1;refine⟨_,?_,q⟩;have j:¬ds.length=a.length:=by omega
 have f:¬k<a.length:=by omega
 simp only[m5,rk,if_false];unfold HH;rw[if_neg j,if_pos i];dsimp only;rw[if_neg f,c];simp only[d,if_true]
theorem eR {n:Nat}:∀{c:List D},(∀x∈c,bU n x=true)->aC n c=true
 | [],_=>rfl|x::c,h=>by simp only[aC,mS];exact⟨h x (by simp),eR λy a=>h y (by simp[a])⟩
theorem nC {n:Nat}:∀{c:List D},aC n c=true->∀x∈c,bU n x=true
 | [],_,x,hx=>by simp at hx
 |y::c,h,x,hx=>by
  simp only[aC,mS]at h;rcases nF.mp hx with rfl|hx
  . exact h.1
  . exact nC h.2 x hx
def fJ (h:aC n A=true)(b:aC n X=true):aC n (A++X)=true:=eR λx a=>by
 rcases nQ.mp a with a|a
 . exact nC h x a
 . exact nC b x a
theorem baH:∀c:List Int,fG (c.map .int)=some c
 | []=>rfl|v::c=>by simp[fG,baH c]
noncomputable def x4:FS:=aP (oG [(k8,bR),(f7,bg),(hY,b0),(ir,aJ mkRef af),(iQ,aJ mkRef af)])
noncomputable def B5 (take other:Fn):FS:=aw (cA (iM (ay (ag ma (ag ao bR hY) dV)) (iM (ay (ag ie bg (ag ao bR gD))) (ay (ag oEq (aj take (ae (ag ao bR k8) (ae fc af))) dV)))) (aw (aF (ag (cu eE (· - ·)) (ag ao bR hY) cP) (dC bR hY)) (aF (aj other (ae bR (ae bg af))) (dC (ag ao bR f7) bg))) a_) (aw (dw (dh isRef bW (ag ao bR ir) (ae (aJ aB (ae jF (ae bg af))) af))) (aw (dw (dh isRef bW (ag ao bR iQ) (ae (ag ao (ag ao bR f7) bg) af))) (aP (ag ao (ag ao bR f7) bg))))
noncomputable def setB:FS:=aw (dw (dh isRef bW (ag ao bR ir) (ae (aJ aB (ae (fC (.str "write")) (ae bg (ae b0 af)))) af))) (aw (dw (dh isRef bW (ag ao bR iQ) (ae fb af))) (aF b0 (dC (ag ao bR f7) bg)))
noncomputable def kR (a:Fn):FS:=aw (aF (aJ mkRef af) (gN 3)) (aw (dF (dX (ae b0 af)) (gN 4) (dw (dh isRef bW cT (ae (aj a (ae bR (ae (aJ aB (ae bg (ae ee af))) af))) af)))) (aP cT))
noncomputable def qR (a:Fn):FS:=aw (aF (aJ aB af) (gN 6)) (aw (mY (pM (ag ao ee ir) (ag ao ee iQ)) (gT 2 (aY (gN 7) (aY (gN 8) eZ))) (aw (cA (ay (ag bp (aj a (ae bR (ae bg (ae b0 (ae cT (ae ef af)))))) eW)) (aP (fC (.bl false))) a_) (aF (ag bf ef (aJ aB (ae eX af))) (gN 6)))) (aw (aF (aj a (ae bR (ae bg (ae b0 (ae cT (ae ef af)))))) (gN 9)) (aP (jy (Bn .tuple eP) (jy (ag oEq eP (aJ aB (ae hI (ae d4 af)))) (ag oEq (aj a (ae bR (ae bg (ae b0 (ae cT (ae ef af)))))) eP))))))
noncomputable def sR (pick:Fn):FS:=aP (aj gL (ae (bH bA (dX (ae bg af)) [none,none,some 0] (gN 1) cN (aj pick (ae b0 (ae (aJ dP (ae dV (ae cP (ae ej (ae fc (ae (fC (.int 8)) (ae (fC (.int 9)) (ae (fC (.int 11)) af)))))))) af)))) af))
noncomputable def sT (take pick:Fn):FS:=aP (aj pick (ae bR (ae (aJ dP (ae cP (ae ej (ae ej (ae fc (ae fc (ae ej (ae fc (ae (ag bf la (aj take (ae bR (ae ej af)))) af))))))))) af)))
noncomputable def vS (take pick:Fn):FS:=aw (aF (aj take (ae bR (ae (fC (.int 8)) af))) (gN 1)) (aw (cA (ay (ag oEq bg dV)) (aP (aJ aB (ae (aj take (ae bR (ae lU af))) (ae (aJ aB (ae (ag (cu eE (· - ·)) (aj take (ae bR (ae fc af))) cP) (ae (aJ aB af) af))) af)))) a_) (aw (cA (ay (ag oEq bg cP)) (aP (aj pick (ae bR (ae (aJ dP (ae (rS mZ cP) (ae (ag (cu eE (· - ·)) (ag (cu j4 (λi j=>i ^ j.toNat)) kn (fC (.int 12))) cP) (ae (ag (cu eE (· - ·)) cP (ag (cu j4 (λi j=>i ^ j.toNat)) kn (fC (.int 12)))) (ae (aJ aB af) (ae (aJ aB (ae dV af)) af)))))) af)))) a_) (aP (aj take (ae bR (ae (fC (.int 7)) af))))))
noncomputable def W0 (h b:Nat)(l:Int)(s r:Nat):List D:=[.str "hand",.ref h,.str "boxes",.az b,.str "left",.int l,.str "steps",.ref s,.str "reads",.ref r]
def oX:aI (W0 n p i s o++A) (.str "hand")=some (.ref n):=rfl
def pR:aI (W0 n p i s o++A) (.str "boxes")=some (.az p):=rfl
def sU:aI (W0 n p i s o++A) (.str "left")=some (.int i):=rfl
def t8:aI (W0 n p i s o++A) (.str "steps")=some (.ref s):=rfl
def t9:aI (W0 n p i s o++A) (.str "reads")=some (.ref o):=rfl
def qS:aI (W0 n p i s o++A) (.str "moving")=aI A (.str "moving"):=rfl
def Ly:aI (W0 n p i s o++A) (.str "hands")=aI A (.str "hands"):=rfl
def Py:aQ (W0 n p j s o++A) (.str "left") (.int i)=W0 n p i s o++A:=rfl
noncomputable def Ar (f:Fn):Prop:=∀h b l g,f [.ref h,.az b,.int l] g=some (.az g.length,g ++ [W0 h b l (g.length+1) (g.length+2),[],[]])
theorem sW {n:Nat}:∀(ps:List (D×D)) (g:G) (xs:List D),g[n]? = some xs->ps.all (λp=>aU 6 p.1)=true->xs.length+2*ps.length<=1000->W6 n ps g=some (g.set n (ps.foldl (λa p=>aQ a p.1 p.2) xs))
 | [],g,xs,h,_,_=>by simp only[W6,List.foldl_nil,adD];obtain⟨d,e⟩:=mT.mp h;rw[<- e,UG]
 |p::ps,g,xs,h,hk,hz=>by
  rw[Z_,mS]at hk;simp only[z6]at hz;have f:iy xs=true:=by unfold iy;exact aH (by omega)
  have d:=(mT.mp h).1;have q:(aQ xs p.1 p.2).length<=xs.length+2:=by
   have:∀(k:Nat) (xs:List D),xs.length<=k->(aQ xs p.1 p.2).length<=xs.length+2:=λk=>by
    induction k with
    |zero=>intro xs c;match xs,c with| [],_=>simp[aQ]
    |succ k i =>
     intro xs c;match xs,c with
     | [],_=>simp[aQ]| [a],_=>simp[aQ]
     |a::b::r,c =>
      simp only[aQ];split
      . simp
      . have:=i r (by simp at c;omega)
        simp;omega
   exact this _ xs (nc _)
  have i:=sW ps (g.set n (aQ xs p.1 p.2)) (aQ xs p.1 p.2) (t7 d) hk.2 (by omega);have e:lL (.az n) p.1 p.2 g=some (g.set n (aQ xs p.1 p.2)):=by simp only[Hb,h,m5,hk.1,f,Zf,if_true]
  unfold W6;rw[e,m5,i,W3];rfl
def Hf:Ar (ak true 3 3 x4):=λh b l g=>by
 have e:oG [(k8,bR),(f7,bg),(hY,b0),(ir,aJ mkRef af),(iQ,aJ mkRef af)] [some (.ref h),some (.az b),some (.int l)] g=some (.az g.length,g ++ [W0 h b l (g.length+1) (g.length+2),[],[]]):=by
  have c:tP [(k8,bR),(f7,bg),(hY,b0),(ir,aJ mkRef af),(iQ,aJ mkRef af)] [some (.ref h),some (.az b),some (.int l)] (g ++ [[]])=some ([(.str "hand",.ref h),(.str "boxes",.az b),(.str "left",.int l),(.str "steps",.ref (g.length+1)),(.str "reads",.ref (g.length+2))],g ++ [[],[],[]]):=by simp[tP,mkRef,ax,m6]
  unfold oG;rw[c];simp only[m5];rw[sW (xs:=[]) _ _ (by simp) (by rfl) (by simp)];have d:agH (λa (p:D×D)=>aQ a p.1 p.2) [] [(.str "hand",.ref h),(.str "boxes",.az b),(.str "left",.int l),(.str "steps",.ref (g.length+1)),(.str "reads",.ref (g.length+2))]=W0 h b l (g.length+1) (g.length+2):=rfl;rw[d];simp
 unfold ak x4;simp[zE,e]
noncomputable def cx (h:List Nat)(g c:G):Prop:=c.length=g.length /\ ∀j,j ∉ h->c[j]? = g[j]?
def cx.refl {cs g}:cx cs g g:=⟨rfl,λ_ _=>rfl⟩
theorem cx.trans {cs g g1 g2}(a:cx cs g g1)(b:cx cs g1 g2):cx cs g g2:=⟨b.1.trans a.1,λj h=>(b.2 j h).trans (a.2 j h)⟩
def cx.of {n cs g g'}(h:o3 n g g')(m:n∈cs):cx cs g g':=⟨h.1,λj a=>h.2 j λe=>a (e ▸ m)⟩
theorem cx.set (m:n∈l):cx l a (a.set n A):=.of o3.set m
def u0 (nd:[n,p,o,s,k].Nodup):(n≠p/\n≠o/\n≠s/\n≠k)/\(p≠o/\p≠s/\p≠k)/\(o≠s/\o≠k)/\s≠k/\True:=by simp only[Dy,nF,x5,or_false,not_or]at nd;exact⟨nd.1,nd.2.1,nd.2.2.1,nd.2.2.2.1,trivial⟩
def B6 {N x:Nat}(g:n<N)(h:p<N)(a:o<N)(i:s<N)(q:k<N)(c:N<=x):x ∉ [n,p,o,s,k]:=by simp only[nF,x5,or_false,not_or];omega
def ij (h:n ∉ l)(a:n≠p):n ∉ l ++ [p]:=λm=>(nQ.mp m).elim h λe=>a (afm.mp e)
noncomputable def dH:List D->Bool
 |k::_::r=>aU 6 k&&dH r| []=>true|_=>false
theorem iz {k v:D}(c:aU 6 k=true):∀{g:List D},dH g=true->aI (aQ g k v) k=some v
 | [],_=>by simp only[aQ,aI];rw[if_pos ((gh k k c c).mpr rfl)]| [_],h=>by cases h
 |a::b::r,h=>by
  simp only[dH,mS]at h;simp only[aQ];by_cases e:bq a k=true
  . rw[if_pos e];simp only[aI];rw[if_pos e]
  . rw[if_neg e];simp only[aI];rw[if_neg e];exact iz c h.2
theorem mH {k f v:D}(i:aU 6 k=true)(j:aU 6 f=true)(n:k≠f):∀{g:List D},dH g=true->aI (aQ g k v) f=aI g f
 | [],_=>by simp only[aQ,aI];rw[if_neg λz=>n ((gh k f i j).mp z)]| [_],h=>by cases h
 |a::b::r,h=>by
  simp only[dH,mS]at h;simp only[aQ];by_cases e:bq a k=true
  . have d:=(gh a k h.1 i).mp e
    subst d;have c:¬bq a f=true:=λz=>n ((gh a f i j).mp z);rw[if_pos e];simp only[aI];rw[if_neg c,if_neg c]
  . rw[if_neg e]
    simp only[aI];rw[mH i j n h.2]
theorem kS {k v:D}(c:aU 6 k=true):∀{g:List D},dH g=true->dH (aQ g k v)=true
 | [],_=>by simp[aQ,dH,c]| [_],h=>by cases h
 |a::b::r,h=>by
  simp only[dH,mS]at h;simp only[aQ];split
  . simp[dH,h]
  . simp[dH,h,kS c h.2]
theorem pS {k v c:D}:∀{g:List D},aI g k=some c->(aQ g k v).length=g.length
 | [],h=>by cases h| [_],h=>by cases h
 |a::b::r,h=>by
  simp only[aQ,aI]at h ⊢;split
  . simp
  . rename_i e
    rw[if_neg e]at h;simp[pS h]
def Hd.ne {xs:List D}(f:Hd a p i)(B:n≠p):Hd (a.set n xs) p i:=by obtain⟨g,b,c,d,e⟩:=f;exact⟨g,b,c,by rw[p7 B];exact d,e⟩
noncomputable def qT (take other:Fn):FS:=(cA (iM (ay (ag ma (ag ao bR hY) dV)) (iM (ay (ag ie bg (ag ao bR gD))) (ay (ag oEq (aj take (ae (ag ao bR k8) (ae fc af))) dV)))) (aw (aF (ag (cu eE (· - ·)) (ag ao bR hY) cP) (dC bR hY)) (aF (aj other (ae bR (ae bg af))) (dC (ag ao bR f7) bg))) a_)
noncomputable def Hg:FS:=(aw (dw (dh isRef bW (ag ao bR ir) (ae (aJ aB (ae jF (ae bg af))) af))) (aw (dw (dh isRef bW (ag ao bR iQ) (ae (ag ao (ag ao bR f7) bg) af))) (aP (ag ao (ag ao bR f7) bg))))
def Pz:B5 h q=aw (qT h q) Hg:=rfl
def fK:aU 6 (.str x)=true:=rfl
theorem jr {n:Nat}{k v:D}(d:bU n k=true)(c:bU n v=true):∀{g:List D},aC n g=true->aC n (aQ g k v)=true
 | [],_=>by simp[aQ,aC,d,c]| [_],_=>by simp[aQ,aC,d,c]
 |a::b::r,h=>by
  simp only[aC,mS]at h;simp only[aQ];split
  . simp[aC,h,c]
  . simp[aC,h,jr d c h.2.2]
mutual
theorem cw {n:Nat}:∀d:D,flat d=true->bU n d=true
 |.aA,_=>rfl|.bl _,_=>rfl|.int _,_=>rfl|.str _,_=>rfl|.tup c,h=>by simp only[bU];exact dY c (by simpa[flat]using h)|.lst c,h=>by simp only[bU];exact dY c (by simpa[flat]using h)|.dI,h=>by simp[flat]at h|.ref _,h=>by simp[flat]at h|.az _,h=>by simp[flat]at h|.fn _ _,h=>by simp[flat]at h
theorem dY {n:Nat}:∀ds:List D,aS ds=true->aC n ds=true
 | [],_=>rfl|d::ds,h=>by simp only[aS,mS]at h;simp only[aC,cw d h.1,dY ds h.2,Zf]
end
noncomputable def own (nm:Str)(j:Nat):D:=.tup [.str nm,.int j]
def Ja:aU 6 (own x n)=true:=rfl
def PB (h:n≠p):own x n≠own x p:=λe=>by
 unfold own at e;injection e with e
 injection e with _ e
 injection e with e _
 injection e with e
 omega
noncomputable def fU (nm:Str)(n:Nat):List D:=(r6 n).map λj=>.tup [.str "read",own nm j]
def Hh {nm n}:fU nm (n+1)=fU nm n ++ [.tup [.str "read",own nm n]]:=by simp[fU,aeX]
def t_ {nm n}:(fU nm n).length=n:=by simp[fU]
noncomputable def EJ (P:D->Prop)(nm:Str)(n:Nat)(a:List D):Prop:=∀i,i<n->∃c,aI a (own nm i)=some c/\P c
noncomputable def Bd (g:G):Prop:=∀(i:Nat) c,g[i]? = some c->aC g.length c=true
def eu (h:n<=p):∀{g:List D},aC n g=true->aC p g=true:=by
 have main:∀d:D,bU n d=true->bU p d=true:=λd=>by
  refine D.rec (motive_1:=λd=>bU n d=true->bU p d=true) (motive_2:=λds=>aC n ds=true->aC p ds=true) ?_ ?_ ?_ ?_ ?_ ?_ ?_ ?_ ?_ ?_ ?_ ?_ d
  . intro h;rfl
  . intro b h;rfl
  . intro b h;rfl
  . intro b h;rfl
  . intro g i h;simpa[bU]using i (by simpa[bU]using h)
  . intro g i h;simpa[bU]using i (by simpa[bU]using h)
  . intro h;rfl
  . intro k h;simp only[bU,decide_eq_true_eq]at h ⊢;omega
  . intro k h;simp only[bU,decide_eq_true_eq]at h ⊢;omega
  . intro x g i h;simpa[bU]using i (by simpa[bU]using h)
  . intro h;rfl
  . intro x g a e h
    simp only[aC,mS]at h ⊢;exact⟨a h.1,e h.2⟩
 intro g h;exact eR λx c=>main x (nC h x c)
theorem Hd.take (g:Hd a n i)(q:n<p):Hd (a.take p) n i:=by obtain⟨h,b,c,d,e⟩:=g;exact⟨h,b,c,by rw[C8 q];exact d,e⟩
def As {nm n m}:aC m (fU nm n)=true:=eR λx a=>by simp only[fU,nP]at a;obtain⟨j,_,rfl⟩:=a;rfl
structure EK (next:Fn)(m ow dd ah:D)(st rd:List D)(i7:D)(g:G):Prop where
 at_:∀i,i<rd.length->∃x,st[i]? = some x/\next [m,ow,dd,ah,.tup (rd.take i)] g=some (x,g)
 fin:next [m,ow,dd,ah,.tup rd] g=some (.tup [.str "told",i7],g)
def U0:gT 2 (aY (gN n) (aY (gN p) eZ)) (.tup [v,y]) d a=some ((d.set n (some v)).set p (some y),a):=by simp
noncomputable def vG (d:D):Prop:=flat d=true/\dep d<=3
noncomputable def jM (f:Fn):Prop:=∀n g B,B+3<2 ^ 40->Hd g n B->∃d c,f [.ref n] g=some (d,c)/\vG d/\Hd c n (B+3)/\o3 n g c
def Lz (A:cU h)(C:g_ q):jM (ak false 2 1 (vS h q)):=λn g B z hd=>by
 have J:mX (ak false 2 1 (vS h q) [.ref n] g) λpick=>vG pick.1/\Hd pick.2 n (B+3)/\o3 n g pick.2:=by
  refine OU rfl ?_;simp[vS];refine A.w (by omega) (by decide) (by decide) hd λr Q b c f I=>?_;simp;by_cases M:r=0
  . subst M
    simp;refine A.w (by omega) (by decide) (by decide) f λx O b c E H=>?_;simp;refine A.w (by omega) (by decide) (by decide) E λy R b c s i=>?_;have j:ax 2=true:=rfl;have take:ax 0=true:=rfl;simp[j,take];exact⟨(I.trans (H.trans i)).1,⟨by simp[flat,aS],by simp[dep,bG]⟩,s.mono (by omega),I.trans (H.trans i)⟩
  . by_cases a:r=1
    . subst a
      have v:ax 5=true:=rfl;have take:ax 0=true:=rfl;have p:ax 1=true:=rfl;simp[v,take,p,p12];refine C.w (by omega) (by simp) (by simp) f λd O hm E H=>?_;refine⟨(I.trans H).1,?_,E.mono (by omega),I.trans H⟩;simp only[nF,x5,or_false]at hm;rcases hm with rfl|rfl|rfl|rfl|rfl<;>exact⟨by simp[flat,aS],by simp[dep,bG]⟩
    . simp[M,a]
      refine A.w (by omega) (by decide) (by decide) f λx O b c E H=>?_;exact⟨(I.trans H).1,⟨by simp[flat],by simp[dep]⟩,E.mono (by omega),I.trans H⟩
 obtain⟨⟨d,o⟩,e,a,u,l⟩:=J;exact⟨d,o,e,a,u,l⟩
noncomputable def Au (f:Fn):Prop:=∀n g B,B+2<2 ^ 40->Hd g n B->∃(k:Nat) (c:G),f [.ref n] g=some (.int k,c)/\1<=k/\k<=5/\Hd c n (B+2)/\o3 n g c
def Hi (v:cU h)(u:g_ q):Au (ak false 1 1 (sT h q)):=λn g B s hd=>by
 have x:mX (ak false 1 1 (sT h q) [.ref n] g) λpick=>∃k:Nat,pick.1 = .int k/\1<=k/\k<=5/\Hd pick.2 n (B+2)/\o3 n g pick.2:=by
  refine OU rfl ?_;simp[sT];refine v.w (by omega) (by decide) (by decide) hd λr H o p take C=>?_;have z:ax 8=true:=rfl;simp[z];refine u.w (by omega) (by simp) (by simp) take λd I hm y E=>?_;refine⟨(C.trans E).1,?_⟩;have:∃k:Nat,d = .int k/\1<=k/\k<=5:=by
   simp only[nF,x5,or_false]at hm;rcases hm with rfl|rfl|rfl|rfl|rfl|rfl|rfl|rfl
   . exact⟨1,rfl,by decide,by decide⟩
   . exact⟨2,rfl,by decide,by decide⟩
   . exact⟨2,rfl,by decide,by decide⟩
   . exact⟨3,rfl,by decide,by decide⟩
   . exact⟨3,rfl,by decide,by decide⟩
   . exact⟨2,rfl,by decide,by decide⟩
   . exact⟨3,rfl,by decide,by decide⟩
   . exact⟨(4+r).toNat,by rw[ZU (by omega)],by omega,by omega⟩
  obtain⟨k,rfl,b,f⟩:=this;exact⟨k,rfl,b,f,y.mono (by omega),C.trans E⟩
 obtain⟨⟨d,c⟩,e,k,rfl,l,i,a,j⟩:=x;exact⟨k,c,e,l,i,a,j⟩
noncomputable def Av (f:Fn):Prop:=∀n (k:Nat) g (B:Int),k<=20->B+k<2 ^ 40->Hd g n B->∃(is:List Nat) (c:G),f [.ref n,.int k] g=some (.tup (is.map λ(i:Nat)=>D.int i),c)/\is.length=k/\Hd c n (B+k)/\o3 n g c
def Hj (z:g_ h):Av (ak false 2 2 (sR h)):=λn k g B v x hd=>by
 have E:mX (ak false 2 2 (sR h) [.ref n,.int k] g) λq=>∃is:List Nat,q.1 = .tup (is.map λ(i:Nat)=>D.int i)/\is.length=k/\Hd q.2 n (B+k)/\o3 n g q.2:=by
  refine OU rfl ?_;simp[sR];refine sQ ?_;have l:ax k=true:=aH (by omega);simp[cz,l];refine⟨by omega,?_⟩;refine kI (λj C H a=>(∃pick,H = [none,pick,some (.ref n)])/\(∃is:List Nat,C=is.map (λ(i:Nat)=>D.int i)/\is.length=j)/\Hd a n (B+j)/\o3 n g a) _ 0 _ _ [] ⟨⟨none,rfl⟩,⟨[],by simp,rfl⟩,by simpa using hd,.refl⟩ ?_ ?_
  . rintro j d C H a p ⟨⟨pick,rfl⟩,⟨is,rfl,b⟩,f,c⟩
    obtain⟨y,rfl⟩:=di p;have s:ax 7=true:=rfl;simp[s];refine z.w (by omega) (by simp) (by simp) f λd M hm I J=>?_;have:∃k:Nat,d = .int k:=by
     simp only[nF,x5,or_false]at hm;rcases hm with rfl|rfl|rfl|rfl|rfl|rfl|rfl
     . exact⟨0,rfl⟩
     . exact⟨1,rfl⟩
     . exact⟨2,rfl⟩
     . exact⟨3,rfl⟩
     . exact⟨8,rfl⟩
     . exact⟨9,rfl⟩
     . exact⟨11,rfl⟩
    obtain⟨i,rfl⟩:=this;simp at b;exact⟨⟨is ++ [i],by simp,by simp[b]⟩,I.mono (by omega),c.trans J⟩
  . rintro O H a ⟨_,⟨is,e,b⟩,f,c⟩
    simp[cz]at e b f;subst e;simp[bA,b,l];exact⟨c.1,is,rfl,b,f,c⟩
 obtain⟨⟨d,a⟩,e,is,rfl,u,r,o⟩:=E;exact⟨is,a,e,u,r,o⟩
def Bd.app (h:Bd a)(g:∀y∈U,aC (a.length+U.length) y=true):Bd (a++U):=λi c e=>by
 rw[nv];by_cases n:i<a.length
 . rw[r_ n]at e
   exact eu (XN _ _) (h i c e)
 . rw[Fq (by omega)]at e
   exact g c (sZ e)
theorem Bd.set (h:Bd a)(b:aC a.length A=true):Bd (a.set n A):=λi p e=>by
 rw[QJ];by_cases c:i=n
 . subst c
   have g:i<a.length:=by have:=(mT.mp e).1;simpa using this
   rw[t7 g]at e;cases e;exact b
 . rw[p7 (n7 c)]at e
   exact h i p e
def EL (f:Hd a n i)(e:a[n]? = some A):aC p A=true:=by obtain⟨g,b,c,d,_⟩:=f;rw[d]at e;cases e;simp[aC,bU]
def Bd.fr (b:Bd a)(f:o3 n a U)(h:Hd U n i):Bd U:=λg p e=>by
 by_cases c:g=n
 . subst c;exact EL h e
 . rw[f.1];rw[f.2 g c]at e;exact b g p e
def Bd.hand (b:Bd a)(c:Hd (a ++ [A]) a.length i):Bd (a ++ [A]):=b.app λy g=>by simp at g;subst g;exact EL c (by simp)
def Hd.app (f:Hd a n i):Hd (a++U) n i:=by obtain⟨g,b,c,d,e⟩:=f;exact⟨g,b,c,by rw[r_ (mT.mp d).1];exact d,e⟩
noncomputable def u4:FT:=ay (ag oLe (ag bf ef bg) (aj cg (ae cT af)))
noncomputable def PC (R:Str->Option Fn):FS:=qL 6 (λi j=>i+j) bR
noncomputable def B7 (R:Str->Option Fn):FS:=aw (cA (ay (ag ma (aj cg (ae eP af)) dV)) (aP (aJ aB (ae ef (ae (aj ((j9 lK iR)) (ae eP af)) af)))) a_) (PC R)
noncomputable def Xu (R:Str->Option Fn):FS:=aw (aF (bH bA (dg eW) [none,none,some 2,some 5] (gN 1) (ay (ag oEq (ag ao cT bg) b0)) bg) (gN 9)) (B7 R)
noncomputable def Xv (R:Str->Option Fn):FS:=aw (dF (dg eW) (gN 8) (aF (ag bf (dh j6 kM d4 (ae eX (ae dV af))) cP) (dC d4 eX))) (Xu R)
noncomputable def Xw (R:Str->Option Fn):FS:=aw (cA (ay (ag oEq (aj cg (ae eW af)) dV)) (aP (aJ aB (ae ef (ae fb af)))) a_) (Xv R)
noncomputable def oY (R:Str->Option Fn):FS:=aw (aF (iU R 4 (ae (d_ cT (bL ef) (bL (ag bf ef bg))) af)) (gN 7)) (Xw R)
noncomputable def hZ (R:Str->Option Fn):FS:=aw (aF j7 (gN 5)) (aw (aF dV (gN 6)) (aw (zm 1000000 (ay (ag oLe (ag bf ef bg) (aj cg (ae cT af)))) (aw (aF (iU R 4 (ae (d_ cT (bL ef) (bL (ag bf ef bg))) af)) (gN 7)) (aw (cA (ay (ag oEq (aj cg (ae eW af)) dV)) (aP (aJ aB (ae ef (ae fb af)))) a_) (aw (dF (dg eW) (gN 8) (aF (ag bf (dh j6 kM d4 (ae eX (ae dV af))) cP) (dC d4 eX))) (aw (aF (bH bA (dg eW) [none,none,some 2,some 5] (gN 1) (ay (ag oEq (ag ao cT bg) b0)) bg) (gN 9)) (aw (cA (ay (ag ma (aj cg (ae eP af)) dV)) (aP (aJ aB (ae ef (ae (aj ((j9 lK iR)) (ae eP af)) af)))) a_) (qL 6 (λi j=>i+j) bR))))))) (aP fb)))
noncomputable def num:D->Int
 |.tup (_ :: .int m::_)=>m|_=>0
noncomputable def IH (c:D):Prop:=∃v m r,c = .tup (v :: .int m::r)
noncomputable def dN (l:List Nat):List D:=l.map λ(j:Nat)=>D.int j
def cW {l}:(dN l).length=l.length:=by simp[dN]
structure SD (sd:List D)(f:Nat->Nat)(N:Nat):Prop where
 ka:dH sd=true
 at_:∀j:Nat,aI sd (.int j)=if f j=0 then none else some (.int (f j))
 len:sd.length<=N
 nr:aC 0 sd=true
def SD.put {d f N}(h:SD d f N)(j:Nat):SD (aQ d (.int j) (.int (f j+1:Nat))) (λi=>f i+if i=j then 1 else 0) (N+2):=by
 refine⟨kS rfl h.ka,λi=>?_,?_,jr rfl rfl h.nr⟩
 . by_cases e:i=j
   . subst e
     rw[iz rfl h.ka];simp
   . rw[mH rfl rfl (λz=>e (by injection z with z;omega)) h.ka,h.at_]
     simp[e]
 . have:∀(g:List D) k v,(aQ g k v).length<=g.length+2:=λg k v=>by
     have:∀(n:Nat) (g:List D),g.length<=n->(aQ g k v).length<=g.length+2:=λn=>by
      induction n with
      |zero=>intro g c;match g,c with| [],_=>simp[aQ]
      |succ n p =>
       intro g c;match g,c with
       | [],_=>simp[aQ]| [a],_=>simp[aQ]
       |a::b::r,c =>
        simp only[aQ];split
        . simp
        . have:=p r (by simp at c;omega)
          simp;omega
     exact this _ g (nc _)
   have:=this d (.int j) (.int (f j+1:Nat));have:=h.len;omega
noncomputable def cM (f:Nat->Nat)(l:List Nat):Nat->Nat:=λi=>f i+if i∈l then 1 else 0
noncomputable def i8 (f:Nat->Nat)(c:D)(l:List Nat):List Nat:=l.filter λj=>bq (.int (f j:Nat)) c
def ua {rd:List D}{m:Nat}(h:s+m<=rd.length):wu rd (some (s:Int)) (some ((s+m:Nat):Int))=(rd.drop s).take m:=by unfold wu;rw[m8 (by omega),wU h,show s+m-s=m by omega]
def LA {σ:Sg}{g:G}(v:g[n]? = some A)(S:SD A f p)(nd:l.Nodup)(x:p+2*l.length<=900)(y:σ[5]? = some (some (.az n)))(u:σ.length=10):
  ∃B C,forL (gN 8) (aF (ag bf (dh j6 kM d4 (ae eX (ae dV af))) cP) (dC d4 eX)) (dN l) σ g=some (.nx,σ.set 8 C,g.set n B)/\SD B (cM f l) (p+2*l.length)/\(l = []->σ.set 8 C=σ):=by
 induction l generalizing σ g A f p with
 |nil =>
  refine⟨A,σ[8]'(by omega),?_,⟨S.ka,λj=>by simp[cM,S.at_],S.len,S.nr⟩,λ_=>by simp⟩;simp only[dN,ahb,forL];rw[UG];obtain⟨b,e⟩:=mT.mp v;rw[<- e,UG]
 |cons j l E =>
  rw[Dy]at nd;simp only[z6]at x;have b:=(mT.mp v).1;have s:=S.put j;have h:(aI A (.int j)).getD (.int 0)= .int (f j:Nat):=by
    rw[S.at_ j];by_cases e:f j=0
    . simp[e]
    . simp[e]
  have q:iy A=true:=by unfold iy;exact aH (by have:=S.len;omega)
  have c:(σ.set 8 (some (.int j)))[5]? = some (some (.az n)):=by rw[p7 (by decide)];exact y
  have r:(σ.set 8 (some (D.int j)))[8]? = some (some (.int j)):=t7 (by omega);have o:aF (ag bf (dh j6 kM d4 (ae eX (ae dV af))) cP) (dC d4 eX) (σ.set 8 (some (.int j))) g=some (.nx,σ.set 8 (some (.int j)),g.set n (aQ A (.int j) (.int (f j+1:Nat)))):=by simp[c,r,v,h,q]
  obtain⟨B,C,d,a,_⟩:=E (σ:=σ.set 8 (some (.int j))) (g:=g.set n (aQ A (.int j) (.int (f j+1:Nat)))) (t7 b) s nd.2 (by omega) c (by simp[u]);refine⟨B,C,?_,?_,λz=>by cases z⟩
  . simp only[dN,yp,forL]at d ⊢
    rw[show gN 8 (D.int j) σ g=some (σ.set 8 (some (.int j)),g) from rfl];simp only[m5,o];rw[d,W3,W3]
  . refine⟨a.ka,λi=>?_,by have:=a.len;simp only[z6];omega,a.nr⟩
    rw[a.at_ i];have:cM (λi=>f i+if i=j then 1 else 0) l i=cM f (j::l) i:=by
      unfold cM;by_cases e:i=j
      . subst e;simp[nd.1]
      . simp[e]
    rw[this]
theorem x6 {q:Nat}{g:G}{c:List D}{f:Nat->Nat}{p:D}(d:g[q]? = some c)(n:flat p=true):∀(l:List Nat),(∀j∈l,aI c (.int j)=some (.int (f j:Nat)))->∀u,cZ (gN 1) (ay (ag oEq (ag ao cT bg) b0)) bg (dN l) [none,u,some p,some (.az q)] g=some (dN (i8 f p l),g)
 | [],_,_=>rfl
 |j::l,h,u=>by
  have r:=x6 (f:=f) d n l (λi b=>h i (by simp[b])) (some (.int j));have a:=h j (by simp);have e:oEq (.int (f j:Nat)) p g=some (.bl (bq (.int (f j:Nat)) p),g):=by simp[oEq,flat,n,dep]
  simp only[dN,yp]at r ⊢;simp only[cZ];simp[d,a,e];by_cases hc:bq (.int (f j:Nat)) p=true
  . simp[hc,r,i8,dN]
  . simp[hc,r,i8,dN]
def PD {g:G}(h:n∈l)(i:∀j∈l,n<=j):j9 lK iR [.lst (dN l)] g=some (.int n,g):=by
 have e:fG (dN l)=some (l.map λ(j:Nat)=>(j:Int)):=by have:=baH (l.map λ(j:Nat)=>(j:Int));rw[E5]at this;exact this
 have m:(l.map λ(j:Nat)=>(j:Int)).min? = some (n:Int):=by rw[agy];refine⟨nP.mpr ⟨n,h,rfl⟩,λb c=>?_⟩;obtain⟨j,a,rfl⟩:=nP.mp c;have:=i j a;omega
 show iR [.lst (dN l)] g=_;simp[fg,e,m]
theorem oZ {n:Nat}{rest:List D}:∀{cs:List (List D)} {k:Nat},(∀c∈cs,c.length=n)->k<=cs.length->(cs.flatten++rest).drop (k*n)=(cs.drop k).flatten++rest
 |cs,0,_,_=>by simp| [],k+1,_,h=>by simp at h|c::cs,k+1,g,h=>by have b:c.length=n:=g c (by simp);have i:=oZ (rest:=rest) (cs:=cs) (k:=k) (λx a=>g x (by simp[a])) (by simpa using h);rw[PK,Fm,show(k+1)*n=c.length+k*n by rw[IA,b];omega,List.drop_length_add_append,i];simp
theorem kT {n:Nat}:∀{g:List (List D)},(∀c∈g,c.length=n)->g.flatten.length=g.length*n
 | [],_=>by simp|c::g,h=>by rw[PK,nv,kT λx a=>h x (by simp[a]),h c (by simp),z6,IA];omega
noncomputable def eD:Option Nat->D
 |none=>.aA|some j=>.int j
def last_eq:hZ R=aw (aF j7 (gN 5)) (aw (aF dV (gN 6)) (aw (zm 1000000 u4 (oY R)) (aP fb))):=rfl
def wp_seq (h:mX (b d a) λr=>r.1 = .nx/\mX (I r.2.1 r.2.2) B):mX (aw b I d a) B:=by obtain⟨⟨r,c,n⟩,e,g,i⟩:=h;dsimp only at g i;subst g;rw[pF,e];exact i
def dS {σ1:Sg}{g1:G}{f1:FS}(h:f1 d a=some (.nx,σ1,g1))(k:b σ1 g1=t):aw f1 b d a=t:=(jL h).trans k
def dE {g1:G}{d:D}(h:C E a=some (d,g1))(k:b (E.set n (some d)) g1=t):aw (aF C (gN n)) b E a=t:=dS (j_ h) k
def iV {g1:G}{g2:G}{d:D}(t:Y E a=some (true,g1))(h:C E g1=some (d,g2)):aw (cA Y (aP C) b) I E a=some (.rt d,E,g2):=xZ ((nB t).trans (fu h))
def cX {σ1:Sg}{g1:G}{f1:FS}(h:f1 d a=some (.nx,σ1,g1))(k:mX (b σ1 g1) B):mX (aw f1 b d a) B:=by rw[jL h];exact k
def gA {g1:G}{d:D}(h:C E a=some (d,g1))(k:mX (b (E.set n (some d)) g1) B):mX (aw (aF C (gN n)) b E a) B:=cX (j_ h) k
def B8 (t:Y d a=some (true,U))(h:b d U=some (.nx,E,z)):k9 Y b (k+1) d a=k9 Y b k E z:=by simp only[k9,t,m5,if_true,h]
def B9 (t:Y d a=some (true,U))(h:b d U=some (.rt v,E,z)):k9 Y b (k+1) d a=some (.rt v,E,z):=by simp only[k9,t,m5,if_true,h]
def ck {g1:G}{g2:G}{d:D}{d':D}{o:D->D->G->Option (D×G)}(h:C E a=some (d,g1))(k:m E g1=some (d',g2)):ag o C m E a=o d d' g2:=by simp[h,k]
def PH (h:C d a=some (v,U))(k:m d U=some (y,z)):oC n p (ae C (ae m af)) d a=some (.nx,(d.set n (some v)).set p (some y),z):=by simp[h,k]
def h_ {σ:Sg}{g:G}{g1:G}{fr:FA}(h:fr σ g=some ([.int n],g1))(b:n<=1000):dX fr σ g=some (fS 0 n,g1):=by obtain⟨q,a,e⟩:=sQ (fr:=fr) (σ:=σ) (g:=g) (Q:=λq=>q=(fS 0 n,g1)) ⟨_,h,n,rfl,by omega,by omega,by simp⟩;rw[a,e]
def mJ:aS (dN l)=true:=by
 induction l with
 |nil=>rfl|cons x l c=>exact c
noncomputable def fN (n:Nat)(c:D)(g:List D)(a:D)(q:Nat)(wm:Nat)(h i p:Option D):Sg:=[some (.int n),some (.int n),some c,some (.tup g),some a,some (.az q),some (.int wm),h,i,p]
def u5 {y:Str}{ds:List D}{fn:Fn}(h:d[n]? = some (some (.fn y ds)))(i:R y=some fn):iU R n r d a=(r d a).bind λq=>fn (ds++q.1) q.2:=by unfold iU;rw[h];simp[i]
structure Aw (R:Str->Option Fn)(fn:Fn)(nm:Str)(cap:List D)(n q wm N:Nat)(mv:D)(rd w:List D)(ms:List Nat)(sd:List D)(f:Nat->Nat)(g:G):Prop where
 hR:R nm=some fn
 hw:(rd.drop wm).take n=w
 hf:∀g,fn (cap ++ [.tup w]) g=some (.lst (dN ms),g)
 nd:ms.Nodup
 ml:ms.length<=20
 hs:wm+n<=rd.length
 hq:g[q]? = some sd
 S:SD sd f N
 hN:N+40<=900
 fm:flat mv=true
def x8 {fn:Fn}{rd:List D}(H:Aw R fn x A n p o k v rd X l M f a):(aF (iU R 4 (ae (d_ cT (bL ef) (bL (ag bf ef bg))) af)) (gN 7)) (fN n v rd (.fn x A) p o Q O K) a=some (.nx,fN n v rd (.fn x A) p o (some (.lst (dN l))) O K,a):=by have nm:=ua (rd:=rd) (s:=o) (m:=n) H.hs;rw[H.hw]at nm;refine j_ ?_;rw[u5 (y:=x) (ds:=A) (fn:=fn) rfl H.hR];simp[fN,jS];rw[show(o:Int)+(n:Int)=((o+n:Nat):Int) by simp,nm];exact H.hf a
def LB {o7:Option D}{o8:Option D}{o9:Option D}(H:Aw R h x A n p o s v X M l J f a)(b:l = []):∃c,oY R (fN n v X (.fn x A) p o o7 o8 o9) a=some (.rt (.tup [.int o,.aA]),c,a):=by have fn:ax 2=true:=rfl;exact⟨_,dS (x8 H) (iV (g1:=a) (d:=.tup [.int o,.aA]) (g2:=a) (by simp[fN,b,dN]) (by simp[fN,fn]))⟩
def EM {g:List Nat}{o7:Option D}{o8:Option D}{o9:Option D}(H:Aw R h x A n p o s v X M g J f a)(q:g ≠ []):∃u y,oY R (fN n v X (.fn x A) p o o7 o8 o9) a=B7 R (fN n v X (.fn x A) p o (some (.lst (dN g))) y (some (.lst (dN (i8 (cM f g) v g))))) (a.set p u)/\SD u (cM f g) (s+40):=by
 have r:=H.ml;refine He (LA (l:=g) (σ:=fN n v X (.fn x A) p o (some (.lst (dN g))) o8 o9) H.hq H.S H.nd (by have:=H.hN;omega) rfl rfl) λu y fn wm _=>?_;have b:SD u (cM f g) (s+40):=⟨wm.ka,wm.at_,by have:=wm.len;omega,wm.nr⟩
 have i:(a.set p u)[p]? = some u:=t7 (mT.mp H.hq).1;have B:=x6 (f:=cM f g) i H.fm g (λj c=>by rw[b.at_ j,if_neg];simp[cM,c]) none
 have e:¬((g.length:Int)=0):=λz=>q (ZW.mp (by omega));have nm:ax g.length=true:=aH (by omega);exact⟨u,y,dS (x8 H) (dS ((eQ (g1:=a) (by simp[fN,cW,e,q])).trans rfl) (dS (f1:=dF (dg eW) (gN 8) (aF (ag bf (dh j6 kM d4 (ae eX (ae dV af))) cP) (dC d4 eX))) fn (dE (d:=.lst (dN (i8 (cM f g) v g))) (g1:=a.set p u) (by simp[fN,dg,bD,cW,nm,bZ,B,bA]) rfl))),b⟩
def Jb {o7:Option D}{o8:Option D}{o9:Option D}(H:Aw R h x A n p o s v X M l J f a)(fn:l ≠ [])(b:i8 (cM f l) v l = []):∃c i g q,oY R (fN n v X (.fn x A) p o o7 o8 o9) a=some (.nx,fN n v X (.fn x A) p (o+n) i g q,a.set p c)/\SD c (cM f l) (s+40):=by obtain⟨c,g,e,S⟩:=EM (o7:=o7) (o8:=o8) (o9:=o9) H fn;refine⟨c,some (.lst (dN l)),g,some (.lst (dN [])),?_,S⟩;rw[e,b];unfold B7 PC;simp[fN,dN]
def PJ {g:G}{o7:Option D}{o8:Option D}{o9:Option D}(H:Aw R h x A n o s k v X M l J f g)(d:l ≠ [])(fn:p∈i8 (cM f l) v l)(i:∀j∈i8 (cM f l) v l,p<=j):∃q r,oY R (fN n v X (.fn x A) o s o7 o8 o9) g=some (.rt (.tup [.int s,.int p]),r,g.set o q):=by obtain⟨q,c,e,S⟩:=EM (o7:=o7) (o8:=o8) (o9:=o9) H d;refine⟨q,fN n v X (.fn x A) o s (some (.lst (dN l))) c (some (.lst (dN (i8 (cM f l) v l)))),?_⟩;rw[e];have hm:=PD (g:=g.set o q) fn i;have b:0<(i8 (cM f l) v l).length:=List.length_pos_of_mem fn;have a:ax 2=true:=rfl;unfold B7;simp[fN,cW,b,hm,a]
noncomputable def cE (ps:List (List Nat)):Nat->Nat->Nat
 | 0,_=>0|k+1,j=>cE ps k j+if j∈ps.getD k []then 1 else 0
def x9:cM (cE Z k) (Z.getD k [])=cE Z (k+1):=rfl
noncomputable def cG (c:D)(ps:List (List Nat))(i:Nat):Prop:=ps.getD i [] ≠ []/\i8 (cE ps (i+1)) c (ps.getD i [])= []
noncomputable def gB (c:D)(ps:List (List Nat))(i:Nat):Option Nat->Prop
 |none=>ps.getD i []= []|some j=>ps.getD i [] ≠ []/\j∈i8 (cE ps (i+1)) c (ps.getD i []) /\ ∀k∈i8 (cE ps (i+1)) c (ps.getD i []),j<=k
structure Ax (fn:Fn)(cap:List D)(n:Nat)(ws:List (List D))(ps:List (List Nat)):Prop where
 len:∀w∈ws,w.length=n
 lp:ps.length=ws.length
 n1:1<=n
 cC:ws.length<=20
 at_:∀i,i<ws.length->(∀g,fn (cap ++ [.tup (ws.getD i [])]) g=some (.lst (dN (ps.getD i [])),g))/\(ps.getD i []).Nodup/\(ps.getD i []).length<=20
def LC (a:∀w∈T,w.length=n)(h:k<T.length):((T.flatten++A).drop (k*n)).take n=T.getD k []:=by
 rw[oZ a (by omega),VX h,PK,Fm];have e:T.getD k []=T[k]:=by rw[Np,nz h];rfl
 rw[e,aeY (by rw[a _ (Cv h)];exact nc _),Vu (by rw[a _ (Cv h)];exact nc _)]
def x_ {rest:List D}(hR:R x=some h)(i:Ax h X n T Z)(d:flat v=true)(g:k<T.length)(c:a[p]? = some A)(S:SD A (cE Z k) (k*40)):
   Aw R h x X n p (k*n) (k*40) v (T.flatten++rest) (T.getD k []) (Z.getD k []) A (cE Z k) a:=by
 obtain⟨q,r,b⟩:=i.at_ k g;refine⟨hR,LC i.len g,q,r,b,?_,c,S,?_,d⟩
 . rw[nv,kT i.len]
   have:(k+1)*n<=T.length*n:=Nat.mul_le_mul_right _ (by omega);rw[IA]at this;omega
 . have:=i.cC;omega
def nD (h:p+n<=A.length):u4 (fN n y A v o p Q O K) a=some (true,a):=by
 have e:((p:Int)+(n:Int)<=(A.length:Int)):=by omega
 simp[u4,fN,fL,e]
def EN (h:A.length<p+n):u4 (fN n y A v o p Q O K) a=some (false,a):=by
 have e:¬((p:Int)+(n:Int)<=(A.length:Int)):=by omega
 simp[u4,fN,fL,e]
section
variable {q:Nat}{rest:List D}
theorem Ay (hR:R x=some h)(y:Ax h A n T Z)(r:flat v=true)(s:rest.length<n):∀(m k u:Nat) (g:G) (sd:List D) (o7 o8 o9:Option D),k+m=T.length->m<u->g[q]? = some sd->SD sd (cE Z k) (k*40)->(∀i,k<=i->i<T.length->cG v Z i) ->
  ∃B C,k9 u4 (oY R) u (fN n v (T.flatten++rest) (.fn x A) q (k*n) o7 o8 o9) g=some (.nx,B,g.set q C)/\aC 0 C=true
 | 0,k,u+1,g,sd,o7,o8,o9,hk,I,hq,S,E=>by
  refine⟨fN n v (T.flatten++rest) (.fn x A) q (k*n) o7 o8 o9,sd,?_,S.nr⟩;simp only[k9];rw[EN (by rw[nv,kT y.len,<- hk];simp only[Nat.add_zero];omega)]
  obtain⟨b,e⟩:=mT.mp hq;simp only[m5,rk,if_false];rw[<- e,UG]
 |m+1,k,u+1,g,sd,o7,o8,o9,hk,I,hq,S,E=>by have H:=x_ (rest:=rest) hR y r (show k<T.length by omega) hq S;obtain⟨J,c⟩:=E k (nc _) (by omega);obtain⟨C,fn,d,l,e,a⟩:=Jb (o7:=o7) (o8:=o8) (o9:=o9) H J (by rw[x9];exact c);rw[x9]at a;have b:=(mT.mp hq).1;obtain⟨B,f,o,j⟩:=Ay hR y r s m (k+1) u (g.set q C) C fn d l (by omega) (by omega) (t7 b) ⟨a.ka,a.at_,by have:=a.len;rw[IA];omega,a.nr⟩ λi p=>E i (by omega);refine⟨B,f,(B8 (nD H.hs) e).trans ?_,j⟩;rw[show k*n+n=(k+1)*n by rw[IA];omega,o,W3]
end
section
variable {q:Nat}{rest:List D}
theorem Az (hR:R x=some h)(C:Ax h A n T Z)(nm:flat v=true){en:Option Nat}:∀(m k y:Nat) (g:G) (sd:List D) (o7 o8 o9:Option D),k+1+m=T.length->m<y->g[q]? = some sd->SD sd (cE Z k) (k*40)->(∀i,k<=i->i+1<T.length->cG v Z i)->gB v Z (T.length-1) en ->
  ∃B E,k9 u4 (oY R) y (fN n v (T.flatten++rest) (.fn x A) q (k*n) o7 o8 o9) g=some (.rt (.tup [.int ((T.length-1)*n:Nat),eD en]),B,g.set q E)
 | 0,k,y+1,g,sd,o7,o8,o9,hk,O,hq,S,J,I=>by
  have H:=x_ (rest:=rest) hR C nm (show k<T.length by omega) hq S;have r:T.length-1=k:=by omega
  rw[r]at I ⊢;cases en with
  |none =>
   obtain⟨B,e⟩:=LB (o7:=o7) (o8:=o8) (o9:=o9) H I;refine⟨B,sd,(B9 (nD H.hs) e).trans ?_⟩;obtain⟨c,fn⟩:=mT.mp hq;rw[<- fn,UG];rfl
  |some j =>
   obtain⟨M,b,d⟩:=I;rw[<- x9]at b d;obtain⟨E,B,e⟩:=PJ (o7:=o7) (o8:=o8) (o9:=o9) H M b d;exact⟨B,E,B9 (nD H.hs) e⟩
 |m+1,k,y+1,g,sd,o7,o8,o9,hk,O,hq,S,J,I=>by have H:=x_ (rest:=rest) hR C nm (show k<T.length by omega) hq S;obtain⟨M,b⟩:=J k (nc _) (by omega);obtain⟨E,p,l,f,e,a⟩:=Jb (o7:=o7) (o8:=o8) (o9:=o9) H M (by rw[x9];exact b);rw[x9]at a;have c:=(mT.mp hq).1;obtain⟨B,o,s⟩:=Az hR C nm (en:=en) m (k+1) y (g.set q E) E p l f (by omega) (by omega) (t7 c) ⟨a.ka,a.at_,by have:=a.len;rw[IA];omega,a.nr⟩ (λi u=>J i (by omega)) I;refine⟨B,o,(B8 (nD H.hs) e).trans ?_⟩;rw[show k*n+n=(k+1)*n by rw[IA];omega,s,W3]
end
def u6 {d:D}(b:bU 0 d=true)(h:aw (zm 1000000 u4 (oY R)) (aP fb) (fN n y X v 0 0 none none none) [[]]=some (.rt d,E,[A])):ak false 10 5 (hZ R) [.int n,.int n,y,.tup X,v] []=some (d,[]):=by
 have c:mX (ak false 10 5 (hZ R) [.int n,.int n,y,.tup X,v] []) λq=>q=(d,[]):=by refine mf rfl ?_;rw[last_eq];refine gA (d:=.az 0) (g1:=[[]]) rfl (gA (d:=.int 0) (g1:=[[]]) rfl ⟨_,h,?_⟩);exact⟨b,by simp,by simp,by simp⟩
 obtain⟨q,e,rfl⟩:=c;exact e
def PM:SD [] (cE Z 0) n:=⟨rfl,λj=>by simp[aI,cE],by simp,rfl⟩
def B_ {mv:D}{rest:List D}(hR:R x=some h)(D:Ax h A n T Z)(f:flat mv=true)(c:rest.length<n)(d:∀i,i<T.length->cG mv Z i):ak false 10 5 (hZ R) [.int n,.int n,mv,.tup (T.flatten++rest),.fn x A] []=some (.aA,[]):=by obtain⟨b,a,e,_⟩:=Ay (q:=0) (rest:=rest) hR D f c T.length 0 1000000 [[]] [] none none none (by omega) (by have:=D.cC;omega) rfl PM λi _=>d i;rw[Nat.zero_mul]at e;exact u6 rfl ((jL e).trans rfl)
def Ca {mv:D}{rest:List D}(hR:R x=some h)(D:Ax h A n T Z)(f:flat mv=true)(fn:1<=T.length){en:Option Nat}(d:∀i,i+1<T.length->cG mv Z i)(c:gB mv Z (T.length-1) en):ak false 10 5 (hZ R) [.int n,.int n,mv,.tup (T.flatten++rest),.fn x A] []=some (.tup [.int ((T.length-1)*n:Nat),eD en],[]):=by obtain⟨b,a,e⟩:=Az (q:=0) (rest:=rest) hR D f (T.length-1) 0 1000000 [[]] [] none none none (by omega) (by have:=D.cC;omega) rfl PM (λi _=>d i) c;rw[Nat.zero_mul]at e;refine u6 ?_ (xZ e);cases en<;>simp[bU,aC,eD]
end
section
variable {Z:List Int}{j r:List D}{Y X K:Nat}{U T Q O M E:Fn}{R y:Str->Option Fn}{J:List Nat}{I:Option (F×Sg×G)}{H:FS}{b c:D}
theorem u7 (val:Nat->Int):∀(n:Nat) (k:Int),k∈bO val n ↔ ∃i,i<n/\val i=k
 | 0,k=>by simp[bO]
 |n+1,k=>by
  have c:=u7 val n;unfold bO kB;have:k∈(if val n∈bO val n then bO val n else bO val n ++ [val n])↔ k∈bO val n\/k=val n:=by
    split
    . rename_i h
      exact⟨.inl,λa=>by rcases a with a|rfl;exact a;exact h⟩
    . simp
  rw[this,c];constructor
  . rintro(⟨i,b,a⟩|rfl)
    . exact⟨i,by omega,a⟩
    . exact⟨n,by omega,rfl⟩
  . rintro⟨i,b,a⟩
    by_cases e:i=n
    . subst e;exact .inr a.symm
    . exact .inl ⟨i,by omega,a⟩
theorem ya (val:Nat->Int):∀n,(bO val n).Nodup
 | 0=>TF
 |n+1=>by
  have g:=ya val n;unfold bO kB;split
  . exact g
  . rename_i h
    rw[TJ];exact⟨g,by simp,λa d b c z=>by simp at c;subst c;subst z;exact h d⟩
def Hk (c:List Int)(k:Int):k∈bO (λi=>c.getD i 0) c.length ↔ k∈c:=by
 rw[u7,OX];constructor
 . rintro⟨i,a,b⟩
   exact⟨i,a,by simpa[a]using b⟩
 . rintro⟨i,a,b⟩
   exact⟨i,a,by simpa[a]using b⟩
def EO {L ms:List Nat}(h:∀j,j∈ms ↔ j∈L)(nd:ms.Nodup)(d:ms.Pairwise (· <= ·)):Ts (bO (λi=>(L.map λ(j:Nat)=>(j:Int)).getD i 0) (L.map λ(j:Nat)=>(j:Int)).length)=ms.map λ(j:Nat)=>(j:Int):=by
 refine(af6 ((List.perm_ext_iff_of_nodup (baC (λa _ b _ e=>by omega) nd) (ya _ _)).mpr λk=>?_) ?_).symm
 . rw[Hk]
   simp only[nP];exact⟨λ⟨j,c,e⟩=>⟨j,(h j).mp c,e⟩,λ⟨j,c,e⟩=>⟨j,(h j).mpr c,e⟩⟩
 . rw[ahv]
   exact d.imp λh=>by omega
noncomputable def b_ (n o:Nat):List Nat:=(r6 n).filter λj=>!(j == o)
noncomputable def av (n o c:Nat):List Nat:=if c=1 then b_ n o else []
def fR:p∈b_ n o ↔ p<n/\p≠o:=by simp[b_]
def ER:(b_ n o).Nodup:=af4.sublist adp
def ub:(b_ n o).length<=n:=by have:=acJ (λj=>!(j == o)) (r6 n);rw[List.length_range]at this;exact this
def gC {sh:Nat}:(av n o sh).length<=n:=by
 unfold av;split
 . exact ub
 . simp
def AA:s∈av n o p ↔ p=1/\s<n/\s≠o:=by
 unfold av;split
 . rename_i h;rw[fR];simp[h]
 . rename_i h;simp[h]
inductive SC (n:Nat):D->Prop
 |mk (v:D) (bs:List Int) (t:Int) (vw:List D) (hv:vG v) (hb:bs.length=n) (hw:vw.length=n) (ha:∀x∈vw,vG x):SC n (.tup [v,.tup (bs.map .int),.int t,.tup vw])
noncomputable def AB (c:D)(i:Nat):D:=match c with
 |.tup g=>g.getD i .aA|_=>.aA
noncomputable def Jc:D->Int
 |.int i=>i|_=>0
noncomputable def cB (c:D)(j:Nat):Int:=Jc (AB (AB c 1) j)
noncomputable def RI (c:D):D:=AB c 0
noncomputable def eA (g:List D):List D:=g.flatMap λc=>[c,.aA]
def js:(eA A).length=2*A.length:=by
 induction A with
 |nil=>rfl|cons c A g=>simp[eA]at g ⊢;omega
def ET (h:A[p]? = some c):(eA A)[2*p]? = some c:=by
 induction A generalizing p with
 |nil=>simp at h
 |cons d A g =>
  cases p with
  |zero=>simp at h;subst h;rfl
  |succ p =>
   have:=g (p:=p) (by simpa using h);simp only[eA,Wl]at this ⊢;rw[show 2*(p+1)=2*p+2 by omega];simpa using this
noncomputable def sgn (n o c:Nat)(g:List D)(j:Nat):Int:=cB (g.getD ((av n o c).idxOf j) .aA) o
def Sx {j:Int}:bp (.int i) (.int j) a=some (.bl (decide (i≠j)),a):=by
 by_cases e:i=j
 . subst e;simp[bp,flat,dep,bq]
 . simp[bp,flat,dep,bq,e]
mutual
theorem kU:∀d:D,flat d=true->nS d=true
 |.aA,_=>rfl|.bl _,_=>rfl|.int _,_=>rfl|.str _,_=>rfl|.tup c,h=>by simp only[nS];exact jN c (by simpa[flat]using h)|.lst c,h=>by simp only[nS];exact jN c (by simpa[flat]using h)|.dI,_=>rfl|.ref _,_=>rfl|.az _,_=>rfl|.fn _ _,h=>by simp[flat]at h
theorem jN:∀ds:List D,aS ds=true->ji ds=true
 | [],_=>rfl|d::ds,h=>by simp only[aS,mS]at h;simp only[ji,kU d h.1,jN ds h.2,Zf]
end
def gj (h:∀d∈A,flat d=true):aS A=true:=by
 induction A with
 |nil=>rfl|cons d A c=>simp only[aS,h d (by simp),c λx a=>h x (by simp[a]),Zf]
def mK {k:Nat}(h:∀d∈A,dep d<=k):bG A<=k:=by
 induction A with
 |nil=>simp[bG]|cons d A c=>simp only[bG];exact ahZ.mpr ⟨h d (by simp),c λx a=>h x (by simp[a])⟩
noncomputable def nT (R:Str->Option Fn):FS:=aw (aF (ag (cu e_ (· / ·)) (aj cg (ae cT af)) ej) (gN 4)) (aw (cA (ay (ag oEq (ag (cu dQ (· % ·)) (aj cg (ae cT af)) ej) dV)) (aP (aJ aB (ae jF (ae (ag ao bR ee) af)))) a_) (aP (aJ aB (ae (fC (.str "write")) (ae (ag ao bg ee) (ae (iU R 2 (ae (ag ao cT (rS mZ cP)) af)) af))))))
def Cb (q:r.length=2*p)(l:A[p]? = some b):ak false 5 4 (nT R) [.lst A,.lst j,v,.tup r] a=some (.tup [.str "read",b],a):=by
 have f:((r.length:Int) / 2)=(p:Int):=by omega
 have e:((r.length:Int) % 2)=0:=by omega
 have g:ax 2=true:=rfl;have c:e_ (r.length:Int) 2=true:=rfl;have h:dQ (r.length:Int) 2=true:=rfl;refine bS (σ':=[some (.lst A),some (.lst j),some v,some (.tup r),some (.int p)]) rfl ?_ rfl;have x:=gp l;simp[nT,c,h,f,e,x,g]
def EU {fn:Fn}{cap:List D}(hR:R x=some fn)(u:fn (cap ++ [c]) a=some (b,a))(s:(j ++ [c]).length=2*p+1)(q:r[p]? = some v):ak false 5 4 (nT R) [.lst A,.lst r,.fn x cap,.tup (j ++ [c])] a=some (.tup [.str "write",v,b],a):=by
 have l:j.length=2*p:=by simpa using s
 have h:(((j ++ [c]).length:Int) / 2)=(p:Int):=by rw[s];omega
 have i:¬(((j ++ [c]).length:Int) % 2)=0:=by rw[s];omega
 have d:ax 3=true:=rfl;have f:e_ ((j ++ [c]).length:Int) 2=true:=rfl;have e:dQ ((j ++ [c]).length:Int) 2=true:=rfl;have g:=gp q;have n:eI (j ++ [c]) (-1)=some c:=FW j c;generalize nm:j ++ [c]=W at *;refine bS (σ':=[some (.lst A),some (.lst r),some (.fn x cap),some (.tup W),some (.int p)]) rfl ?_ rfl;have ec:iU R 2 (ae (ag ao cT (rS mZ cP)) af) [some (.lst A),some (.lst r),some (.fn x cap),some (.tup W),some (.int p)] a=some (b,a):=by rw[u5 (y:=x) (ds:=cap) (fn:=fn) rfl hR];simp[gS,bD,n,u]
 simp[nT,f,e,h,i,g,d,ec]
noncomputable def cI (o j:Nat):D:=.tup [.str "sign",.int o,.int j]
noncomputable def baK (o:Nat)(a:Nat×D):List D:=[.tup [.str "read",own "own" a.1],.tup [.str "write",cI o a.1,.int (cB a.2 o)]]
def qU {g:G}(c:aC 0 A=true)(b:h A []=some (v,[]))(a:flat v=true):j8 h A g=some (v,g):=by unfold j8 gW;rw[if_pos c,b];simp only[m5];rw[if_pos (cw v a)];simp only[m5];rw[if_pos (kU v a)]
noncomputable abbrev ba3:=List D×List D×List D
noncomputable def o_ (a:Fn):FE:=aj a (ae bR (ae bg (ae b0 af)))
def EV {ks:List D}{g:G}(j:ks.length<=20):tM (.tup (eA ks++r)) none (some ((2*ks.length:Nat):Int)) (some 2) g=some (.tup ks,g):=by
 have hw:(eA ks).length=2*ks.length:=js;have len:(eA ks++r).length=2*ks.length+r.length:=by rw[nv,hw]
 have d:(bt (2*ks.length+r.length) none (some ((2*ks.length:Nat):Int)) 2).2=ks.length:=by simp only[bt,TL,XP];simp;split<;>omega
 have e:(bt (2*ks.length+r.length) none (some ((2*ks.length:Nat):Int)) 2).1=0:=by simp only[bt,TL,XP];simp
 have f:ax ks.length=true:=aH (by omega);unfold tM;simp only[len,d,f,e];rw[if_pos (by decide)];congr 3;unfold gv;have:∀(l:List Nat) (a b:Nat->Option D),(∀k∈l,a k=b k)->l.filterMap a=l.filterMap b:=λl a b h=>by
  induction l with
  |nil=>rfl|cons x r p=>rw[H0,H0,h x (by simp),p λk c=>h k (by simp[c])]
 rw[this _ _ (λk=>ks[k]?) λk c=>by rw[aed]at c;rw[show((0:Int)+(k:Int)*2).toNat=2*k by omega,r_ (by omega),nz c];exact ET (nz c)]
 have i:∀(n:List D),(r6 n.length).filterMap (λk=>n[k]?)=n:=λn=>by
  induction n with
  |nil=>rfl
  |cons x n p =>
   rw[z6,agk,H0];simp only[adq,ag_]
   exact congrArg (x :: ·) p
 exact i ks
noncomputable def BC (c:D):Prop:=∃v a t,c = .tup [v,.int a,.int t]/\vG v
theorem BC.flat (h:BC c):_root_.flat c=true:=by obtain⟨v,a,t,rfl,b⟩:=h;simp[_root_.flat,aS,b.1]
noncomputable def bI (c:List Int):List D:=c.map D.int
structure iB (m:D)(n p o tg sh mo:Nat)(num bb bu aG:Fn):Prop where
 hp:∀g,bb [m] g=some (.int p,g)
 ht:∀g,num [m,.str "toggles"] g=some (.int tg,g)
 hm:∀g,num [m,.str "moves"] g=some (.int mo,g)
 ho:∀g,bu [m,.int o] g=some (.lst (dN (b_ n o)),g)
 hs:∀g,aG [m,.int o] g=some (.lst (dN (av n o sh)),g)
 on:o<n
 n5:n<=5
 p1:1<=p
 p4:p<=4
 fm:flat m=true
noncomputable def jW (c g:Fn):FS:=aw (aF (ag (cu eE (· - ·)) (aj cg (ae b0 af)) (aj cg (ae (aj g (ae bR (ae bg af))) af))) (gN 3)) (aP (d_ b0 (bL (ag (cu eE (· - ·)) cT (aj c (ae bR af)))) (bL cT)))
noncomputable def qv (num:Fn):FS:=aw (cA (ay (ag bp (ag ao bg cP) (ag ao b0 cP))) (aP jP) a_) (aP (jy (ag oEq (aj num (ae bR (ae j0 af))) cP) (ag bp (ag ao bg ej) (ag ao b0 ej))))
def Ta:eI [v,b,c] 1=some b:=rfl
def Jd:eI [v,b,c] 0=some v:=rfl
noncomputable def Cc:FI:=su (ae eW (ae eX af))
noncomputable def Cd:FI:=su (ae cT (ae (w5 b0 fE (bL ee) (bL ej)) (ae d4 af)))
noncomputable def Je:FG:=gT 2 (aY (gN 10) (aY (gN 11) eZ))
noncomputable def EW (a:Fn):FS:=cA (iM (ay (ag ie (ag ao eh cP) eP)) (ia (aj a (ae bR (ae jo (ae eh af)))))) (dw (dh isRef bW ef (ae (ag ao eh cP) af))) a_
noncomputable def PQ (num c g h scF a:Fn):FS:=aw (aF (aj h (ae bR (ae bg af))) (gN 3)) (aw (aF (ag cK ej (aj cg (ae cT af))) (gN 4)) (aw (aF (d_ b0 (bL (ag (cu eE (· - ·)) (aj cg (ae b0 af)) (aj cg (ae cT af)))) fE) (gN 5)) (aw (aF (bH gJ Cd [none,none,none,none] (gT 3 (aY (gN 1) (aY (gN 2) (aY (gN 3) eZ)))) (ay (ag bp b0 cT)) bg) (gN 6)) (aw (aF (d_ b0 (bL ee) (bL (ag bf ee (aj c (ae bR af))))) (gN 7)) (aw (aF (aj scF (ae bR (ae bg (ae b0 af)))) (gN 8)) (aw (aF (aj g (ae bR (ae bg af))) (gN 9)) (aw (dF Cc Je (EW a)) (aP (oW ef)))))))))
noncomputable def cls (nm:Str)(o:Nat)(S:List Nat):List D:=S.map λ(j:Nat)=>D.tup [.str nm,.int j,.int o]
noncomputable def PR (a:Fn):FE:=bH bA (dg (aj a (ae bR (ae bg af)))) [none,none,some 1] (gN 1) cN (aJ aB (ae gb (ae bg (ae b0 af))))
noncomputable def PU (a:Fn):FE:=bH bA (dg (aj a (ae bR (ae bg af)))) [none,none,some 1] (gN 1) cN (aJ aB (ae jc (ae b0 (ae bg af))))
noncomputable def uZ (a colF b:Fn)(nm:Str):FS:=aw (aF (PR a) (gN 3)) (aw (cA (ay (ag oLt (aj cg (ae b0 af)) (ag cK ej (aj cg (ae cT af))))) (aw (aF (PU a) (gN 4)) (aP (aj (j8 b) (ae cT (ae ee (ae (tW nm []) (ae b0 af))))))) a_) (aw (aF (ag cK ej (aj colF (ae bR af))) (gN 5)) (aP (aJ aB (ae jF (ae (ag ao (ag bf d4 (aj gL (ae cT af))) (ag (cu eE (· - ·)) (aj cg (ae b0 af)) (ag cK ej (aj cg (ae cT af))))) af))))))
theorem AD {c:Type}{a b:c->D}:∀{l:List c} {p:Nat} {x:c},l[p]? = some x->(l.flatMap λx=>[a x,b x])[2*p]? = some (a x)
 | [],p,x,h=>by simp at h|y::l,0,x,h=>by simp at h;subst h;rfl|y::l,p+1,x,h=>by have:=AD (a:=a) (b:=b) (l:=l) (p:=p) (x:=x) (by simpa using h);rw[Wl,show 2*(p+1)=2*p+1+1 by omega];simpa using this
theorem EX {c:Type}{a b:c->D}:∀{l:List c} {p:Nat} {x:c},l[p]? = some x->(l.flatMap λx=>[a x,b x])[2*p+1]? = some (b x)
 | [],p,x,h=>by simp at h|y::l,0,x,h=>by simp at h;subst h;rfl|y::l,p+1,x,h=>by have:=EX (a:=a) (b:=b) (l:=l) (p:=p) (x:=x) (by simpa using h);rw[Wl,show 2*(p+1)+1=2*p+1+1+1 by omega];simpa using this
theorem pb {c:Type}{a b:c->D}:∀{l:List c},(l.flatMap λx=>[a x,b x]).length=2*l.length
 | []=>rfl|x::l=>by rw[Wl,nv,pb];simp;omega
noncomputable def jt (l:List D):List D:=l.map λk=>.tup [.str "read",k]
noncomputable def cJ (p:Nat):List D:=(r6 p).map λj=>own "box" j
noncomputable def nU (n p o c:Nat):List D:=cJ p++cJ p++cls "call" o (av n o c)
noncomputable def yd (n p o c:Nat)(g:List Int):List D:=(((av n o c).zip g).flatMap λq=>[.tup [.str "read",.tup [.str "call",.int q.1,.int o]],.tup [.str "write",cI o q.1,.int q.2]])++jt (nU n p o c)
def ye {sh:Nat}(S:iB v n p o s sh Y U T Q O)(r:d[0]? = some (some v))(q:d[1]? = some (some (.int o))):PR O d a=some (.lst (cls "call" o (av n o sh)),a)/\PU O d a=some (.lst ((av n o sh).map λj=>cI o j),a):=by
 have b:ax 3=true:=rfl;have f:ax (av n o sh).length=true:=aH (by have:=gC (n:=n) (o:=o) (sh:=sh);have:=S.n5;omega);have i:=fF (t:=gN 1) (c:=cN) (e:=aJ aB (ae gb (ae bg (ae b0 af)))) (h:=λg=>D.tup [.str "call",g,.int o]) (λd=>∃m,d = [none,m,some (.int o)]) (dN (av n o sh)) [none,none,some (.int o)] a ⟨_,rfl⟩ (by rintro t hm d ⟨m,rfl⟩;exact⟨[none,some t,some (.int o)],by simp,by simp,by simp[b],_,rfl⟩)
 have l:=fF (t:=gN 1) (c:=cN) (e:=aJ aB (ae jc (ae b0 (ae bg af)))) (h:=λg=>D.tup [.str "sign",.int o,g]) (λd=>∃m,d = [none,m,some (.int o)]) (dN (av n o sh)) [none,none,some (.int o)] a ⟨_,rfl⟩ (by rintro t hm d ⟨m,rfl⟩;exact⟨[none,some t,some (.int o)],by simp,by simp,by simp[b],_,rfl⟩)
 have sub:bZ [none,none,some 1] d = [none,none,some (.int o)]:=by simp[bZ,q]
 constructor
 . simp[PR,r,q,S.hs a,dg,bD,cW,f,sub,i,bA]
   simp[dN,cls,US]
 . simp[PU,r,q,S.hs a,dg,bD,cW,f,sub,l,bA]
   simp[dN,cI,US]
def PV (h:flat c=true):c_ (cj 0 1 bR) [c] a=some (c,a):=by
 have g:ji [c]=true:=by simp[ji,kU c h]
 have b:aC 0 [c]=true:=by simp[aC,cw c h]
 have e:cj 0 1 bR [c] []=some (c,[]):=by unfold cj;rw[if_pos (show [c].length=0+1 from rfl)];rfl
 unfold c_ gW;rw[if_pos g,if_pos b,e];simp only[m5];rw[if_pos (cw c h)];simp only[m5];rw[if_pos (kU c h)]
noncomputable def u9 (num c g a step scF:Fn)(nm:Str)(X:FS):FS:=aw (aF (ag bf (ag cK fc (aj cg (ae (aj g (ae bR (ae bg af))) af))) (ag cK ej (aj c (ae bR af)))) (gN 3)) (aw (aF (aj (j8 a) (ae cT (ae cT (ae (aj num (ae bR (ae (fC (.str "moves")) af))) (ae b0 (ae (tW nm [0,1]) af)))))) (gN 4)) (aw (cA (ay (ag qp ee fb)) (aP (aJ aB (ae (aj step (ae bR (ae bg (ae (d_ b0 (bL (ag cK (ag (cu e_ (· / ·)) (aj cg (ae b0 af)) cT) cT)) fE) af)))) (ae (aj cg (ae b0 af)) af)))) a_) (aw (aF (ag bf (ag ao ee dV) cT) (gN 5)) (aw (cA (ay (ag qp (ag ao ee cP) fb)) (aP (aJ aB (ae (aJ aB (ae hI (ae (aj gL (ae (bH bA (dg (aj scF (ae bR (ae bg (ae (d_ b0 fE (bL d4)) af))))) [none,none] (gN 1) cN (ag ao bg dV)) af)) af))) (ae d4 af)))) a_) X))))
noncomputable def mL (num c h g:Fn):Fn:=ak false 12 3 (PQ num c h g (ak false 4 3 (jW c g)) (ak false 3 3 (qv num)))
noncomputable def aT (n p o c:Nat):Nat:=3*(av n o c).length+2*p
def AE (S:iB b n p o s Y X Q O M E)(f:j8 h [.int (aT n p o Y),.int (aT n p o Y),.int X,.tup A,.fn x [b,.int o]] a=some (v,a))(k:aw (cA (ay (ag qp ee fb)) (aP (aJ aB (ae (aj U (ae bR (ae bg (ae (d_ b0 (bL (ag cK (ag (cu e_ (· / ·)) (aj cg (ae b0 af)) cT) cT)) fE) af)))) (ae (aj cg (ae b0 af)) af)))) a_) (aw (aF (ag bf (ag ao ee dV) cT) (gN 5)) (aw (cA (ay (ag qp (ag ao ee cP) fb)) (aP (aJ aB (ae (aJ aB (ae hI (ae (aj gL (ae (bH bA (dg (aj T (ae bR (ae bg (ae (d_ b0 fE (bL d4)) af))))) [none,none] (gN 1) cN (ag ao bg dV)) af)) af))) (ae d4 af)))) a_) H)) [some b,some (.int o),some (.tup A),some (.int (aT n p o Y)),some v,none] a=I):
   u9 Q O E h U T x H ([b,.int o,.tup A].map some++nN (6-3) none) a=I:=by
 have e:(3*((av n o Y).length:Int)+2*(p:Int))=((aT n p o Y:Nat):Int):=by unfold aT;omega
 refine dE (d:=.int (aT n p o Y)) (g1:=a) ?_ (dE (d:=v) (g1:=a) ?_ k)
 . have step:cR 3 ((av n o Y).length:Int)=true:=rfl
   have c:cR 2 (p:Int)=true:=rfl;simp[S.hs a,S.hp a,cW,step,c,e]
 . simp[S.hm a,tW,xx,f]
def Jf (S:iB v n p o s Y X h U T Q)(fr:∀c∈A,flat c=true):aC 0 [.int (aT n p o Y),.int (aT n p o Y),.int X,.tup A,.fn x [v,.int o]]=true:=by have:=dY (n:=0) _ (gj fr);simp[aC,bU,cw v S.fm];simpa using this
noncomputable def bF (c:List Int)(fs g:List D)(h:List Int):List D:=eA (bI c)++fs++g++bI h
structure Rg (n p o sh:Nat)(ks:List Int)(fs ss:List D)(cs:List Int):Prop where
 kl:ks.length=(av n o sh).length
 fl:fs.length=p
 sl:ss.length=p
 cl:cs.length=(av n o sh).length
 fa:∀c∈fs,BC c
 sa:∀c∈ss,BC c
noncomputable def uc (c:D):Int:=Jc (AB c 1)
noncomputable def PX (c:D):Int:=Jc (AB c 2)
noncomputable def u_ (c:Nat)(a b:D):Bool:=decide (uc a≠uc b)||(decide (c=1)&&decide (PX a≠PX b))
noncomputable def i_ (n o:Nat)(x:Int):Bool:=(dN (b_ n o)).any λy=>bq y (.int x)
def pT:i_ n o i=true ↔ ∃j,j∈b_ n o/\i=(j:Nat):=by
 unfold i_ dN;rw[aeC];constructor
 . rintro⟨y,b,e⟩
   obtain⟨j,a,rfl⟩:=nP.mp b;refine⟨j,a,?_⟩;have:((j:Int)== i)=true:=e;exact(eq_of_beq this).symm
 . rintro⟨j,a,rfl⟩
   refine⟨.int j,nP.mpr ⟨j,a,rfl⟩,?_⟩;show((j:Int)== (j:Int))=true;exact beq_self_eq_true _
noncomputable def eT (n o c:Nat)(ps:List (D×D)):List Int:=(ps.filter λq=>i_ n o (uc q.2)&&u_ c q.1 q.2).map λq=>uc q.2
noncomputable def ja (S:List Nat)(c g:List Int):List Nat:=((S.zip (c.zip g)).filter λq=>decide (q.2.1≠q.2.2)).map (·.1)
noncomputable def iA (n o c g:Nat)(h:List Int)(fs i:List D)(p:List Int):List Int:=(ja (av n o g) h p).map (λ(j:Nat)=>(j:Int))++eT n o c (fs.zip i)
noncomputable def eN (n o c g:Nat)(h:List Int)(fs i:List D)(p:List Int):List Nat:=(b_ n o).filter λj=>decide ((j:Int)∈iA n o c g h fs i p)
def LD (h:n∈ja J z Z):n∈J:=by obtain⟨q,a,rfl⟩:=nP.mp h;have:=(EZ.mp a).1;exact(T3 this).1
def AF (h:i∈iA n o p s z A j Z):∃x,x∈b_ n o/\i=(x:Nat):=by
 rcases nQ.mp h with h|h
 . obtain⟨x,a,rfl⟩:=nP.mp h
   have:=AA.mp (LD a);exact⟨x,fR.mpr this.2,rfl⟩
 . obtain⟨q,b,rfl⟩:=nP.mp h
   have:=(EZ.mp b).2;rw[mS]at this;exact pT.mp this.1
def LF:p∈eN n o s Y z A j Z ↔ (p:Int)∈iA n o s Y z A j Z:=by
 unfold eN;rw[EZ,decide_eq_true_eq];refine⟨λh=>h.2,λh=>⟨?_,h⟩⟩;obtain⟨i,a,e⟩:=AF h;have:p=i:=by omega
 subst this;exact a
def sX {tg:Nat}{sh:Nat}{ks:List Int}{cs:List Int}{fs:List D}{ss:List D}:(eN n o tg sh ks fs ss cs).Nodup:=ER.sublist adp
def EY:(eN n o p s z A j Z).Pairwise (· <= ·):=by unfold eN b_;exact((List.pairwise_lt_range (n:=n)).imp λh=>Vd h).sublist (adp.trans adp)
def ud (a:n<=5)(b:o<n):(eN n o p s z A j Z).length<=4:=by refine rK (acJ _ _) ?_;exact(show ∀n,n<=5->∀o,o<n->(b_ n o).length<=4 by decide) n a o b
def Rg.wl (R:Rg n p o s z A j Z):(bF z A j Z).length=3*(av n o s).length+2*p:=by simp[bF,js,bI,R.kl,R.fl,R.sl,R.cl];omega
def Rg.fla (R:Rg n p o s z A j Z):∀x∈bF z A j Z,flat x=true:=λx a=>by
 have b:∀(z:List Int),∀x∈bI z,flat x=true:=λz x a=>by obtain⟨i,_,rfl⟩:=nP.mp a;rfl
 simp only[bF,nQ]at a;rcases a with((a|a)|a)|a
 . obtain⟨c,d,a⟩:=af7.mp a
   simp only[nF,x5,or_false]at a;rcases a with rfl|rfl
   . exact b _ _ d
   . rfl
 . exact(R.fa _ a).flat
 . exact(R.sa _ a).flat
 . exact b _ _ a
def Rg.kw (R:Rg n p o s z A j Z):(eA (bI z)).length=2*(av n o s).length:=by rw[js,bI,qV,R.kl]
def PY (R:Rg n p o Y z A j Z){rest:List D}:wu (bF z A j Z++rest) (some ((2*(av n o Y).length+p:Nat):Int)) (some ((2*(av n o Y).length+2*p:Nat):Int))=j:=by
 have:=ua (rd:=bF z A j Z++rest) (s:=2*(av n o Y).length+p) (m:=p) (by rw[nv,R.wl];omega);rw[show 2*(av n o Y).length+2*p=2*(av n o Y).length+p+p by omega,this];have e:bF z A j Z++rest=(eA (bI z)++A)++(j++(bI Z++rest)):=by simp[bF]
 rw[e,show 2*(av n o Y).length+p=(eA (bI z)++A).length by rw[nv,R.kw,R.fl],afa,show p=j.length from R.sl.symm,ael]
def PZ (R:Rg n p o Y z A j Z):wu (bF z A j Z) (some ((2*(av n o Y).length:Nat):Int)) (some ((2*(av n o Y).length+p:Nat):Int))=A:=by
 rw[ua (rd:=bF z A j Z) (s:=2*(av n o Y).length) (m:=p) (by rw[R.wl];omega)];have e:bF z A j Z=eA (bI z)++(A++(j++bI Z)):=by simp[bF]
 rw[e,<- R.kw,afa,show p=A.length from R.fl.symm,ael]
def P0 (R:Rg n p o s z A j Z):wu (bF z A j Z) (some ((2*(av n o s).length+2*p:Nat):Int)) none=bI Z:=by
 unfold wu;rw[we,m8 (by rw[R.wl];omega)];have e:bF z A j Z=(eA (bI z)++A++j)++bI Z:=by simp[bF]
 rw[e,show 2*(av n o s).length+2*p=(eA (bI z)++A++j).length by simp[R.kw,R.fl,R.sl];omega,afa];exact Vu (by simp;omega)
def P1 {g:G}(S:iB v n p o s Y X h U T Q)(R:Rg n p o Y z A j Z):ak false 4 3 (jW U Q) [v,.int o,.tup (bF z A j Z)] g=some (.tup j,g):=by
 have e:=R.wl;have f:((bF z A j Z).length:Int)-((av n o Y).length:Int)=((2*(av n o Y).length+2*p:Nat):Int):=by rw[e];omega
 have m:((2*(av n o Y).length+2*p:Nat):Int)-(p:Int)=((2*(av n o Y).length+p:Nat):Int):=by omega
 have c:=PY (rest:=[]) R;rw[wz]at c;generalize bF z A j Z=W at *;refine bS rfl (dE (d:=.int ((2*(av n o Y).length+2*p:Nat):Int)) (g1:=g) (by simp[S.hs g,cW,f]) (fu (d:=.tup j) (g1:=g) ?_)) rfl;generalize i:((2*(av n o Y).length+2*p:Nat):Int)=a at *;generalize ((2*(av n o Y).length+p:Nat):Int)=b at *;simp[S.hp g,m,jS,c]
def P2 {g:G}(S:iB c n p o s Y X h U T Q)(z:BC v)(y:BC b):ak false 3 3 (qv h) [c,v,b] g=some (.bl (u_ s v b),g):=by
 obtain⟨B,x,t,rfl,E⟩:=z;obtain⟨i,a,f,rfl,u⟩:=y;refine bS (σ':=[some c,some (.tup [B,.int x,.int t]),some (.tup [i,.int a,.int f])]) rfl ?_ rfl;have e:u_ s (.tup [B,.int x,.int t]) (.tup [i,.int a,.int f])=(decide (x≠a)||(decide (s=1)&&decide (t≠f))):=rfl;rw[e];have q:ag bp (ag ao bg cP) (ag ao b0 cP) [some c,some (.tup [B,.int x,.int t]),some (.tup [i,.int a,.int f])] g=some (.bl (decide (x≠a)),g):=by rw[ck (d:=.int x) (d':=.int a) (g1:=g) (g2:=g) rfl rfl,Sx]
 have r:ag bp (ag ao bg ej) (ag ao b0 ej) [some c,some (.tup [B,.int x,.int t]),some (.tup [i,.int a,.int f])] g=some (.bl (decide (t≠f)),g):=by rw[ck (d:=.int t) (d':=.int f) (g1:=g) (g2:=g) rfl rfl,Sx]
 have j:ag oEq (aj h (ae bR (ae j0 af))) cP [some c,some (.tup [B,.int x,.int t]),some (.tup [i,.int a,.int f])] g=some (.bl (decide (s=1)),g):=by
   have v:aj h (ae bR (ae j0 af)) [some c,some (.tup [B,.int x,.int t]),some (.tup [i,.int a,.int f])] g=some (.int s,g):=S.ht g;rw[ck (d':=.int 1) (g2:=g) v rfl];by_cases m:s=1
   . subst m;rfl
   . have l:¬((s:Int)=1):=by omega
     simp[flat,dep,bq,m,l]
 have C:ay (ag bp (ag ao bg cP) (ag ao b0 cP)) [some c,some (.tup [B,.int x,.int t]),some (.tup [i,.int a,.int f])] g=some (decide (x≠a),g):=by rw[cD,q];rfl
 unfold qv;by_cases m:x≠a
 . rw[decide_eq_true m]at C
   refine(iV C (d:=.bl true) (g2:=g) rfl).trans ?_;simp[m]
 . rw[decide_eq_false m]at C
   refine dS ((eQ C).trans rfl) (fu ?_);rw[decide_eq_false m,Bool.false_or];unfold jy;by_cases h2:s=1
   . rw[decide_eq_true h2]at j ⊢
     rw[afx];show((fL (ag oEq (aj h (ae bR (ae j0 af))) cP [some c,some (.tup [B,.int x,.int t]),some (.tup [i,.int a,.int f])] g)).bind _)=_;rw[j];exact r
   . rw[decide_eq_false h2]at j ⊢
     show((fL (ag oEq (aj h (ae bR (ae j0 af))) cP [some c,some (.tup [B,.int x,.int t]),some (.tup [i,.int a,.int f])] g)).bind _)=_;rw[j];rfl
def Xx {fs:List D}{ss:List D}{g:G}(d:ss.length=fs.length){σ:Sg}(f:σ[7]? = some (some (.tup fs)))(c:σ[8]? = some (some (.tup ss))):Cc σ g=some ((fs.zip ss).map λq=>.tup [q.1,q.2],g):=by
 have e:kO [fs,ss] fs.length=(fs.zip ss).map λq=>.tup [q.1,q.2]:=by
  unfold kO;refine Ws λi=>?_;rw[qd,qd];by_cases h:i<fs.length
  . have b:i<ss.length:=by omega
    rw[acY h,nz (show i<(fs.zip ss).length by rw[Dv];omega)];simp[h,b]
  . rw[zH (by simpa using h),zH (by rw[Dv];omega)];rfl
 have a:eW σ g=some (.tup fs,g):=by simp[f]
 have n:eX σ g=some (.tup ss,g):=by simp[c]
 unfold Cc;rw[xq];simp only[bX,a,n,cy,m5];simp[pL,tS,d,e]
def Xy {ks:List Int}{g:G}{σ:Sg}{S:List Nat}(y:ks.length=S.length)(j:z.length=S.length)(u:S.length<=20)(l:σ[2]? = some (some (.tup (eA (bI ks)++r))))(x:σ[3]? = some (some (.lst (dN S))))(s:σ[4]? = some (some (.int ((2*S.length:Nat):Int))))(v:σ[5]? = some (some (.tup (bI z)))):Cd σ g=some ((S.zip (ks.zip z)).map λq=>.tup [.int q.1,.int q.2.1,.int q.2.2],g):=by
 have a:(bI ks).length=S.length:=by rw[bI,qV,y]
 have lc:(bI z).length=S.length:=by rw[bI,qV,j]
 have pk:=EV (ks:=bI ks) (r:=r) (g:=g) (by omega);rw[a]at pk;have e:kO [dN S,bI ks,bI z] S.length=(S.zip (ks.zip z)).map λq=>.tup [.int q.1,.int q.2.1,.int q.2.2]:=by
  unfold kO;refine Ws λi=>?_;rw[qd,qd];by_cases h:i<S.length
  . have c:i<ks.length:=by omega
    have j:i<z.length:=by omega
    rw[acY h,nz (show i<(S.zip (ks.zip z)).length by rw[Dv,Dv];omega)];simp[h,c,j,dN,bI]
  . rw[zH (by simpa using h),zH (by rw[Dv];omega)];rfl
 have f:cT σ g=some (.lst (dN S),g):=by simp[x]
 have b:d4 σ g=some (.tup (bI z),g):=by simp[v]
 have d:w5 b0 fE (bL ee) (bL ej) σ g=some (.tup (bI ks),g):=by generalize ((2*S.length:Nat):Int)=n at *;rw[Ku];simp[l,s,pk]
 unfold Cd;rw[xq];simp only[bX,f,d,b,cy,m5];simp[pL,tS,a,lc,cW,e]
noncomputable def P4:FT:=ay (ag bp b0 cT)
section
variable {g:G}
theorem AG:∀(l:List (Nat×Int×Int)) (a b c:Option D),cZ (gT 3 (aY (gN 1) (aY (gN 2) (aY (gN 3) eZ)))) P4 bg (l.map λq=>D.tup [.int q.1,.int q.2.1,.int q.2.2]) [none,a,b,c] g=some (dN ((l.filter λq=>decide (q.2.1≠q.2.2)).map (·.1)),g)
 | [],_,_,_=>rfl
 |q::l,a,b,c=>by
  have i:=AG l (some (.int q.1)) (some (.int q.2.1)) (some (.int q.2.2));have t:P4 [none,some (.int q.1),some (.int q.2.1),some (.int q.2.2)] g=some (decide (q.2.1≠q.2.2),g):=by unfold P4;rw[cD,ck (d:=.int q.2.1) (d':=.int q.2.2) (g1:=g) (g2:=g) rfl rfl,Sx];rfl
  simp only[yp,cZ];rw[show gT 3 (aY (gN 1) (aY (gN 2) (aY (gN 3) eZ))) (D.tup [.int q.1,.int q.2.1,.int q.2.2]) [none,a,b,c] g=some ([none,some (.int q.1),some (.int q.2.1),some (.int q.2.2)],g) from rfl];simp only[m5,t,i];by_cases h:q.2.1≠q.2.2
  . rw[Ut,if_pos (decide_eq_true h),if_pos (decide_eq_true h),show bg [none,some (D.int q.1),some (.int q.2.1),some (.int q.2.2)] g=some (.int q.1,g) from rfl]
    simp only[m5,i];rfl
  . rw[Ut,if_neg (by simpa using h),if_neg (by simpa using h)]
end
noncomputable def nW (m:D)(n o c:Nat)(i:List Int)(fs g:List D)(h:List Int)(a b:Option D):Sg:=[some m,some (.int o),some (.tup (bF i fs g h)),some (.lst (dN (av n o c))),some (.int ((2*(av n o c).length:Nat):Int)),some (.tup (bI h)),some (.ref 0),some (.tup fs),some (.tup g),some (.lst (dN (b_ n o))),a,b]
def P5 {ks:List Int}{cs:List Int}{fs:List D}{ss:List D}(S:iB c n p o s Y X h U T Q)(C:BC v)(B:BC b)(E:A.length<=100):EW (ak false 3 3 (qv h)) (nW c n o Y ks fs ss cs (some v) (some b)) [A]=some (.nx,nW c n o Y ks fs ss cs (some v) (some b),[A++(eT n o s [(v,b)]).map .int]):=by
 have u:=P2 (g:=[A]) S C B;obtain⟨tg,x,t,e,hv⟩:=B;have w:uc b=x:=by rw[e];rfl
 generalize a:nW c n o Y ks fs ss cs (some v) (some b)=H;have J:bR H [A]=some (c,[A]):=by subst a;rfl
 have M:eP H [A]=some (.lst (dN (b_ n o)),[A]):=by subst a;rfl
 have i:jo H [A]=some (v,[A]):=by subst a;rfl
 have f:eh H [A]=some (b,[A]):=by subst a;rfl
 have r:ef H [A]=some (.ref 0,[A]):=by subst a;rfl
 have m:ag ao eh cP H [A]=some (.int x,[A]):=(ck f rfl).trans (by rw[e];simp[gS,bD,Ta]);have d:bG (dN (b_ n o))<=50:=mK λy O=>by obtain⟨j,_,rfl⟩:=nP.mp O;simp[dep]
 have hq:ie (.int x) (.lst (dN (b_ n o))) [A]=some (.bl (i_ n o x),[A]):=by simp[ie,mr,bD,zO,flat,mJ,d,i_]
 have R:ay (ag ie (ag ao eh cP) eP) H [A]=some (i_ n o x,[A]):=by rw[cD,ck m M,hq];rfl
 have l:ia (aj (ak false 3 3 (qv h)) (ae bR (ae jo (ae eh af)))) H [A]=some (u_ s v b,[A]):=by simp only[Km,ic,bX,J,i,f,cy,m5,u];rfl
 have I:iM (ay (ag ie (ag ao eh cP) eP)) (ia (aj (ak false 3 3 (qv h)) (ae bR (ae jo (ae eh af))))) H [A]=some (i_ n o x&&u_ s v b,[A]):=by
  rw[tK,R];cases i_ n o x
  . rfl
  . rw[afx];exact l
 have Z:(eT n o s [(v,b)]).map D.int=if(i_ n o x&&u_ s v b)=true then [.int x]else []:=by unfold eT;rw[Ut,w];split<;>simp[w]
 unfold EW;rw[Z];cases hc:i_ n o x&&u_ s v b with
 |false =>
  rw[hc]at I;rw[if_neg (by simp),wz];exact(eQ I).trans rfl
 |true =>
  rw[hc]at I;rw[if_pos rfl];refine(nB I).trans ?_;have z:ax (A.length+1)=true:=aH (by omega);have em:dh isRef bW ef (ae (ag ao eh cP) af) H [A]=some (.aA,[A ++ [.int x]]):=by
    have ea:ae (ag ao eh cP) af H [A]=some ([.int x],[A]):=by simp only[bX,m,cy,m5]
    rw[pQ,r];simp only[m5,ea];simp[isRef,bW,z]
  rw[show dw (dh isRef bW ef (ae (ag ao eh cP) af)) H [A]=(dh isRef bW ef (ae (ag ao eh cP) af) H [A]).bind λq=>some (.nx,H,q.2) from rfl,em];rfl
section
variable {ks cs:List Int}{fs ss:List D}
theorem AH (S:iB v n p o s Y X h U T Q):∀(l:List (D×D)) (A:List D) (a b:Option D),(∀q∈l,BC q.1/\BC q.2)->A.length+l.length<=100->∃g r,forL Je (EW (ak false 3 3 (qv h))) (l.map λq=>.tup [q.1,q.2]) (nW v n o Y ks fs ss cs a b) [A]=some (.nx,nW v n o Y ks fs ss cs g r,[A++(eT n o s l).map .int])
 | [],A,a,b,_,_=>⟨a,b,by simp[forL,eT]⟩
 |q::l,A,a,b,m,u=>by
  obtain⟨c,e⟩:=m q (by simp);simp only[z6]at u;have i:=P5 (ks:=ks) (cs:=cs) (fs:=fs) (ss:=ss) S c e (A:=A) (by omega);have j:((eT n o s [(q.1,q.2)]).map D.int).length<=1:=by rw[qV];unfold eT;rw[qV];exact acJ _ _
  obtain⟨g,r,f⟩:=AH S l (A++(eT n o s [(q.1,q.2)]).map .int) (some q.1) (some q.2) (λx d=>m x (by simp[d])) (by rw[nv];omega);refine⟨g,r,?_⟩;have t:Je (.tup [q.1,q.2]) (nW v n o Y ks fs ss cs a b) [A]=some (nW v n o Y ks fs ss cs (some q.1) (some q.2),[A]):=rfl;have pc:eT n o s (q::l)=eT n o s [(q.1,q.2)]++eT n o s l:=by unfold eT;rw[show q::l = [(q.1,q.2)]++l from rfl,adw,UA]
  simp only[yp,forL,t,m5,i,f];rw[pc,UA,Fm]
end
noncomputable def dZ (n o c g:Nat)(h:List Int)(fs i:List D)(p:List Int):List Nat:=(iA n o c g h fs i p).map U8
def AI:(dZ n o p s z A j Z).map (λ(c:Nat)=>(c:Int))=iA n o p s z A j Z:=by
 unfold dZ;rw[E5];conv=>rhs;rw[<- ahC (iA n o p s z A j Z)]
 refine List.map_congr_left λx a=>?_;obtain⟨c,_,rfl⟩:=AF a;simp
def E2:dN (dZ n o p s z A j Z)=(iA n o p s z A j Z).map .int:=by rw[<- AI,E5];rfl
def pU:p∈eN n o s Y z A j Z ↔ p∈dZ n o s Y z A j Z:=by rw[LF,<- AI,nP];exact⟨λ⟨i,a,e⟩=>(show i=p by omega) ▸ a,λh=>⟨p,h,rfl⟩⟩
def LG {tg:Nat}{l:List (D×D)}:(eT n o tg l).length<=l.length:=by unfold eT;rw[qV];exact acJ _ _
def AJ {ks:List Int}{cs:List Int}{S:List Nat}:(ja S ks cs).length<=S.length:=by unfold ja;rw[qV];refine rK (acJ _ _) ?_;rw[Dv];omega
def P6 {sh:Nat}{ks:List Int}{cs:List Int}{fs:List D}{ss:List D}(S:iB v n p o s sh Y h U T Q)(R:Rg n p o sh ks fs ss cs):mL h U T Q [v,.int o,.tup (bF ks fs ss cs)] []=some (.lst (dN (eN n o s sh ks fs ss cs)),[]):=by
 have C:=R.wl;have E:((bF ks fs ss cs).length:Int)-((av n o sh).length:Int)=((2*(av n o sh).length+2*p:Nat):Int):=by rw[C];omega
 have y:((2*(av n o sh).length:Nat):Int)+(p:Int)=((2*(av n o sh).length+p:Nat):Int):=by omega
 have H:cR 2 ((av n o sh).length:Int)=true:=rfl;have sl:=gC (n:=n) (o:=o) (sh:=sh);have n5:=S.n5;have p4:=S.p4;have I:=P0 R;have J:=PZ R;have sc:=λg=>P1 (g:=g) S R;have M:bF ks fs ss cs=eA (bI ks)++(fs++(ss++bI cs)):=by simp[bF]
 have O:ax ((av n o sh).zip (ks.zip cs)).length=true:=aH (by rw[Dv];omega);have ab:=AJ (S:=av n o sh) (ks:=ks) (cs:=cs);obtain⟨u,m,z⟩:∃(u:Sg) (m:G),PQ h U T Q (ak false 4 3 (jW U Q)) (ak false 3 3 (qv h)) ([v,.int o,.tup (bF ks fs ss cs)].map some++nN (12-3) none) []=some (.rt (.lst (dN (eN n o s sh ks fs ss cs))),u,m):=by
  have X:=Xy (S:=av n o sh) (r:=fs++(ss++bI cs)) (σ:=[some v,some (.int o),some (.tup (bF ks fs ss cs)),some (.lst (dN (av n o sh))),some (.int ((2*(av n o sh).length:Nat):Int)),some (.tup (bI cs)),none,none,none,none,none,none]) (g:=[]) R.kl R.cl (by omega) (by rw[M];rfl) rfl rfl rfl;have cn:=AG (g:=[]) ((av n o sh).zip (ks.zip cs)) none none none;have Z:=Xx (fs:=fs) (ss:=ss) (σ:=nW v n o sh ks fs ss cs none none) (g:=[dN (ja (av n o sh) ks cs)]) (by rw[R.sl,R.fl]) rfl rfl;obtain⟨a,b,l⟩:=AH (ks:=ks) (cs:=cs) (fs:=fs) (ss:=ss) S (fs.zip ss) (dN (ja (av n o sh) ks cs)) none none (λq mo=>⟨R.fa _ (T3 mo).1,R.sa _ (T3 mo).2⟩) (by rw[cW,Dv,R.fl,R.sl];omega);have eL:dN (ja (av n o sh) ks cs)++(eT n o s (fs.zip ss)).map .int=dN (dZ n o s sh ks fs ss cs):=by rw[E2,iA,UA,E5];rfl
  rw[eL]at l
  have x:d_ b0 (bL (ag (cu eE (· - ·)) (aj cg (ae b0 af)) (aj cg (ae cT af)))) fE [some v,some (.int o),some (.tup (bF ks fs ss cs)),some (.lst (dN (av n o sh))),some (.int ((2*(av n o sh).length:Nat):Int)),none,none,none,none,none,none,none] []=some (.tup (bI cs),[]):=by generalize bF ks fs ss cs=W at *;generalize ((2*(av n o sh).length+2*p:Nat):Int)=a at *;simp[cW,E,jS,I]
  have k2:d_ b0 (bL ee) (bL (ag bf ee (aj U (ae bR af)))) [some v,some (.int o),some (.tup (bF ks fs ss cs)),some (.lst (dN (av n o sh))),some (.int ((2*(av n o sh).length:Nat):Int)),some (.tup (bI cs)),some (.ref 0),none,none,none,none,none] [dN (ja (av n o sh) ks cs)]=some (.tup fs,[dN (ja (av n o sh) ks cs)]):=by generalize bF ks fs ss cs=W at *;generalize ((2*(av n o sh).length:Nat):Int)=a at *;generalize ((2*(av n o sh).length+p:Nat):Int)=b at *;simp[S.hp,y,jS,J]
  have k3:bH gJ Cd [none,none,none,none] (gT 3 (aY (gN 1) (aY (gN 2) (aY (gN 3) eZ)))) (ay (ag bp b0 cT)) bg [some v,some (.int o),some (.tup (bF ks fs ss cs)),some (.lst (dN (av n o sh))),some (.int ((2*(av n o sh).length:Nat):Int)),some (.tup (bI cs)),none,none,none,none,none,none] []=some (.ref 0,[dN (ja (av n o sh) ks cs)]):=by rw[jh,X];simp only[m5,qV,O,if_true];rw[show bZ [none,none,none,none] _ = [none,none,none,none] from rfl];have f:cZ (gT 3 (aY (gN 1) (aY (gN 2) (aY (gN 3) eZ)))) (ay (ag bp b0 cT)) bg (((av n o sh).zip (ks.zip cs)).map λq=>D.tup [.int q.1,.int q.2.1,.int q.2.2]) [none,none,none,none] []=_:=cn;rw[f];rfl
  have kf:dF Cc Je (EW (ak false 3 3 (qv h))) (nW v n o sh ks fs ss cs none none) [dN (ja (av n o sh) ks cs)]=some (.nx,nW v n o sh ks fs ss cs a b,[dN (dZ n o s sh ks fs ss cs)]):=by rw[iq,Z,m5];exact l
  have kr:oW ef (nW v n o sh ks fs ss cs a b) [dN (dZ n o s sh ks fs ss cs)]=some (.lst (dN (eN n o s sh ks fs ss cs)),[dN (dZ n o s sh ks fs ss cs)]):=by
   have e:=EO (L:=dZ n o s sh ks fs ss cs) (ms:=eN n o s sh ks fs ss cs) (λj=>pU) sX EY;have B:=(aeb (bO (λi=>((dZ n o s sh ks fs ss cs).map λ(j:Nat)=>(j:Int)).getD i 0) ((dZ n o s sh ks fs ss cs).map λ(j:Nat)=>(j:Int)).length)).length_eq.symm.trans (congrArg afc e)
   replace B:=aeS B
   replace B:=rK B (rK (aeS (qV _)) (ud n5 S.on))
   have ei:fG (dN (dZ n o s sh ks fs ss cs))=some ((dZ n o s sh ks fs ss cs).map λ(j:Nat)=>(j:Int)):=by have:=baH ((dZ n o s sh ks fs ss cs).map λ(j:Nat)=>(j:Int));rw[E5]at this;exact this
   have h7:∀i,i<((dZ n o s sh ks fs ss cs).map λ(j:Nat)=>(j:Int)).length->0<=((dZ n o s sh ks fs ss cs).map λ(j:Nat)=>(j:Int)).getD i 0/\((dZ n o s sh ks fs ss cs).map λ(j:Nat)=>(j:Int)).getD i 0<=7:=λi c=>by rw[qV]at c;have:(dZ n o s sh ks fs ss cs)[i]< n:=(fR.mp (EZ.mp (pU.mpr (Cv c))).1).1;rw[Np,qd,nz c];exact⟨afn _,by show((dZ n o s sh ks fs ss cs)[i]:Int)<=7;omega⟩
   generalize dZ n o s sh ks fs ss cs=L at *;rw[Al,show ef (nW v n o sh ks fs ss cs a b) [dN L]=some (.ref 0,[dN L]) from rfl];simp only[m5,fg,adq,ei];rw[if_pos (decide_eq_true ⟨B,h7⟩),e];simp[dN,E5,US]
  exact⟨_,_,dE (S.hs []) (dE (d:=.int ((2*(av n o sh).length:Nat):Int)) (g1:=[]) (by simp[cW,H]) (dE x (dE k3 (dE k2 (dE (sc _) (dE (S.ho _) (dS kf (fu kr))))))))⟩
 have w:mX (mL h U T Q [v,.int o,.tup (bF ks fs ss cs)] []) λq=>q=(.lst (dN (eN n o s sh ks fs ss cs)),[]):=by refine mf rfl ?_;rw[z];simp only[gu];refine⟨?_,by simp,by simp,by simp⟩;simp only[bU];exact dY _ mJ
 obtain⟨q,e,rfl⟩:=w;exact e
def Xz (S:iB v n p o s Y X h U T Q)(R:Rg n p o Y z A j Z):c_ (cj 2 1 (o_ (mL h U T Q))) ([v,.int o] ++ [.tup (bF z A j Z)]) a=some (.lst (dN (eN n o s Y z A j Z)),a):=by
 have g:aS (bF z A j Z)=true:=gj R.fla;have m:ji ([v,.int o] ++ [.tup (bF z A j Z)])=true:=by simp[ji,nS,kU v S.fm,jN _ g]
 have c:aC 0 ([v,.int o] ++ [.tup (bF z A j Z)])=true:=by simp[aC,bU,cw v S.fm,dY _ g]
 have e:cj 2 1 (o_ (mL h U T Q)) ([v,.int o] ++ [.tup (bF z A j Z)]) []=some (.lst (dN (eN n o s Y z A j Z)),[]):=by unfold cj;rw[if_pos (show([v,.int o] ++ [.tup (bF z A j Z)]:List D).length=2+1 from rfl)];exact P6 S R
 have b:=mJ (l:=eN n o s Y z A j Z);have d:bU 0 (.lst (dN (eN n o s Y z A j Z)))=true:=by simp only[bU];exact dY _ b
 have f:nS (.lst (dN (eN n o s Y z A j Z)))=true:=by simp only[nS];exact jN _ b
 unfold c_ gW;rw[if_pos m,if_pos c,e];simp only[m5];rw[if_pos d];simp only[m5];rw[if_pos f]
def AK (R:Rg n p o s z A j Z):(yd n p o s z).length=3*(av n o s).length+2*p:=by unfold yd;rw[nv,pb,Dv,R.kl];simp[jt,nU,cJ,cls];omega
def P7 {sh:Nat}{g:G}(hR:R x=some (c_ (cj 0 1 bR)))(S:iB v n p o s sh Y h U T Q)(m:∀g,O [v] g=some (.tup (cJ p),g))(mo:Rg n p o sh z A j Z){i:Nat}(B:i<3*(av n o sh).length+2*p):
   ∃C,(yd n p o sh z)[i]? = some C/\ak false 6 3 (uZ Q O (ak false 5 4 (nT R)) x) [v,.int o,.tup ((bF z A j Z).take i)] g=some (C,g):=by
 have nm:=mo.wl;have n5:=S.n5;have p4:=S.p4;have sl:=gC (n:=n) (o:=o) (sh:=sh);have lt:((bF z A j Z).take i).length=i:=by rw[Cu,nm];omega
 have cl:(cls "call" o (av n o sh)).length=(av n o sh).length:=by simp[cls]
 have l:cR 2 ((av n o sh).length:Int)=true:=rfl;have H:((av n o sh).zip z).length=(av n o sh).length:=by rw[Dv,mo.kl];omega
 by_cases J:i<2*(av n o sh).length
 . have f:i / 2<(av n o sh).length:=by omega
   have num:i / 2<z.length:=by rw[mo.kl];exact f
   have u:((av n o sh).zip z)[i / 2]? = some ((av n o sh)[i / 2],z[i / 2]):=by rw[QN];exact⟨nz f,nz num⟩
   have M:aC 0 (cls "call" o (av n o sh))=true:=eR λC c=>by obtain⟨E,_,rfl⟩:=nP.mp c;rfl
   have X:aC 0 ((av n o sh).map λE=>cI o E)=true:=eR λC c=>by obtain⟨E,_,rfl⟩:=nP.mp c;rfl
   have a3:aC 0 ((bF z A j Z).take i)=true:=eR λC c=>cw C (mo.fla C (NS c));obtain⟨C,h1,fx,c⟩:∃C,(((av n o sh).zip z).flatMap λq=>[D.tup [.str "read",.tup [.str "call",.int q.1,.int o]],.tup [.str "write",cI o q.1,.int q.2]])[i]? = some C/\flat C=true/\ak false 5 4 (nT R) [.lst (cls "call" o (av n o sh)),.lst ((av n o sh).map λE=>cI o E),.fn x [],.tup ((bF z A j Z).take i)] []=some (C,[]):=by
     by_cases I:i % 2=0
     . have:=AD (a:=λq:Nat×Int=>D.tup [.str "read",.tup [.str "call",.int q.1,.int o]]) (b:=λq=>.tup [.str "write",cI o q.1,.int q.2]) u
       rw[show 2*(i / 2)=i by omega]at this;exact⟨_,this,rfl,Cb (p:=i / 2) (by rw[lt];omega) (by rw[cls,qd,nz f];rfl)⟩
     . have hk:(bF z A j Z)[2*(i / 2)]? = some (.int z[i / 2]):=by
         unfold bF;rw[Fm,Fm,r_ (by rw[js,bI,qV];omega)];exact ET (by rw[bI,qd,nz num];rfl)
       have e:(bF z A j Z).take i=(bF z A j Z).take (2*(i / 2)) ++ [.int z[i / 2]]:=by
         conv=>lhs;rw[show i=2*(i / 2)+1 by omega]
         rw[agD,hk];rfl
       have:=EX (a:=λq:Nat×Int=>D.tup [.str "read",.tup [.str "call",.int q.1,.int o]]) (b:=λq=>.tup [.str "write",cI o q.1,.int q.2]) u;rw[show 2*(i / 2)+1=i by omega]at this;refine⟨_,this,rfl,?_⟩;rw[e];refine EU (p:=i / 2) (cap:=[]) hR (PV rfl) ?_ ?_
       . rw[<- e,lt];omega
       . rw[qd,nz f];rfl
   refine⟨C,?_,?_⟩
   . unfold yd
     rw[r_ (by rw[pb,H];exact J)];exact h1
   generalize (bF z A j Z).take i=W at *;refine bS rfl (dE (ye S rfl rfl).1 (xZ ((nB (g1:=g) ?_).trans (dE (ye S rfl rfl).2 (fu (qU (by simp[aC,bU,M,X,a3]) c fx)))))) rfl;simp[cl,l,fL,lt];omega
 . obtain⟨e,I⟩:∃e,i=2*(av n o sh).length+e:=⟨i-2*(av n o sh).length,by omega⟩
   have el:e<(nU n p o sh).length:=by simp[nU,cJ,cls];omega
   refine⟨.tup [.str "read",(nU n p o sh)[e]],?_,?_⟩
   . unfold yd
     rw[Fq (by rw[pb,H];omega),pb,H,I,aen,jt,qd,nz el];rfl
   have y:ax 2=true:=rfl;have r:¬((i:Int)<2*((av n o sh).length:Int)):=by omega
   have ei:(i:Int)-2*((av n o sh).length:Int)=((e:Nat):Int):=by omega
   have mt:=WE (g:=g) (xs:=cJ p) (k:=2) (by decide) (by decide) (by simp[cJ];omega);have rp:(nN (2:Int).toNat (cJ p)).flatten=cJ p++cJ p:=by show(nN 2 (cJ p)).flatten=_;simp[nN]
   rw[rp]at mt;have at_:eI (nU n p o sh) (e:Int)=some (nU n p o sh)[e]:=gp (nz el)
   have zb:ax ((cJ p++cJ p).length+(cls "call" o (av n o sh)).length)=true:=aH (by simp[cJ,cls];omega);have zc:ax (cls "call" o (av n o sh)).length=true:=aH (by rw[cl];omega);generalize (bF z A j Z).take i=W at *;refine bS rfl (dE (ye S rfl rfl).1 (dS (g1:=g) ((eQ (g1:=g) (by simp[cl,l,fL,lt,r])).trans rfl) (dE (d:=.tup (cJ p++cJ p)) (g1:=g) (by simp[m g,mt]) (fu ?_)))) rfl;have q1:ag bf d4 (aj gL (ae cT af)) [some v,some (.int o),some (.tup W),some (.lst (cls "call" o (av n o sh))),none,some (.tup (cJ p++cJ p))] g=some (.tup (nU n p o sh),g):=by rw[ck (d:=.tup (cJ p++cJ p)) (d':=.tup (cls "call" o (av n o sh))) (g1:=g) (g2:=g) rfl (by simp[bD,zc]),Gq,if_pos zb];rfl
   have q2:ag (cu eE (· - ·)) (aj cg (ae b0 af)) (ag cK ej (aj cg (ae cT af))) [some v,some (.int o),some (.tup W),some (.lst (cls "call" o (av n o sh))),none,some (.tup (cJ p++cJ p))] g=some (.int e,g):=by simp[cl,l,lt,ei]
   show aJ aB _ [some v,some (.int o),some (.tup W),some (.lst (cls "call" o (av n o sh))),none,some (.tup (cJ p++cJ p))] g=_;have q3:=(ck (o:=ao) q1 q2).trans (show ao (.tup (nU n p o sh)) (.int e) g=some ((nU n p o sh)[e],g) by simp[gS,bD,at_]);simp only[me,bX,q3,Bp,cy,m5];simp[y]
noncomputable abbrev R4:=List Int×List D×List D×List Int
noncomputable def d5 (r:R4):List D:=bF r.1 r.2.1 r.2.2.1 r.2.2.2
noncomputable abbrev fO (n p o c:Nat)(r:R4):Prop:=Rg n p o c r.1 r.2.1 r.2.2.1 r.2.2.2
noncomputable def de (n o c g:Nat)(r:R4):List Nat:=eN n o c g r.1 r.2.1 r.2.2.1 r.2.2.2
structure lF (n p o sh:Nat)(rs:List R4):Prop where
 all:∀r∈rs,fO n p o sh r
 cC:rs.length<=20
noncomputable def va:FS:=(aw (cA (ay (ag oEq (aj cg (ae b0 af)) d4)) (aP (aJ aB (ae (aJ aB (ae jF (ae (aJ aB (ae fw (ae (ag ao ee cP) af))) af))) (ae d4 af)))) a_) (aP (aJ aB (ae (aJ aB (ae hI (ae (ag ao b0 d4) af))) (ae (ag bf d4 cP) af)))))
def lF.U2 {rs:List R4}(S:iB v n p o s Y X h U T Q)(W:lF n p o Y rs):Ax (c_ (cj 2 1 (o_ (mL h U T Q)))) [v,.int o] (aT n p o Y) (rs.map d5) (rs.map (de n o s Y)):=by
 have f:=S.p1;refine⟨λw hw=>?_,by simp,by unfold aT;omega,by simpa using W.cC,λi c=>?_⟩
 . obtain⟨r,b,rfl⟩:=nP.mp hw
   exact(W.all r b).wl
 . have a:i<rs.length:=by simpa using c
   have e:(rs.map d5).getD i []=d5 rs[i]:=by simp[Np,qd,nz a]
   have d:(rs.map (de n o s Y)).getD i []=de n o s Y rs[i]:=by simp[Np,qd,nz a]
   have R:=W.all _ (Cv a);rw[e,d];exact⟨λg=>Xz S R,sX,rK (ud S.n5 S.on) (by decide)⟩
def yf {rs:List R4}(W:lF n p o s rs)(c:∀x∈A,flat x=true):∀x∈(rs.map d5).flatten++A,flat x=true:=λx a=>by
 rcases nQ.mp a with a|a
 . obtain⟨w,hw,a⟩:=List.mem_flatten.mp a
   obtain⟨r,b,rfl⟩:=nP.mp hw;exact(W.all r b).fla x a
 . exact c x a
def AL {rs:List R4}(W:lF n p o s rs){rest:List D}:((rs.map d5).flatten++rest).length=rs.length*aT n p o s+rest.length:=by rw[nv,kT (n:=aT n p o s) (λw hw=>by obtain⟨r,a,rfl⟩:=nP.mp hw;exact(W.all r a).wl),qV]
def Ce {sh:Nat}{rs:List R4}{g:G}{M:Str}{X:FS}{scF:Fn}(hR:R x=some (c_ (cj 2 1 (o_ (mL h U T Q)))))(E:y M=some (c_ (cj 0 1 bR)))(S:iB v n p o s sh Y h U T Q)(H:∀g,O [v] g=some (.tup (cJ p),g))(W:lF n p o sh rs){r:R4}(A:fO n p o sh r){i:Nat}(B:i<aT n p o sh)(I:∀k,k<rs.length->cG (.int Y) (rs.map (de n o s sh)) k):
  ∃J u,(yd n p o sh r.1)[i]? = some J/\ak false 6 3 (u9 h U Q (ak false 10 5 (hZ R)) (ak false 6 3 (uZ Q O (ak false 5 4 (nT y)) M)) scF x X) [v,.int o,.tup ((rs.map d5).flatten++(d5 r).take i)] g=some (.tup [J,u],g):=by
 have p1:=S.p1;have fr:∀J∈(d5 r).take i,flat J=true:=λJ e=>A.fla J (NS e);have lt:((d5 r).take i).length=i:=by rw[Cu,show(d5 r).length=aT n p o sh from A.wl];omega
 have nm:=B_ (rest:=(d5 r).take i) (mv:=.int Y) hR (W.U2 S) rfl (by rw[lt];exact B) (λk l=>I k (by simpa using l));have m:=qU (g:=g) (Jf S (yf W fr)) nm rfl;obtain⟨J,e,ex⟩:=P7 (g:=g) E S H A (i:=i) B;refine⟨J,.int ((rs.length*aT n p o sh+i:Nat):Int),e,?_⟩;have len:=AL W (rest:=(d5 r).take i);rw[lt]at len;have Z:1<=aT n p o sh:=by unfold aT;omega
 have cut:wu ((rs.map d5).flatten++(d5 r).take i) (some ((rs.length*aT n p o sh:Nat):Int)) none=(d5 r).take i:=by unfold wu;rw[we,m8 (by rw[len];omega),oZ (n:=aT n p o sh) (λw hw=>by obtain⟨q,mo,rfl⟩:=nP.mp hw;exact(W.all q mo).wl) (by simp)];rw[show List.drop rs.length (rs.map d5)= [] from List.drop_eq_nil_iff.mpr (by simp),List.flatten_nil,Q5,len];exact Vu (by rw[lt];omega)
 have c:((rs.length*aT n p o sh+i:Nat):Int) / (aT n p o sh:Int)*(aT n p o sh:Int)=((rs.length*aT n p o sh:Nat):Int):=by
  have:(rs.length*aT n p o sh+i) / aT n p o sh=rs.length:=by rw[WM,Nat.mul_add_div (by omega),Nat.div_eq_of_lt B];omega
  rw[<- Int.natCast_ediv,this];simp
 have b:aT n p o sh<=30:=by have:=S.n5;have:=S.p4;have:=gC (n:=n) (o:=o) (sh:=sh);unfold aT;omega
 have cC:=W.cC;have C:rs.length*aT n p o sh<=600:=ae9 cC b;generalize j:(rs.map d5).flatten++(d5 r).take i=RD at *;change ak _ _ _ _ [v,.int o,.tup ((d5 r).take i)] g=_ at ex;generalize z:rs.length*aT n p o sh+i=L at *;generalize rs.length*aT n p o sh=R' at *;have d:e_ L (aT n p o sh)=true:=nA (by omega) (by omega);have a:cR ((L:Int) / (aT n p o sh)) (aT n p o sh)=true:=jl (by omega) (by omega);have f:ax 2=true:=rfl;refine bS rfl (AE S m (iV (g1:=g) rfl ?_)) rfl;simp[len,d,a,c,jS,cut,ex,f]
def P9 {pre:List D}(R:Rg n p o s z A j Z):wu (pre++bF z A j Z) (some ((pre.length+2*(av n o s).length+p:Nat):Int)) (some ((pre.length+2*(av n o s).length+2*p:Nat):Int))=j:=by
 have e:pre++bF z A j Z=(pre++eA (bI z)++A)++(j++bI Z):=by simp[bF]
 have a:(pre++eA (bI z)++A).length=pre.length+2*(av n o s).length+p:=by rw[nv,nv,R.kw,R.fl]
 have b:(pre++bF z A j Z).length=pre.length+(3*(av n o s).length+2*p):=by rw[nv,R.wl]
 unfold wu;rw[m8 (by omega),wU (by omega),e,<- a,afa,a,show pre.length+2*(av n o s).length+2*p-(pre.length+2*(av n o s).length+p)=j.length by rw[R.sl];omega,ael]
def P_ {pre:List D}(S:iB v n p o s Y X h U T Q)(R:Rg n p o Y z A j Z):ak false 4 3 (jW U Q) [v,.int o,.tup (pre++bF z A j Z)] a=some (.tup j,a):=by
 have e:(pre++bF z A j Z).length=pre.length+(3*(av n o Y).length+2*p):=by rw[nv,R.wl]
 have f:((pre++bF z A j Z).length:Int)-((av n o Y).length:Int)=((pre.length+2*(av n o Y).length+2*p:Nat):Int):=by rw[e];omega
 have m:((pre.length+2*(av n o Y).length+2*p:Nat):Int)-(p:Int)=((pre.length+2*(av n o Y).length+p:Nat):Int):=by omega
 have c:=P9 (pre:=pre) R;generalize pre++bF z A j Z=W at *;refine bS rfl (dE (d:=.int ((pre.length+2*(av n o Y).length+2*p:Nat):Int)) (g1:=a) (by simp[S.hs a,cW,f]) (fu (d:=.tup j) (g1:=a) ?_)) rfl;generalize i:((pre.length+2*(av n o Y).length+2*p:Nat):Int)=g at *;generalize ((pre.length+2*(av n o Y).length+p:Nat):Int)=b at *;simp[S.hp a,m,jS,c]
noncomputable abbrev allR (rs:List R4)(r:R4):List D:=((rs ++ [r]).map d5).flatten
def Hl {rs:List R4}{r:R4}:allR rs r=(rs.map d5).flatten++d5 r:=by simp[allR]
def lF.snoc {rs:List R4}(W:lF n p o s rs){r:R4}(b:fO n p o s r)(cC:rs.length<20):lF n p o s (rs ++ [r]):=⟨λq a=>by
 rcases nQ.mp a with a|a
 . exact W.all q a
 . simp at a;subst a;exact b,by simp;omega⟩
def qW {rs:List R4}(W:lF n p o s rs){r:R4}(a:fO n p o s r)(cC:rs.length<20):(allR rs r).length=(rs.length+1)*aT n p o s:=by have:=AL (W.snoc a cC) (rest:=[]);rw[wz]at this;simpa using this
noncomputable def hlM (scF:Fn)(X:FS):FS:=aw (cA (ay (ag qp (ag ao ee cP) fb)) (aP (aJ aB (ae (aJ aB (ae hI (ae (aj gL (ae (bH bA (dg (aj scF (ae bR (ae bg (ae (d_ b0 fE (bL d4)) af))))) [none,none] (gN 1) cN (ag ao bg dV)) af)) af))) (ae d4 af)))) a_) X
noncomputable def jf (m:D)(n p o c:Nat)(a:List D)(s U:Nat)(en:Option Nat):Sg:=[some m,some (.int o),some (.tup a),some (.int (aT n p o c)),some (.tup [.int s,eD en]),some (.int U)]
def pd {mo:Nat}{rs:List R4}{g:G}{X:FS}{step scF:Fn}(hR:R x=some (c_ (cj 2 1 (o_ (mL h U T Q)))))(S:iB v n p o s K mo h U T Q)(W:lF n p o K rs){r:R4}(q:fO n p o K r)(cC:rs.length<20){rest:List D}(nm:∀m∈rest,flat m=true){en:Option Nat}(z:∀k,k<rs.length->cG (.int mo) ((rs ++ [r]).map (de n o s K)) k)(y:gB (.int mo) ((rs ++ [r]).map (de n o s K)) rs.length en){Y:Option (F×Sg×G)}(k:hlM scF X (jf v n p o K (allR rs r++rest) (rs.length*aT n p o K) ((rs.length+1)*aT n p o K) en) g=Y):
  u9 h U Q (ak false 10 5 (hZ R)) step scF x X ([v,.int o,.tup (allR rs r++rest)].map some++nN (6-3) none) g=Y:=by
 have l:=S.p1;have e:=W.snoc q cC;have B:((rs ++ [r]).map d5).length=rs.length+1:=by simp
 have c:=Ca (rest:=rest) (mv:=.int mo) (en:=en) hR (e.U2 S) rfl (by omega) (λk u=>z k (by rw[B]at u;omega)) (by rw[B,ahg];exact y);rw[B,ahg]at c;have f:=qU (g:=g) (Jf S (yf e nm)) c (by cases en<;>rfl);have j:((rs.length*aT n p o K:Nat):Int)+(aT n p o K:Int)=(((rs.length+1)*aT n p o K:Nat):Int):=by rw[IA];omega
 have i:∀a b:D,eI [a,b] 0=some a:=λ_ _=>rfl;unfold allR at *;generalize ((rs ++ [r]).map d5).flatten++rest=C at *;refine AE S f (dS (g1:=g) ((eQ (g1:=g) rfl).trans rfl) (dE (d:=.int ((rs.length+1)*aT n p o K:Nat)) (g1:=g) ?_ k));rw[<- j];generalize rs.length*aT n p o K=E at *;simp[gS,bD,i]
def yL {rs:List R4}{g:G}{X:FS}{step:Fn}(hR:R x=some (c_ (cj 2 1 (o_ (mL U T Q O)))))(S:iB v n p o s Y K U T Q O)(W:lF n p o Y rs){r:R4}(A:fO n p o Y r)(cC:rs.length<20){rest:List D}(C:∀m∈rest,flat m=true)(H:∀k,k<rs.length->cG (.int K) ((rs ++ [r]).map (de n o s Y)) k)(E:gB (.int K) ((rs ++ [r]).map (de n o s Y)) rs.length none):
  ak false 6 3 (u9 U T O (ak false 10 5 (hZ R)) step (ak false 4 3 (jW T O)) x X) [v,.int o,.tup (allR rs r++rest)] g=some (.tup [.tup [.str "told",.tup (r.2.2.1.map RI)],.int ((rs.length+1)*aT n p o Y:Nat)],g):=by
 have sc:ak false 4 3 (jW T O) [v,.int o,.tup (allR rs r)] g=some (.tup r.2.2.1,g):=by rw[Hl];exact P_ S A
 have al:=qW W A cC;have cut:wu (allR rs r++rest) none (some (((rs.length+1)*aT n p o Y:Nat):Int))=allR rs r:=by unfold wu;rw[wU (by rw[nv,al];omega)];show((allR rs r++rest).drop 0).take ((rs.length+1)*aT n p o Y-0)=_;rw[ae8,Nat.sub_zero,<- al,ael]
 have zs:ax r.2.2.1.length=true:=aH (by rw[A.sl];have:=S.p4;omega);have z2:ax 2=true:=rfl;have c:=fF (t:=gN 1) (c:=cN) (e:=ag ao bg dV) (h:=RI) (λJ=>∃a,J = [none,a]) r.2.2.1 [none,none] g ⟨_,rfl⟩ (by rintro t hm J ⟨a,rfl⟩;obtain⟨nm,a,t,rfl,hv⟩:=A.sa t hm;exact⟨[none,some (.tup [nm,.int a,.int t])],by simp,by simp,by simp[gS,bD,Jd];rfl,⟨_,rfl⟩⟩)
 refine bS rfl (pd hR S W A cC C H E (iV (g1:=g) (rfl:(ay (ag qp (ag ao ee cP) fb)) (jf v n p o Y (allR rs r++rest) (rs.length*aT n p o Y) ((rs.length+1)*aT n p o Y) none) g=some (true,g)) ?_)) rfl;generalize allR rs r++rest=b at *;generalize allR rs r=z at *;generalize (rs.length+1)*aT n p o Y=B at *;generalize rs.length*aT n p o Y=I at *;have i:d_ b0 fE (bL d4) (jf v n p o Y b I B none) g=some (.tup z,g):=by show(d_ b0 fE (bL d4)) [some v,some (.int o),some (.tup b),some (.int (aT n p o Y)),some (.tup [.int I,eD none]),some (.int B)] g=_;simp[jS,cut]
 have M:bR (jf v n p o Y b I B none) g=some (v,g):=rfl;have Z:bg (jf v n p o Y b I B none) g=some (.int o,g):=rfl;have v5:d4 (jf v n p o Y b I B none) g=some (.int B,g):=rfl;have y:bZ [none,none] (jf v n p o Y b I B none)= [none,none]:=rfl;generalize jf v n p o Y b I B none=d at *;have l:aj (ak false 4 3 (jW T O)) (ae bR (ae bg (ae (d_ b0 fE (bL d4)) af))) d g=some (.tup r.2.2.1,g):=by simp only[ic,bX,M,Z,i,cy,m5,sc]
 have q:bH bA (dg (aj (ak false 4 3 (jW T O)) (ae bR (ae bg (ae (d_ b0 fE (bL d4)) af))))) [none,none] (gN 1) cN (ag ao bg dV) d g=some (.lst (r.2.2.1.map RI),g):=by
  have e9:dg (aj (ak false 4 3 (jW T O)) (ae bR (ae bg (ae (d_ b0 fE (bL d4)) af)))) d g=some (r.2.2.1,g):=by simp only[dg,l,m5,bD,E6]
  rw[jh,e9];simp only[m5,zs,if_true];rw[y,c];rfl
 have j:ax (r.2.2.1.map RI).length=true:=by rw[qV];exact zs
 have u:aj gL (ae (bH bA (dg (aj (ak false 4 3 (jW T O)) (ae bR (ae bg (ae (d_ b0 fE (bL d4)) af))))) [none,none] (gN 1) cN (ag ao bg dV)) af) d g=some (.tup (r.2.2.1.map RI),g):=by simp only[ic,bX,q,cy,m5,zF,bD,j,if_true]
 have f:aJ aB (ae hI (ae (aj gL (ae (bH bA (dg (aj (ak false 4 3 (jW T O)) (ae bR (ae bg (ae (d_ b0 fE (bL d4)) af))))) [none,none] (gN 1) cN (ag ao bg dV)) af)) af)) d g=some (.tup [.str "told",.tup (r.2.2.1.map RI)],g):=by simp only[me,bX,u,Bp,cy,m5];rfl
 rw[me];simp only[bX,f,v5,cy,m5];rfl
def Cf {q:Nat}{mo:Nat}{rs:List R4}{g:G}{step scF:Fn}(hR:R x=some (c_ (cj 2 1 (o_ (mL h U T Q)))))(S:iB v n p o K q mo h U T Q)(W:lF n p o q rs){r:R4}(e:fO n p o q r)(cC:rs.length<20)(l:∀k,k<rs.length->cG (.int mo) ((rs ++ [r]).map (de n o K q)) k)(i:gB (.int mo) ((rs ++ [r]).map (de n o K q)) rs.length (some s)):
   ∃u,ak false 6 3 (u9 h U Q (ak false 10 5 (hZ R)) step scF x va) [v,.int o,.tup (allR rs r)] g=some (.tup [.tup [.str "read",.tup [.str "view",.int s]],u],g):=by
 have al:=qW W e cC;have nm:=pd (g:=g) (step:=step) (scF:=scF) (X:=va) (rest:=[]) (Y:=some (.rt (.tup [.tup [.str "read",.tup [.str "view",.int s]],.int ((rs.length+1)*aT n p o q:Nat)]),jf v n p o q (allR rs r ++ []) (rs.length*aT n p o q) ((rs.length+1)*aT n p o q) (some s),g)) hR S W e cC (by simp) l i ?_
 . rw[wz]at nm
   exact⟨_,bS rfl nm rfl⟩
 have d:ax 2=true:=rfl;rw[wz];generalize allR rs r=a at *;generalize (rs.length+1)*aT n p o q=f at *;generalize rs.length*aT n p o q=j at *;refine dS (g1:=g) ((eQ (g1:=g) rfl).trans rfl) (iV (g1:=g) ?_ rfl);have c:aj cg (ae b0 af) (jf v n p o q a j f (some s)) g=some (.int f,g):=by rw[<- al];rfl
 have b:d4 (jf v n p o q a j f (some s)) g=some (.int f,g):=rfl;rw[cD,ck c b];simp[flat,dep,bq,fL]
def Cg {B:Nat}{mo:Nat}{rs:List R4}{g:G}{step scF:Fn}(hR:R x=some (c_ (cj 2 1 (o_ (mL h U T Q)))))(S:iB b n p o K B mo h U T Q)(W:lF n p o B rs){r:R4}(l:fO n p o B r)(cC:rs.length<20){rest:List D}(y:flat v=true)(u:∀m∈rest,flat m=true)(A:∀k,k<rs.length->cG (.int mo) ((rs ++ [r]).map (de n o K B)) k)(z:gB (.int mo) ((rs ++ [r]).map (de n o K B)) rs.length (some s)):
   ak false 6 3 (u9 h U Q (ak false 10 5 (hZ R)) step scF x va) [b,.int o,.tup (allR rs r++v::rest)] g=some (.tup [.tup [.str "told",v],.int (((rs.length+1)*aT n p o B:Nat)+1:Int)],g):=by
 have al:=qW W l cC;have at_:eI (allR rs r++v::rest) (((rs.length+1)*aT n p o B:Nat):Int)=some v:=gp (by rw[<- al];simp)
 have len:((allR rs r++v::rest).length:Int)≠((rs.length+1)*aT n p o B:Nat):=by rw[nv,al,z6];omega
 have j:=pd (g:=g) (step:=step) (scF:=scF) (X:=va) (rest:=v::rest) (Y:=some (.rt (.tup [.tup [.str "told",v],.int (((rs.length+1)*aT n p o B:Nat)+1:Int)]),jf b n p o B (allR rs r++v::rest) (rs.length*aT n p o B) ((rs.length+1)*aT n p o B) (some s),g)) hR S W l cC (by simp;exact⟨y,u⟩) A z ?_
 . exact bS rfl j rfl
 have i:ax 2=true:=rfl;generalize allR rs r++v::rest=C at *;generalize (rs.length+1)*aT n p o B=q at *;generalize rs.length*aT n p o B=E at *;have f:aj cg (ae b0 af) (jf b n p o B C E q (some s)) g=some (.int C.length,g):=rfl;have a:d4 (jf b n p o B C E q (some s)) g=some (.int q,g):=rfl;refine dS (g1:=g) ((eQ (g1:=g) rfl).trans rfl) (dS (σ1:=jf b n p o B C E q (some s)) (g1:=g) ((eQ (g1:=g) ?_).trans rfl) (fu ?_))
 . rw[cD,ck f a]
   simp[flat,dep,bq,fL];omega
 . have nm:ag ao b0 d4 (jf b n p o B C E q (some s)) g=some (v,g):=by
    rw[ck (d:=.tup C) (g1:=g) rfl a];simp[gS,bD,at_]
   have e:ag bf d4 cP (jf b n p o B C E q (some s)) g=some (.int ((q:Int)+1),g):=by rw[ck (d':=.int 1) (g2:=g) a rfl];rfl
   have c:aJ aB (ae hI (ae (ag ao b0 d4) af)) (jf b n p o B C E q (some s)) g=some (.tup [.str "told",v],g):=by simp only[me,bX,nm,Bp,cy,m5];rfl
   rw[me];simp only[bX,c,e,cy,m5];rfl
end
section
variable {r X q I:Nat}{Z Y u R:List D}{U:List (List Nat)}{l:List Nat}{f:Nat->Nat}{T Q O:Fn}{M:D->Prop}{c:D}{J B:Int}{H:G}
noncomputable def Ci (g:G)(a:Nat):Prop:=∃c,g[a]? = some c/\aS c=true/\bG c<=50/\aC 0 c=true
def Ci.of (e:H[p]? = a[p]?)(h:Ci a p):Ci H p:=by obtain⟨b,g,c⟩:=h;exact⟨b,by rw[e];exact g,c⟩
structure p0 (g:G)(w h b s r kq:Nat)(l:Int)(ex bx st rd:List D):Prop where
 hw:g[w]? = some (W0 h b l s r++ex)
 hb:g[b]? = some bx
 hs:g[s]? = some st
 hr:g[r]? = some rd
 nd:[w,h,b,s,r].Nodup
 hm:aI ex (.str "moving")=some (.ref kq)
 hk:Ci g kq
 nk:kq ∉ [w,h,b,s,r]
structure Zw (ex bx st rd:List D)(mv:List D):Prop where
 ka:dH bx=true
 bz:bx.length<=500
 ez:ex.length<=100
 sz:st.length<=900
 rz:rd.length<=900
def p0.fr (W:p0 a n p o s r X i A Z Y u)(f:o3 p a H):p0 H n p o s r X i A Z Y u:=by have nd:=u0 W.nd;exact⟨by rw[f.2 n nd.1.1];exact W.hw,by rw[f.2 o (n7 nd.2.1.1)];exact W.hb,by rw[f.2 s (n7 nd.2.1.2.1)];exact W.hs,by rw[f.2 r (n7 nd.2.1.2.2)];exact W.hr,W.nd,W.hm,W.hk.of (by rw[f.2 X λz=>W.nk (by simp[z])]),W.nk⟩
def p0.LH (W:p0 a n p o s r X i A Z Y u)(v:Int):p0 (a.set n (W0 p o v s r++A)) n p o s r X v A Z Y u:=by have nd:=u0 W.nd;have g:=(mT.mp W.hw).1;exact⟨t7 g,by rw[p7 nd.1.2.1];exact W.hb,by rw[p7 nd.1.2.2.1];exact W.hs,by rw[p7 nd.1.2.2.2];exact W.hr,W.nd,W.hm,W.hk.of (by rw[p7 λz=>W.nk (by simp[<- z])]),W.nk⟩
def p0.E3 (W:p0 a n p o s r X i A Z Y u)(c:List D):p0 (a.set o c) n p o s r X i A c Y u:=by have nd:=u0 W.nd;have g:=(mT.mp W.hb).1;exact⟨by rw[p7 (n7 nd.1.2.1)];exact W.hw,t7 g,by rw[p7 nd.2.2.1.1];exact W.hs,by rw[p7 nd.2.2.1.2];exact W.hr,W.nd,W.hm,W.hk.of (by rw[p7 λz=>W.nk (by simp[<- z])]),W.nk⟩
def p0.qX (W:p0 a n p o s r X i A Z Y u)(c:List D):p0 (a.set s c) n p o s r X i A Z c u:=by have nd:=u0 W.nd;have g:=(mT.mp W.hs).1;exact⟨by rw[p7 (n7 nd.1.2.2.1)];exact W.hw,by rw[p7 (n7 nd.2.2.1.1)];exact W.hb,t7 g,by rw[p7 nd.2.2.2.1];exact W.hr,W.nd,W.hm,W.hk.of (by rw[p7 λz=>W.nk (by simp[<- z])]),W.nk⟩
def p0.qY (W:p0 a n p o s r X i A Z Y u)(c:List D):p0 (a.set r c) n p o s r X i A Z Y c:=by have nd:=u0 W.nd;have g:=(mT.mp W.hr).1;exact⟨by rw[p7 (n7 nd.1.2.2.2)];exact W.hw,by rw[p7 (n7 nd.2.2.1.2)];exact W.hb,by rw[p7 (n7 nd.2.2.2.1)];exact W.hs,t7 g,W.nd,W.hm,W.hk.of (by rw[p7 λz=>W.nk (by simp[<- z])]),W.nk⟩
def LI (W:p0 a n p o s r X i A Z Y u)(S:Zw A Z Y u R)(f:aU 6 v=true)(g:aI Z v=some c):
  Hg [some (.az n),some v] a=some (.rt c,[some (.az n),some v],(a.set s (Y ++ [.tup [.str "read",v]])).set r (u ++ [c])):=by
 have h:=W.qX (Y ++ [.tup [.str "read",v]]);have w:=h.qY (u ++ [c]);have d:ax (Y.length+1)=true:=aH (by have:=S.sz;omega);have e:ax (u.length+1)=true:=aH (by have:=S.rz;omega);unfold Hg;simp[W.hw,fK,t8,pR,t9,W.hs,d,h.hw,h.hb,h.hr,f,g,e,w.hw,w.hb]
noncomputable def ba1 (other:Fn)(q P:D->Prop)(K:Int)(w h b s r d:Nat)(a:List D):Prop:=∀g l bx st u B i c,p0 g w h b s r d l a bx st u->aU 6 i=true->q i->aI bx i=some c->P c->Hd g h B->B+K<2 ^ 40 ->
 ∃p n,other [.az w,i] g=some (p,n)/\P p/\Hd n h (B+K)/\o3 h g n
noncomputable def OtK (nm:Str)(b a:List D):Prop:=∀k,aU 6 k=true->(∀i,k≠own nm i)->aI a k=aI b k
theorem p0.take {w h b s r g l d c e rd f}(W:p0 a w h b s r g l d c e rd)(hw:w<f)(j:b<f)(i:s<f)(o:r<f)(n:g<f):p0 (a.take f) w h b s r g l d c e rd :=
 ⟨by rw[C8 hw];exact W.hw,by rw[C8 j];exact W.hb,by rw[C8 i];exact W.hs,by rw[C8 o];exact W.hr,W.nd,W.hm,W.hk.of (C8 n),W.nk⟩
def qZ (W:p0 a n p o s r X i A Z u Y)(v:Hd a p B)(b:aC a.length A=true)(E:aC 0 Z=true)(C:aC 0 u=true)(y:aC 0 Y=true)(x:∀w g,w ∉ [n,p,o,s,r]->a[w]? = some g->aC a.length g=true):Bd a:=λw g c=>by
 have e:o<a.length:=(mT.mp W.hb).1;have ls:s<a.length:=(mT.mp W.hs).1;have h:r<a.length:=(mT.mp W.hr).1;have j:p<a.length:=v.lt;by_cases H:w=n
 . subst H;rw[W.hw]at c;cases c
   refine fJ ?_ b;simp[W0,aC,bU,j,e,ls,h]
 by_cases I:w=p
 . subst I
   obtain⟨q,z,d,f,_⟩:=v;rw[f]at c;cases c;simp[aC,bU]
 by_cases d:w=o
 . subst d;rw[W.hb]at c;cases c;exact eu (tc _) E
 by_cases J:w=s
 . subst J;rw[W.hs]at c;cases c;exact eu (tc _) C
 by_cases M:w=r
 . subst M;rw[W.hr]at c;cases c;exact eu (tc _) y
 . exact x w g (by simp[H,I,d,J,M]) c
def Cj {C H B:D}(W:p0 a n p o s r X i A Z Y u)(M:Y.length=u.length)(hz:u.length<=900)(fs:∀x∈Y,flat x=true/\dep x<=60)(fd:flat B=true)(J:dep B<=50)(K:EK h v c C H Y u B a):
  ak false 10 6 (qR h) [v,c,C,H,.az n,B] a=some (.bl true,a):=by
 have Q:mX (ak false 10 6 (qR h) [v,c,C,H,.az n,B] a) λq=>q=(.bl true,a):=by
  have g:(oD Y u).length=u.length:=by simp[oD,M]
  have e0:pM (ag ao ee ir) (ag ao ee iQ) [some v,some c,some C,some H,some (.az n),some B,some (.tup []),none,none,none] a=some (nq (λa=>a[s]?) (λa=>a[r]?),u.length,a):=by
    have z:nq (λa=>a[s]?) (λa=>a[r]?) a=some (oD Y u):=by simp[nq,W.hs,W.hr]
    rw[GG,show ag ao ee ir [some v,some c,some C,some H,some (.az n),some B,some (.tup []),none,none,none] a=some (.ref s,a) by simp[W.hw,fK,t8]];simp only[m5,oI];rw[show ag ao ee iQ [some v,some c,some C,some H,some (.az n),some B,some (.tup []),none,none,none] a=some (.ref r,a) by simp[W.hw,fK,t9]];simp only[m5,z,E6,g]
  refine OU rfl (gA (d:=.tup []) (g1:=a) rfl (wp_seq ?_));show mX (mY _ _ _ [some v,some c,some C,some H,some (.az n),some B,some (.tup []),none,none,none] a) _;rw[GF,e0];simp only[m5];refine qN (λj E I=>I=a /\ ∃f w,E = [some v,some c,some C,some H,some (.az n),some B,some (.tup (u.take j)),f,w,none]) _ 0 _ _ (by simp) ⟨rfl,none,none,by simp⟩ ?_ ?_
  . rintro j E I hj ⟨rfl,f,w,rfl⟩
    refine⟨oD Y u,by simp[nq,W.hs,W.hr],g,λd J=>?_⟩;unfold oD at J;rw[qd]at J;cases hx:(Y.zip u)[j]? with
    |none=>rw[hx]at J;cases J
    |some pr =>
     obtain⟨x,b⟩:=pr;rw[hx]at J;simp only[E6,adD]at J;subst J;rw[QN]at hx;have O:j<u.length:=(mT.mp hx.2).1;obtain⟨x',l,e⟩:=K.at_ j O;rw[hx.1]at l;cases l;obtain⟨U,f2⟩:=fs x (sZ hx.1);have N:ax ((u.take j).length+1)=true:=aH (by simp;omega);have y:u.take j ++ [b]=u.take (j+1):=by rw[agD,hx.2];rfl
     have t:∀E:Sg,aj h (ae bR (ae bg (ae b0 (ae cT (ae ef af))))) E I=some (x,I)->E[7]? = some (some x)->ay (ag bp (aj h (ae bR (ae bg (ae b0 (ae cT (ae ef af)))))) eW) E I=some (false,I):=λE h1 h2=>by rw[cD,ck (d':=x) (g2:=I) h1 (by simp[h2])];simp[fL,U,f2,kG x U]
     refine⟨_,U0,?_⟩;generalize hR:u.take j=R at *;refine cX (σ1:=[some v,some c,some C,some H,some (.az n),some B,some (.tup R),some x,some b,none]) (g1:=I) ((eQ (g1:=I) (t _ (by rw[<- hR]at e ⊢;exact e) rfl)).trans rfl) ?_;refine⟨_,j_ (d:=.tup (u.take (j+1))) (g1:=I) (by simp[N,y]),⟨rfl,_,_,rfl⟩⟩
  . rintro E I ⟨rfl,f,w,rfl⟩
    have L:flat (.tup [.str "told",B])=true:=by simp[flat,aS,fd]
    have dt:dep (.tup [.str "told",B])<=60:=by simp[dep,bG];omega
    have e:=K.fin;have q:∀a,oEq (.tup [.str "told",B]) (.tup [.str "told",B]) a=some (.bl true,a):=λa=>by simp[oEq,L,dt,kG _ L]
    simp[e,q,show lu .tuple (.tup [.str "told",B])=true from rfl]
 obtain⟨q,e,rfl⟩:=Q;exact e
def Qb {key:D}(W:p0 a n o X s r p i u A Z Y)(x:aU 6 key=true)(y:A.length<=500)(sz:Z.length<=900)(z:Y.length<=900):
  ∃h,ak false 3 3 setB [.az n,key,v] a=some (.aA,h)/\p0 h n o X s r p i u (aQ A key v) (Z ++ [.tup [.str "write",key,v]]) (Y ++ [.aA])/\cx [X,s,r] a h:=by
 have B:=W.qX (Z ++ [.tup [.str "write",key,v]]);have w:=B.qY (Y ++ [.aA]);have d:=w.E3 (aQ A key v);have j:ax (Z.length+1)=true:=aH (by omega);have c:ax (Y.length+1)=true:=aH (by omega);have f:ax 3=true:=rfl;have g:iy A=true:=by unfold iy;exact aH (by omega)
 have key:mX (ak false 3 3 setB [.az n,key,v] a) λq=>q=(.aA,((a.set s (Z ++ [.tup [.str "write",key,v]])).set r (Y ++ [.aA])).set X (aQ A key v)):=by refine OU rfl ?_;simp[setB,W.hw,fK,t8,pR,t9,W.hs,j,B.hw,B.hr,x,c,f,w.hw,w.hb,g]
 obtain⟨q,e,rfl⟩:=key;exact⟨_,e,d,((cx.set (by simp)).trans (cx.set (by simp))).trans (cx.set (by simp))⟩
noncomputable def sY (a:Fn):FS:=aP (aj gL (ae (bH bA (dX (ae bg af)) [none,none,some 0] (gN 1) cN (aj a (ae b0 af))) af))
noncomputable def hG (c:D):Prop:=∃v m g,c = .tup [v,.int m,.tup g]/\vG v /\ ∀w∈g,vG w
noncomputable def ju (f:Fn):Prop:=∀n (k:Nat) g (B:Int),k<=20->B+3*k<2 ^ 40->Hd g n B->∃(c:List D) (h:G),f [.ref n,.int k] g=some (.tup c,h)/\c.length=k/\(∀w∈c,vG w)/\Hd h n (B+3*k)/\o3 n g h
def E4 (C:jM h):ju (ak false 2 2 (sY h)):=λn k g B z Q hd=>by
 have I:mX (ak false 2 2 (sY h) [.ref n,.int k] g) λq=>∃H:List D,q.1 = .tup H/\H.length=k/\(∀w∈H,vG w)/\Hd q.2 n (B+3*k)/\o3 n g q.2:=by
  refine OU rfl ?_;simp[sY];refine sQ ?_;have l:ax k=true:=aH (by omega);simp[cz,l];refine⟨by omega,?_⟩;refine kI (λj E J a=>(∃i,J = [none,i,some (.ref n)])/\(E.length=j /\ ∀w∈E,vG w)/\Hd a n (B+3*j)/\o3 n g a) _ 0 _ _ [] ⟨⟨none,rfl⟩,⟨rfl,by simp⟩,by simpa using hd,.refl⟩ ?_ ?_
  . rintro j d E J a p ⟨⟨i,rfl⟩,⟨A,c⟩,f,b⟩
    obtain⟨R,rfl⟩:=di p;simp only[vU]at *;refine qQ (C n a _ (by omega) f) λv U x s M O=>?_;simp[x,A];refine⟨λw hw=>?_,M.mono (by omega),b.trans O⟩;rcases hw with hw|rfl
    . exact c w hw
    . exact s
  . rintro X J a ⟨_,⟨A,c⟩,f,b⟩
    simp only[Q5,cz,vU]at *;simp[A,l];exact⟨b.1,c,f,b⟩
 obtain⟨⟨d,a⟩,e,H,rfl,y,r,o,u⟩:=I;exact⟨H,a,e,y,r,o,u⟩
noncomputable def cl (f:Nat->Nat)(n:Nat):List D:=(r6 n).map λj=>D.int (f j:Nat)
def baM:oEq (.int i) (.int J) a=some (.bl (decide (i=J)),a):=by
 by_cases e:i=J
 . subst e;simp[oEq,flat,dep,bq]
 . simp[oEq,flat,dep,bq,e]
def q_:b_ (n+1) o=b_ n o++if n=o then []else [n]:=by
 unfold b_;rw[aeX,adw];by_cases h:n=o
 . rw[if_pos h];simp[h]
 . rw[if_neg h];simp[h]
noncomputable def U4 (n:Nat)(a:List D):Prop:=∀i j,i<n->j<n->∃c:Int,aI a (cI i j)=some (.int c)
def vT:aU 6 (cI n p)=true:=rfl
def nE:av (n+1) o p=av n o p++if p=1/\n≠o then [n]else []:=by
 unfold av;by_cases h:p=1
 . rw[if_pos h,if_pos h,q_]
   by_cases h2:n=o
   . rw[if_pos h2,if_neg (by simp[h2])]
   . rw[if_neg h2,if_pos ⟨h,h2⟩]
 . rw[if_neg h,if_neg h,if_neg (by simp[h])];rfl
def Hn:eA (A ++ [c])=eA A ++ [c,.aA]:=by simp[eA]
structure L1 (n o sh:Nat)(w h b s r kq q:Nat)(ex pf st rd:List D)(B:Int)(g0:G)(j:Nat)(g:G)(ks:List D):Prop where
 kl:ks.length=(av j o sh).length
 ka:∀c∈ks,SC n c
 sd:∃sd,g[q]? = some sd/\dH sd=true/\sd.length<=2*j/\aC 0 sd=true /\ ∀i,i∈av j o sh->aI sd (.int i)=some (.int (sgn j o sh ks i))
 W:∃l bx,p0 g w h b s r kq l ex bx (st++((av j o sh).zip ks).flatMap (baK o)) (rd++eA ks)/\dH bx=true/\bx.length=pf.length/\EJ (SC n) "own" n bx/\U4 n bx/\aC 0 bx=true
 hd:Hd g h (B+j*31)
 len:g.length=q+1
 fr:∀i,i ∉ [w,h,b,s,r,q]->g[i]? = g0[i]?
def Ho (W:p0 a n p o s r X i R A Z Y)(g:q≠n/\q≠p/\q≠o/\q≠s/\q≠r)(d:q≠X):p0 (a.set q u) n p o s r X i R A Z Y :=
 ⟨by rw[p7 g.1];exact W.hw,by rw[p7 g.2.2.1];exact W.hb,by rw[p7 g.2.2.2.1];exact W.hs,by rw[p7 g.2.2.2.2];exact W.hr,W.nd,W.hm,W.hk.of (p7 d),W.nk⟩
theorem yh {k v:D}:∀{xs:List D},(aQ xs k v).length<=xs.length+2
 | []=>by simp[aQ]| [_]=>by simp[aQ]
 |a::b::r=>by
  simp only[aQ];split
  . simp
  . have:=yh (k:=k) (v:=v) (xs:=r)
    simp;omega
noncomputable def pg (f:Nat->Nat):Nat->Nat
 | 0=>0|n+1=>pg f n+f n
theorem yi {f c:Nat->Nat}(h:∀i,f i<=c i):∀n,pg f n<=pg c n
 | 0=>nc _|n+1=>by have:=yi h n;have:=h n;simp only[pg];omega
theorem AM {f f':Nat->Nat}(h:∀i,f i<=f' i){j:Nat}(a:f j+1<=f' j):∀n,j<n->pg f n+1<=pg f' n
 | 0,c=>by omega
 |n+1,c=>by
  simp only[pg];by_cases e:j=n
  . subst e;have:=yi h j;omega
  . have:=AM h a n (by omega);have:=h n;omega
theorem Fb {f:Nat->Nat}{m:Nat}:∀n,(∀j,j<n->f j<=m)->pg f n<=n*m
 | 0,_=>by simp[pg]|n+1,h=>by have:=Fb n λj a=>h j (by omega);have:=h n (by omega);simp only[pg];rw[IA];omega
def yj (h:n<U.length):(U ++ [l]).getD n []=U.getD n []:=by rw[Np,r_ h,<- Np]
def baN:(U ++ [l]).getD U.length []=l:=by simp[Np]
theorem rg {ps:List (List Nat)}{x:List Nat}:∀{k:Nat},k<=ps.length->cE (ps ++ [x]) k=cE ps k
 | 0,_=>rfl|k+1,h=>by funext j;simp only[cE];rw[rg (by omega),yj (by omega)]
def Hr (h:n<U.length)(g:cG v U n):cG v (U ++ [l]) n:=by unfold cG;rw[yj h,rg (by omega)];exact g
theorem AN {mv:D}{ps:List (List Nat)}{n:Nat}(d:∀p∈ps,∀j∈p,j<n):∀{k:Nat},k<=ps.length->(∀i,i<k->cG mv ps i)->k<=pg (cE ps k) n
 | 0,_,_=>tc _
 |k+1,h,g=>by
  have u:=AN d (k:=k) (by omega) λi c=>g i (by omega);obtain⟨q,_⟩:=g k (by omega);obtain⟨j,r,e⟩:=afz q;have a:j∈ps.getD k []:=by rw[e];simp
  have b:ps.getD k []∈ps:=by rw[Np,nz (by omega)];exact Cv _
  have:=AM (f:=cE ps k) (f':=cE ps (k+1)) (λi=>by simp only[cE];omega) (j:=j) (by simp only[cE];rw[if_pos a];omega) n (d _ b j a);omega
noncomputable def cq (f:Nat->Nat)(n:Nat):List D:=(r6 n).map λj=>.int (f j:Nat)
def iC (h:p<n):(cq f n)[p]? = some (.int (f p:Nat)):=by simp[cq,h]
def Fc (h:p<n):(cq f n).set p (.int ((f p+1:Nat):Int))=cq (λi=>f i+if i=p then 1 else 0) n:=by
 apply Ws;intro i;by_cases c:i<n
 . by_cases e:p=i
   . subst e
     rw[t7 (by simp[cq];exact h),iC h];simp
   . rw[p7 e,iC c,iC c]
     simp[n7 e]
 . rw[zH (by simp[cq];omega),zH (by simp[cq];omega)]
noncomputable def yk:FS:=aF (ag bf (ag ao cT ef) cP) (dC cT ef)
theorem ym {n c:Nat}{a0 a1 a2 a4 a5:D}:∀(r:List Nat) (f:Nat->Nat) (g:G) (u:Option D),(∀j∈r,j<n)->r.Nodup->g[c]? = some (cq f n) ->
  ∃x,forL (gN 6) yk (dN r) [some a0,some a1,some a2,some (.ref c),some a4,some a5,u] g=some (.nx,[some a0,some a1,some a2,some (.ref c),some a4,some a5,x],g.set c (cq (cM f r) n))
 | [],f,g,u,_,_,hc=>by
  refine⟨u,?_⟩;have e:cM f []=f:=by funext i;simp[cM]
  rw[e];obtain⟨d,l⟩:=mT.mp hc;rw[<- l,UG];rfl
 |j::r,f,g,u,hm,nd,hc=>by
  rw[Dy]at nd;have b:=hm j (by simp);have d:=(mT.mp hc).1;have a:=gp (iC (f:=f) b);have ln:(cq f n).length=n:=by simp[cq]
  have o:yk [some a0,some a1,some a2,some (.ref c),some a4,some a5,some (.int j)] g=some (.nx,[some a0,some a1,some a2,some (.ref c),some a4,some a5,some (.int j)],g.set c (cq (λi=>f i+if i=j then 1 else 0) n)):=by
   rw[<- Fc b];unfold yk;have v:ag bf (ag ao cT ef) cP [some a0,some a1,some a2,some (.ref c),some a4,some a5,some (.int j)] g=some (.int ((f j+1:Nat):Int),g):=by simp[gS,bD,hc,a]
   rw[kh,v];simp[hc,putD,lR,ln,b]
  obtain⟨x,h⟩:=ym r (λi=>f i+if i=j then 1 else 0) (g.set c (cq (λi=>f i+if i=j then 1 else 0) n)) (some (.int j)) (λi p=>hm i (by simp[p])) nd.2 (t7 d);refine⟨x,?_⟩;have q:cM (λi=>f i+if i=j then 1 else 0) r=cM f (j::r):=by
   funext i;simp only[cM,nF];by_cases h1:i=j
   . subst h1;simp[nd.1]
   . simp[h1]
  simp only[dN,yp,forL]at h ⊢;rw[show gN 6 (D.int j) [some a0,some a1,some a2,some (.ref c),some a4,some a5,u] g=some ([some a0,some a1,some a2,some (.ref c),some a4,some a5,some (.int j)],g) from rfl];simp only[m5,o];rw[h,W3,q]
def vb:aC 0 (cq f n)=true:=eR λx a=>by simp only[cq,nP]at a;obtain⟨j,_,rfl⟩:=a;rfl
def ue:n∈i8 f (.int p) l ↔ n∈l/\f n=p:=by
 unfold i8;rw[EZ];have:bq (.int (f n:Nat)) (.int p)=decide (f n=p):=by
  by_cases e:f n=p
  . simp[bq,e]
  . have:¬((f n:Int)=(p:Int)):=by omega
    simp[bq,e,this]
 rw[this];simp
def rep0:(nN n [D.int 0]).flatten=cq (λ_=>0) n:=by
 apply Ws;intro i;by_cases c:i<n
 . rw[iC c]
   have:(nN n [D.int 0]).flatten=nN n (.int 0):=by induction n with|zero=>rfl|succ n g=>simp[UQ]
   rw[this];simp[c]
 . rw[zH (by simp;omega),zH (by simp[cq];omega)]
def Fd (b:p<n)(h:cG v U p):cG v (U.take n) p:=by
 have e:∀j,j<n->(U.take n).getD j []=U.getD j []:=λj a=>by simp[Np,C8 a]
 have c:∀m,m<=n->cE (U.take n) m=cE U m:=by
  intro m;induction m with
  |zero=>intro _;rfl
  |succ m g =>
   intro hm;funext j;show cE (U.take n) m j+(if j∈(U.take n).getD m []then 1 else 0)=cE U m j+(if j∈U.getD m []then 1 else 0);rw[g (by omega),e m (by omega)]
 unfold cG at h ⊢;rw[e p b,c (p+1) (by omega)];exact h
noncomputable def yn (o n:Nat):List D:=((r6 n).filter λj=>!(j == o)).map λj=>cI j o
def yo:aS (yn o n)=true/\bG (yn o n)<=50:=by
 have:∀l:List Nat,aS (l.map λj=>cI j o)=true/\bG (l.map λj=>cI j o)<=50:=λl=>by
  induction l with
  |nil=>exact⟨rfl,by simp[bG]⟩
  |cons a l c =>
   simp only[yp,aS,bG];exact⟨by rw[c.1];rfl,ahZ.mpr ⟨by simp[cI,dep,bG],c.2⟩⟩
 exact this _
def ph (a:aS A=true)(b:aS Z=true):aS (A++Z)=true:=by
 induction A with
 |nil=>exact b|cons x A c=>simp only[aS,aeA,mS]at a ⊢;exact⟨a.1,c a.2⟩
def rh (b:bG A<=n)(a:bG Z<=n):bG (A++Z)<=n:=by
 induction A with
 |nil=>exact a|cons x A c=>simp only[bG,aeA]at b ⊢;exact ahZ.mpr ⟨by omega,c (by omega)⟩
def AO {g:G}{f:Nat->D}{e:FE}(p:∀(j:Nat) (g:G),e [none,some (.int j),some (.int o)] g=some (f j,g)):
   mX (cZ (gN 1) (ay (ag bp bg b0)) e (fS 0 n) [none,none,some (.int o)] g) λq=>q=(((r6 n).filter λj=>!(j == o)).map f,g):=by
 refine kI (λi r u a=>(∃v,u = [none,v,some (.int o)])/\r=((r6 i).filter λj=>!(j == o)).map f/\a=g) _ 0 _ _ [] ⟨⟨none,rfl⟩,rfl,rfl⟩ ?_ ?_
 . rintro i d r u a b ⟨⟨l,rfl⟩,rfl,rfl⟩
   obtain⟨h,rfl⟩:=di b;simp only[vU];have t:ay (ag bp bg b0) [none,some (.int i),some (.int o)] a=some (decide ((i:Int)≠(o:Int)),a):=by rw[cD,show ag bp bg b0 [none,some (.int i),some (.int o)] a=bp (.int i) (.int o) a from rfl,Sx];rfl
   refine⟨_,rfl,_,t,?_⟩;by_cases hc:i=o
   . subst hc;simp[aeX,adw]
   . have c:¬((i:Int)=(o:Int)):=by omega
     simp only[ne_eq,c,not_false_eq_true,decide_true,if_true];refine⟨_,p i a,⟨_,rfl⟩,?_,rfl⟩;simp[aeX,adw,hc]
 . rintro x u a ⟨_,e,rfl⟩
   simp only[Q5,cz,vU]at e;rw[e]
noncomputable def LQ (n:Nat)(l:Int):Prop:=2<=n\/l<=0
def Qe {P:D->Prop}(L:cU h)(W:p0 a p o X s r q J A Z Y u)(S:Zw A Z Y u R)(I:Hd a o B)(M:0<=i)(N:B+i+1<2 ^ 40)(E:aU 6 v=true)(C:aI Z v=some c)(H:P c)(ex:LQ n J)(w:2<=n->∀a J B,p0 a p o X s r q J A Z Y u->Hd a o B->B+i<2 ^ 40->∃O g',T [.az p,v] a=some (O,g')/\P O/\Hd g' o (B+i)/\o3 o a g'):
   ∃Q l1 U c1,LQ n l1/\qT h T [some (.az p),some v] a=some (.nx,[some (.az p),some v],Q)/\p0 Q p o X s r q l1 A U Y u/\Zw A U Y u R/\Hd Q o (B+i+1)/\aI U v=some c1/\P c1/\cx [p,o,X,s,r] a Q/\(U=Z\/U=aQ Z v c1):=by
 have fk:=(fH v E).1;have nd:=u0 W.nd;obtain⟨b,x,sj,j,_⟩:=W.hk;have l:mr v (.ref q) a=some (b.any λy=>bq y v):=by unfold mr;simp only[bD,x,m5,zO,fk,sj,j,decide_true,Zf,if_true]
 by_cases h0:0<J
 . by_cases h1:(b.any λy=>bq y v)=true
   . refine gM (L o 3 a B (by omega) (by decide) (by decide) I) λd Q g d0 d1 K f1=>?_
     have W1:=W.fr f1;by_cases h2:d=0
     . subst h2
       have kq:=W1.LH (J-1);have hz:iy (W0 o X J s r++A)=true:=by unfold iy;exact aH (by have:=S.ez;simp[W0];omega)
       obtain⟨O,g3,z,p3,jV,other⟩:=w (ex.resolve_right (by omega)) _ _ _ kq (Hd.ne K (n7 (by exact λe=>nd.1.1 e.symm))) (by omega);have take:=kq.fr other;have W4:=take.E3 (aQ Z v O);have f:iy Z=true:=by unfold iy;exact aH (by have:=S.bz;omega)
       refine⟨g3.set X (aQ Z v O),J-1,aQ Z v O,O,.inl (ex.resolve_right (by omega)),?_,W4,⟨kS E S.ka,by rw[pS C];exact S.bz,S.ez,S.sz,S.rz⟩,(Hd.ne jV (n7 nd.2.1.1)).mono (by omega),iz E S.ka,p3,?_,.inr rfl⟩
       . unfold qT
         simp[W.hw,fK,sU,h0,qS,W.hm,l,h1,oX,g,W1.hw,hz,Py,z,take.hw,pR,take.hb,E,f]
       . exact((cx.of f1 (by simp)).trans (cx.set (by simp))).trans ((cx.of other (by simp)).trans (cx.set (by simp)))
     . refine⟨Q,J,Z,c,ex,?_,W1,S,K.mono (by omega),C,H,.of f1 (by simp),.inl rfl⟩
       unfold qT;simp[W.hw,fK,sU,h0,qS,W.hm,l,h1,oX,g,h2]
   . refine⟨a,J,Z,c,ex,?_,W,S,I.mono (by omega),C,H,.refl,.inl rfl⟩
     unfold qT;simp[W.hw,fK,sU,h0,qS,W.hm,l,h1]
 . refine⟨a,J,Z,c,ex,?_,W,S,I.mono (by omega),C,H,.refl,.inl rfl⟩
   unfold qT;simp[W.hw,fK,sU,h0]
structure Tc (n:Nat)(g g':G)(w h b s r kq:Nat)(ex mv bx gH st rd:List D)(key c':D)(P:D->Prop)(B:Int):Prop where
 W:∃l',LQ n l'/\p0 g' w h b s r kq l' ex gH (st ++ [.tup [.str "read",key]]) (rd ++ [c'])
 ka:dH gH=true
 bl:gH.length=bx.length
 hd:Hd g' h B
 pc:P c'
 at_:aI gH key=some c'
 ot:∀k,aU 6 k=true->k≠key->aI gH k=aI bx k
 nr:∀k,bU k c'=true->aC k bx=true->aC k gH=true
 fr:cx [w,h,b,s,r] g g'
noncomputable def pj (n:Nat)(e:Fn)(x P:D->Prop)(K:Int)(w h b s r d:Nat)(a q:List D):Prop:=∀g l bx st p B i c,LQ n l->p0 g w h b s r d l a bx st p->Zw a bx st p q->Hd g h B->B+K<2 ^ 40->aU 6 i=true->x i->aI bx i=some c->P c ->
 ∃u v y,e [.az w,i] g=some (u,v)/\Tc n g v w h b s r d a q bx y st p i u P (B+K)
def Ck {P:D->Prop}(I:cU h)(E:0<=i)(H:2<=n->ba1 T M P i p o X s r q A):pj n (ak false 2 2 (B5 h T)) M P (i+1) p o X s r q A Z:=λg l bx st j B C c lq W S hd hB a ok e pc=>by
 refine Xr (Qe (P:=P) I W S hd E (by omega) a e pc lq (λd g l B R U Y=>H d g l bx st j B C c R a ok e pc U Y)) λg1 z v other f e1 J O x K p1 Q take=>?_;have nd:=u0 W.nd;have e2:=LI J O a K;have u:=(J.qX (st ++ [.tup [.str "read",C]])).qY (j ++ [other]);refine⟨other,_,v,bS (σ':=[some (.az p),some C]) rfl ?_ (by simp[Q.1]),⟨z,f,u⟩,O.ka,?_,?_,p1,K,?_,?_,?_⟩
 . rw[Pz,pF]
   show(qT h T [some (.az p),some C] g).bind _=_;rw[e1];exact e2
 . rcases take with rfl|rfl
   . rfl
   . exact pS e
 . exact(Hd.ne (Hd.ne x (n7 nd.2.1.2.1)) (n7 nd.2.1.2.2)).mono (by omega)
 . intro k hk y
   rcases take with rfl|rfl
   . rfl
   . exact mH a hk (n7 y) S.ka
 . intro n h1 d
   rcases take with rfl|rfl
   . exact d
   . exact jr (cw _ (fH C a).1) h1 d
 . exact(Q.trans (cx.set (by simp))).trans (cx.set (by simp))
structure U5 (n0:Nat)(P:D->Prop)(nm:Str)(n w h b s r kq:Nat)(ex pf st rd:List D)(g:G)(l:Int)(bx:List D):Prop where
 lq:LQ n0 l
 W:p0 g w h b s r kq l ex bx st rd
 ka:dH bx=true
 bl:bx.length=pf.length
 bs:EJ P nm n bx
 nb:aC 0 bx=true
 ot:OtK nm pf bx
structure CiS (n0:Nat)(P:D->Prop)(nm:Str)(n w h b s r kq f:Nat)(ex mv pf st rd:List D)(B K:Int)(g0:G)(j:Nat)(g:G):Prop where
 ex_:∃cs l bx,cs.length=j/\(∀c∈cs,P c)/\g[f]? = some cs/\U5 n0 P nm n w h b s r kq ex pf (st++fU nm j) (rd++cs) g l bx
 hd:Hd g h (B+j*K)
 len:g.length=f+1
 fr:∀i,i ∉ [w,h,b,s,r,f]->g[i]? = g0[i]?
structure Ji (n0:Nat)(P:D->Prop)(nm:Str)(n w h b s r kq:Nat)(ex pf st rd:List D)(B:Int)(g:G)(cs:List D)(g':G):Prop where
 len:cs.length=n
 all:∀c∈cs,P c
 W:∃l bx,U5 n0 P nm n w h b s r kq ex pf (st++fU nm n) (rd++cs) g' l bx
 hd:Hd g' h B
 fr:cx [w,h,b,s,r] g g'
 bd:Bd g'
noncomputable def rj (c:Nat)(nm:Str)(Dw:Fn)(P:D->Prop)(K:Int)(w h b s r d:Nat)(a u:List D):Prop:=∀g l bx st i B (n:Nat),LQ c l->p0 g w h b s r d l a bx st i->Zw a bx st i u->Hd g h B->B+n*K<2 ^ 40->n<=20->st.length<=800->i.length<=800->EJ P nm n bx->Bd g->aC g.length a=true->aC 0 bx=true->aC 0 st=true->aC 0 i=true ->
 ∃p q,Dw [.az w,.str nm,.int n] g=some (.lst p,q)/\Ji c P nm n w h b s r d a bx st i (B+n*K) g p q
def Fe {KP:D->Prop}(I:∀c,M c->flat c=true)(L:0<=i)(P:∀j:Nat,KP (own x j))(J:pj n h KP M i p o X s r q A Z):rj n x (ak false 5 3 (kR h)) M i p o X s r q A Z:=λg l bx st Y B H lq W S hd hB hn da Y5 ah bd mM Qa jX jY=>by
 have R:p<g.length:=(mT.mp W.hw).1;have z:X<g.length:=(mT.mp W.hb).1;have ls:s<g.length:=(mT.mp W.hs).1;have U:r<g.length:=(mT.mp W.hr).1;have lh:o<g.length:=hd.lt;have lk:q<g.length:=by obtain⟨Jh,h1,_⟩:=W.hk;exact(mT.mp h1).1
 have key:mX (ak false 5 3 (kR h) [.az p,.str x,.int H] g) λw=>∃O,w.1 = .lst O/\Ji n M x H p o X s r q A bx st Y (B+H*i) g O w.2:=by
  refine Lw rfl ?_;simp[kR];refine sQ ?_;simp;refine⟨by omega,fQ (λj σ u=>(∃b,σ = [some (.az p),some (.str x),some (.int H),some (.ref g.length),b])/\CiS n M x H p o X s r q g.length A Z bx st Y B i (g ++ [[]]) j u) _ 0 _ _ ⟨⟨_,rfl⟩,?_⟩ ?_ ?_⟩
  . have Q:∀{E:Nat},E<g.length->(g ++ [[]])[E]? = g[E]?:=λnm=>r_ nm
    refine⟨⟨[],l,bx,rfl,by simp,by simp,lq,⟨by rw[Q R];exact W.hw,by rw[Q z];exact W.hb,by rw[Q ls];simpa[fU]using W.hs,by rw[Q U];simpa using W.hr,W.nd,W.hm,W.hk.of (Q lk),W.nk⟩,S.ka,rfl,ah,Qa,λ_ _ _=>rfl⟩,?_,by simp,λ_ _=>rfl⟩;obtain⟨a,b',c,h1,h2⟩:=hd;exact⟨a,b',c,by rw[Q lh];exact h1,by simpa using h2⟩
  . rintro j d σ u hj ⟨⟨b,rfl⟩,⟨⟨O,l',gH,hl,hp,hf,yq,W',Ff,AQ,Jj,AS,Fg⟩,gE,Hs,Dr⟩⟩
    obtain⟨iW,rfl⟩:=di hj;simp only[vU]at *;obtain⟨c,hc,pc⟩:=Jj j iW;have Qf:B + ↑j*i+i<2 ^ 40:=by have:((j:Int)+1)*i<=(H:Int)*i:=Int.mul_le_mul_of_nonneg_right (by omega) L;rw[Int.add_mul,Int.one_mul]at this;omega
    have S':Zw A gH (st++fU x j) (Y++O) Z:=⟨Ff,by rw[AQ];exact S.bz,S.ez,by simp[t_];omega,by simp[hl];omega⟩
    obtain⟨c',g2,ab,e,K⟩:=J u l' gH (st++fU x j) (Y++O) _ (own x j) c yq W' S' gE Qf Ja (P j) hc pc;have p_:g.length ∉ [p,o,X,s,r]:=B6 R lh z ls U (nc _);have ar:g2[g.length]? = some O:=by rw[K.fr.2 _ p_];exact hf
    have hz:ax (O.length+1)=true:=aH (by omega);have e':h [.az p,.tup [.str x,.int j]] u=some (c',g2):=e;simp[e',ar,hz];refine⟨⟨O ++ [c'],?_⟩,?_,by simp[K.fr.1,Hs],?_⟩
    . obtain⟨l2,aq,v⟩:=K.W
      have ne:∀{E:Nat},E<g.length->(g2.set g.length (O ++ [c']))[E]? = g2[E]?:=λnm=>p7 (by omega);refine⟨l2,ab,by simp[hl],?_,?_,aq,⟨by rw[ne R];exact v.hw,by rw[ne z];exact v.hb,by rw[ne ls,Hh];simpa using v.hs,by rw[ne U];simpa using v.hr,v.nd,v.hm,v.hk.of (ne lk),v.nk⟩,K.ka,K.bl.trans AQ,?_,K.nr 0 (cw _ (I _ K.pc)) AS,λk hk hn=>(K.ot k hk (hn j)).trans (Fg k hk hn)⟩
      . intro C f
        rcases nQ.mp f with f|f
        . exact hp C f
        . simp at f;subst f;exact K.pc
      . rw[t7 (by rw[K.fr.1,Hs];omega)]
      . intro E nm
        by_cases e:E=j
        . subst e;exact⟨c',K.at_,K.pc⟩
        . rw[K.ot _ Ja (PB e)];exact Jj E nm
    . obtain⟨a,b',c2,h1,h2⟩:=K.hd
      refine⟨a,b',c2,by rw[p7 (by omega)];exact h1,?_⟩;have e2:B + ↑(j+1)*i=B + ↑j*i+i:=by rw[ah1,Int.add_mul];simp;omega
      rw[e2];exact h2
    . intro E nm
      simp only[nF,x5,or_false,not_or]at nm;rw[p7 (n7 nm.2.2.2.2.2),K.fr.2 E (by simp[nm])];exact Dr E (by simp[nm])
  . rintro σ u ⟨⟨b,rfl⟩,⟨⟨O,l',gH,hl,hp,hf,yq,W',Ff,AQ,Jj,AS,Fg⟩,gE,Hs,Dr⟩⟩
    simp only[cz,vU]at *;simp[hf];have Qh:(List.take g.length u).length=g.length:=by simp;omega
    have Bt:Bd (u.take g.length):=qZ (W'.take R z ls U lk) (Hd.take gE lh) (by rw[Qh];exact mM) AS (fJ jX As) (fJ jY (eR λC f=>cw C (I C (hp C f)))) λE xs nm f=>by
      have y:E<g.length:=by have:=(mT.mp f).1;omega
      rw[C8 y,Dr E (ij nm (by omega)),r_ y]at f;rw[Qh];exact bd E _ f
    have nb:∀C,C∈u.take g.length->aC g.length C=true:=λC f=>by obtain⟨E,nm⟩:=TR.mp f;have:=Bt E C nm;rwa[Qh]at this
    refine⟨eR λC f=>cw C (I C (hp C f)),nb,⟨hl,hp,⟨l',gH,yq,W'.take R z ls U lk,Ff,AQ,Jj,AS,Fg⟩,Hd.take gE lh,⟨by simp;omega,λE nm=>?_⟩,?_⟩⟩
    . by_cases y:E<g.length
      . rw[C8 y,Dr E (ij nm (by omega)),r_ y]
      . rw[zH (by simp;omega),zH (by omega)]
    . exact Bt
 obtain⟨⟨q1,q2⟩,e,O,rfl,c⟩:=key;exact⟨O,q2,e,c⟩
noncomputable def BW (n:Nat)(c:D):Prop:=∃(v:D) (a t:Int),c = .tup [v,.int a,.int t]/\vG v /\ -1<=a/\a<n
def BW.bc (h:BW n c):BC c:=by obtain⟨v,a,t,e,b,_⟩:=h;exact⟨v,a,t,e,b⟩
noncomputable def rA (c:D):Prop:=∃i:Int,c = .int i
noncomputable def nX (p:Nat)(c:D):Prop:=∃g:List D,c = .tup g/\g.length=p /\ ∀w∈g,vG w
noncomputable def Qi (c:D):Prop:=∃j:Nat,c=own "box" j
noncomputable def U6 (c:D):Prop:=∃j:Nat,c=own "view" j
noncomputable def eU (j o:Nat):D:=.tup [.str "call",.int j,.int o]
noncomputable def yr (o:Nat)(c:D):Prop:=∃j:Nat,c=eU j o
noncomputable def Qj (pick a:Fn):FS:=aP (aJ aB (ae (aj a (ae b0 af)) (ae (aj pick (ae b0 (ae ef af))) (ae (aj pick (ae b0 (ae (aJ dP (ae (ag (cu eE (· - ·)) cP d4) (ae (ag (cu eE (· - ·)) cP d4) (ae d4 af)))) af))) af))))
noncomputable def yg (pick a:Fn):FS:=aw (cA (ay (ag ie ee ef)) (aF (ag bf ef (ag j5 (aJ dP (ae ee af)) ej)) (gN 6)) a_) (Qj pick a)
noncomputable def Hm (pick a:Fn):FS:=aw (aF (bH bA (dX (ae (ag ao bR ku) af)) [none,none,some 0] (gN 1) (ay (ag bp bg (ag ao b0 jd))) bg) (gN 6)) (yg pick a)
noncomputable def Qc (pick a:Fn):FS:=aw (aF (ag ao (ag ao bR f7) bg) (gT 3 (aY (gN 3) (aY (gN 4) (aY (gN 5) eZ))))) (Hm pick a)
noncomputable def vd (take pick a b:Fn):FS:=aw (aF (ag ao bR k8) (gN 2)) (aw (cA (ay (ag oEq (ag ao bg dV) fw)) (aP (aj b (ae b0 (ae (ag ao bR kH) af)))) a_) (aw (cA (ay (ag bp (ag ao bg dV) fh)) (aP (aj take (ae b0 (ae ej af)))) a_) (Qc pick a)))
def Ht:aI (W0 n p i s r++A) (.str "places")=aI A (.str "places"):=rfl
def Td:aI (W0 n p i s r++A) (.str "own")=aI A (.str "own"):=rfl
def Fh (pick:ju O)(C:aI A (.str "places")=some (.int p))(E:p<=5):ba1 (ak false 7 2 (vd h T Q O)) U6 (nX p) 30 n o X s r q A:=λg l bx st y B J c W M ok z pc hd R=>by
 obtain⟨j,rfl⟩:=ok;have main:mX (ak false 7 2 (vd h T Q O) [.az n,own "view" j] g) λvalue=>nX p value.1/\Hd value.2 o (B+30)/\o3 o g value.2:=by
  refine OU rfl ?_;refine gM (pick o p g B (by omega) (by omega) hd) λH g1 u take x i I=>?_;have t:ay (ag oEq (ag ao bg dV) fw) [some (.az n),some (own "view" j),some (.ref o),none,none,none,none] g=some (true,g):=rfl;have e:aj O (ae b0 (ae (ag ao bR kH) af)) [some (.az n),some (own "view" j),some (.ref o),none,none,none,none] g=some (.tup H,g1):=by simp[W.hw,fK,Ht,C,u]
  refine gA (d:=.ref o) (g1:=g) (by simp[W.hw,fK,oX]) ?_;refine⟨_,iV t e,?_⟩;simp;exact⟨I.1,⟨H,rfl,take,x⟩,i.mono (by omega),I⟩
 obtain⟨⟨d,f⟩,e,v,state,a⟩:=main;exact⟨d,f,e,v,state,a⟩
def Fi (value:cU h):ba1 (ak false 7 2 (vd h T Q O)) (yr o) rA 30 n p X s r q A:=λg l bx st y B E c W I ok z pc hd J=>by
 obtain⟨j,rfl⟩:=ok;have main:mX (ak false 7 2 (vd h T Q O) [.az n,eU j o] g) λstate=>rA state.1/\Hd state.2 p (B+30)/\o3 p g state.2:=by
  refine OU rfl ?_;refine gM (value p 2 g B (by omega) (by decide) (by decide) hd) λx g1 u M R i C=>?_;have H:ay (ag oEq (ag ao bg dV) fw) [some (.az n),some (eU j o),some (.ref p),none,none,none,none] g=some (false,g):=rfl;have pick:ay (ag bp (ag ao bg dV) fh) [some (.az n),some (eU j o),some (.ref p),none,none,none,none] g=some (true,g):=rfl;have e:aj h (ae b0 (ae ej af)) [some (.az n),some (eU j o),some (.ref p),none,none,none,none] g=some (.int x,g1):=by simp[u]
  refine gA (d:=.ref p) (g1:=g) (by simp[W.hw,fK,oX]) (cX (g1:=g) ((eQ (g1:=g) H).trans rfl) ?_);refine⟨_,iV pick e,?_⟩;simp;exact⟨C.1,⟨x,rfl⟩,i.mono (by omega),C⟩
 obtain⟨⟨d,f⟩,e,v,take,a⟩:=main;exact⟨d,f,e,v,take,a⟩
def Qk (c:2<=n):b_ n o ≠ []:=λe=>by
 have h:∀j,j<n->j=o:=λj a=>by
  by_cases z:j=o
  . exact z
  . have:=fR.mpr ⟨a,z⟩;rw[e]at this;cases this
 have:=h 0 (by omega);have:=h 1 (by omega);omega
def LJ (hw:a[p]? = some A)(j:aI A (.str "own")=some (.int o)):cZ (gN 1) (ay (ag bp bg (ag ao b0 jd))) bg (fS 0 n) [none,none,some (.az p)] a=some (dN (b_ n o),a):=by
 have u:mX (cZ (gN 1) (ay (ag bp bg (ag ao b0 jd))) bg (fS 0 n) [none,none,some (.az p)] a) λq=>q=(dN (b_ n o),a):=by
  refine kI (λi r v g=>(∃x,v = [none,x,some (.az p)])/\r=dN (b_ i o)/\g=a) _ 0 _ _ [] ⟨⟨none,rfl⟩,rfl,rfl⟩ ?_ ?_
  . rintro i d r v g b ⟨⟨h,rfl⟩,rfl,rfl⟩
    obtain⟨f,rfl⟩:=di b;simp only[vU];have t:ay (ag bp bg (ag ao b0 jd)) [none,some (.int i),some (.az p)] g=some (decide ((i:Int)≠(o:Int)),g):=by rw[cD,ck (d:=.int i) (d':=.int o) (g1:=g) (g2:=g) rfl (by simp[hw,fK,j]),Sx];rfl
    refine⟨_,rfl,_,t,?_⟩;by_cases hc:i=o
    . subst hc;simp[q_]
    . have c:¬((i:Int)=(o:Int)):=by omega
      simp only[ne_eq,c,not_false_eq_true,decide_true,if_true];exact⟨_,rfl,⟨_,rfl⟩,by simp[q_,hc,dN],rfl⟩
  . rintro y v g ⟨_,e,rfl⟩
    simp only[Q5,cz,vU]at e;rw[e]
 obtain⟨q,e,rfl⟩:=u;exact e
noncomputable def oσ (w j h:Nat)(v:D)(a t:Int)(L:List Nat):Sg:=[some (.az w),some (own "box" j),some (.ref h),some v,some (.int a),some (.int t),some (.lst (dN L))]
def Fj (C:g_ T)(state:jM Q)(E:aI A (.str "hands")=some (.int n))(H:aI A (.str "own")=some (.int o))(pick:2<=n)(J:n<=5):ba1 (ak false 7 2 (vd h T Q O)) Qi (BW n) 30 p X q s r I A:=λg l bx st rd B key c W kk ok hc pc hd hB=>by
 obtain⟨j,rfl⟩:=ok;obtain⟨v,a,t,rfl,aq,ar,HZ⟩:=pc;have main:mX (ak false 7 2 (vd h T Q O) [.az p,own "box" j] g) λvalue=>BW n value.1/\Hd value.2 X (B+30)/\o3 X g value.2:=by
  refine OU rfl ?_;have t1:ay (ag oEq (ag ao bg dV) fw) [some (.az p),some (own "box" j),some (.ref X),none,none,none,none] g=some (false,g):=rfl;have t2:ay (ag bp (ag ao bg dV) fh) [some (.az p),some (own "box" j),some (.ref X),none,none,none,none] g=some (false,g):=rfl;have cm:=LJ (n:=n) (o:=o) W.hw (by rw[Td];exact H);have zn:ax n=true:=aH (by omega);have ol:=ub (n:=n) (o:=o);have zo:ax (b_ n o).length=true:=aH (by omega);have d:bG (dN (b_ n o))<=50:=mK λy hy=>by obtain⟨j,_,rfl⟩:=nP.mp hy;simp[dep]
  have hq:ie (.int a) (.lst (dN (b_ n o))) g=some (.bl (i_ n o a),g):=by simp[ie,mr,bD,zO,flat,mJ,d,i_]
  have Z:∀M:List D,M ≠ []->M.length<=10->(∀x∈M,∃i,i∈b_ n o/\x = .int (i:Nat))->mX (Qj T Q [some (.az p),some (own "box" j),some (.ref X),some v,some (.int a),some (.int t),some (.lst M)] g) λx=>∃d,x.1 = .rt d/\BW n d/\Hd x.2.2 X (B+30)/\o3 X g x.2.2:=λM ab HV ah=>by
    refine qQ (state X g B (by omega) hd) λv' g1 e1 p1 eM f1=>?_;refine qQ (C X M g1 _ (by omega) ab (by omega) eM) λx g2 e2 m2 Y f2=>?_;refine qQ (C X [.int (1-t),.int (1-t),.int t] g2 _ (by omega) (by simp) (by simp) Y) λy g3 e3 m3 jV f3=>?_;have z3:ax 3=true:=rfl;obtain⟨i,f,rfl⟩:=ah x m2;obtain⟨R,rfl⟩:∃R:Int,y = .int R:=by simp only[nF,x5,or_false]at m3;rcases m3 with rfl|rfl|rfl<;>exact⟨_,rfl⟩
    have il:=(fR.mp f).1;refine⟨_,fu (d:=.tup [v',.int (i:Nat),.int R]) (g1:=g3) (by simp[e1,e2,e3,z3]),_,rfl,⟨v',i,R,rfl,p1,by omega,by omega⟩,jV.mono (by omega),(f1.trans f2).trans f3⟩
  have k5:mX (yg T Q (oσ p j X v a t (b_ n o)) g) λx=>∃d,x.1 = .rt d/\BW n d/\Hd x.2.2 X (B+30)/\o3 X g x.2.2:=by
    have U:ay (ag ie ee ef) (oσ p j X v a t (b_ n o)) g=some (i_ n o a,g):=by rw[cD,ck (d:=.int a) (d':=.lst (dN (b_ n o))) (g1:=g) (g2:=g) rfl rfl,hq];rfl
    by_cases f:i_ n o a=true
    . rw[f]at U
      have zz:ax ((dN (b_ n o)).length+2)=true:=aH (by rw[cW];omega);have e6:ag bf ef (ag j5 (aJ dP (ae ee af)) ej) (oσ p j X v a t (b_ n o)) g=some (.lst (dN (b_ n o) ++ [.int a,.int a]),g):=by rw[ck (d:=.lst (dN (b_ n o))) (d':=.lst [.int a,.int a]) (g1:=g) (g2:=g) rfl rfl];generalize dN (b_ n o)=L at *;simp[zz]
      have k:=Z (dN (b_ n o) ++ [.int a,.int a]) (by simp) (by rw[nv,cW];simp;omega) λx take=>by
       rcases nQ.mp take with take|take
       . obtain⟨i,f,rfl⟩:=nP.mp take;exact⟨i,f,rfl⟩
       . obtain⟨i,z,e⟩:=pT.mp f
         simp at take;subst take;exact⟨i,z,by rw[e]⟩
      have st:cA (ay (ag ie ee ef)) (aF (ag bf ef (ag j5 (aJ dP (ae ee af)) ej)) (gN 6)) a_ (oσ p j X v a t (b_ n o)) g=some (.nx,[some (.az p),some (own "box" j),some (.ref X),some v,some (.int a),some (.int t),some (.lst (dN (b_ n o) ++ [.int a,.int a]))],g):=(nB U).trans (j_ (i:=6) e6);exact cX st k
    . have z:i_ n o a=false:=by simpa using f
      rw[z]at U;have k:=Z (dN (b_ n o)) (λe=>Qk (o:=o) pick (ag1.mp e)) (by rw[cW];omega) λx take=>by obtain⟨i,f,rfl⟩:=nP.mp take;exact⟨i,f,rfl⟩
      exact cX ((eQ U).trans rfl) k
  refine gA (d:=.ref X) (g1:=g) (by simp[W.hw,fK,oX]) (cX (g1:=g) ((eQ (g1:=g) t1).trans rfl) (cX (g1:=g) ((eQ (g1:=g) t2).trans rfl) (cX (σ1:=[some (.az p),some (own "box" j),some (.ref X),some v,some (.int a),some (.int t),none]) (g1:=g) (by simp[W.hw,fK,pR,W.hb,kk,hc]) (gA (d:=.lst (dN (b_ n o))) (g1:=g) ?_ ?_))))
  . have c1:=h_ (σ:=[some (.az p),some (own "box" j),some (.ref X),some v,some (.int a),some (.int t),none]) (g:=g) (g1:=g) (fr:=ae (ag ao bR ku) af) (n:=n) (by simp[W.hw,fK,Ly,E]) (by omega)
    simp[c1,cz,zn,bZ,cm,bA,cW,zo]
  . refine MN (show mX (yg T Q (oσ p j X v a t (b_ n o)) g) _ from k5) ?_
    rintro x ⟨d,e,h1,pick,u⟩;rw[e];exact⟨u.1,h1,pick,u⟩
 obtain⟨⟨d,g'⟩,e,h1,pick,u⟩:=main;exact⟨d,g',e,h1,pick,u⟩
end
section
variable {b Z w r c Q K J y q2:Nat}{f j Y st:List D}{X U O I E x17:Option D}{T M t e:Fn}{R:List R4}{H:Option Nat}{q:D->Prop}{m:D}{g:G}{u Rr:Str->Option Fn}{l:List Int}{nm2:Str}
noncomputable def Dm (n p:Nat)(c:D):Prop:=(∃j,j<p/\c=own "box" j)\/(∃j,j<n/\c=own "view" j)\/(∃i j,i<n/\j<n/\c=cI i j)\/(∃i j,i<n/\j<n/\c=eU i j)
noncomputable def typ (n p:Nat)(c:D):D->Prop:=match c with
 |.tup [.str s,_]=>if s = "box" then BW n else nX p|_=>rA
def Dm.k (h:Dm n p v):aU 6 v=true:=by rcases h with⟨j,_,rfl⟩|⟨j,_,rfl⟩|⟨i,j,_,_,rfl⟩|⟨i,j,_,_,rfl⟩<;>rfl
noncomputable def Fl (n p:Nat)(a:List D):Prop:=∀g,Dm n p g->∃c,aI a g=some c/\typ n p g c
def Hu:cI n p≠own x o:=λe=>by
 unfold cI own at e;injection e with e
 injection e with _ e
 injection e with _ e
 cases e
def LK:eU n p≠own x o:=λe=>by
 unfold eU own at e;injection e with e
 injection e with _ e
 injection e with _ e
 cases e
def uf:typ n p (own "box" o)=BW n:=by show(if("box":Str)= "box" then BW n else nX p)=_;rw[if_pos rfl]
def yt:typ n p (own "view" o)=nX p:=by show(if("view":Str)= "box" then BW n else nX p)=_;rw[if_neg (by decide)]
def Fl.upd (h:Fl n p A)(b:aI f v=some m)(i:typ n p v m)(d:∀k,aU 6 k=true->k≠v->aI f k=aI A k):Fl n p f:=λk a=>by
 by_cases e:k=v
 . subst e;exact⟨m,b,i⟩
 . rw[d k a.k e];exact h k a
structure WvB (n p:Nat)(w h b s r kq:Nat)(ex st rd:List D)(g:G)(l:Int)(bx:List D):Prop where
 lq:LQ n l
 W:p0 g w h b s r kq l ex bx st rd
 ka:dH bx=true
 bl:bx.length<=500
 ba:Fl n p bx
 nb:aC 0 bx=true
structure Wv (n p:Nat)(w h b s r kq:Nat)(ex st rd:List D)(B:Int)(g:G):Prop where
 W:∃l bx,WvB n p w h b s r kq ex st rd g l bx
 hd:Hd g h B
 mM:aC g.length ex=true
 ez:ex.length<=100
 jX:aC 0 st=true
 jY:aC 0 rd=true
 bd:Bd g
def Wv.Jk (V:Wv n p w o b s r Z A st f i g):w<g.length/\o<g.length/\b<g.length/\s<g.length/\r<g.length/\Z<g.length:=by obtain⟨l,c,_,W,_⟩:=V.W;obtain⟨d,a,_⟩:=W.hk;exact⟨(mT.mp W.hw).1,V.hd.lt,(mT.mp W.hb).1,(mT.mp W.hs).1,(mT.mp W.hr).1,(mT.mp a).1⟩
def Wv.step {E:List D}{B:Int}{g':G}(V:Wv n p w o b s r Z Y st E B g){h:Int}(z:LQ n i)(W:p0 g' w o b s r Z i Y A f j)(e:dH A=true)(y:A.length<=500)(C:Fl n p A)(u:aC 0 A=true)(x:Hd g' o h)(q:aC 0 f=true)(v:aC 0 j=true)(fr:cx [w,o,b,s,r] g g'):Wv n p w o b s r Z Y f j h g' :=
 have a:aC g'.length Y=true:=by rw[fr.1];exact V.mM
 ⟨⟨i,A,z,W,e,y,C,u⟩,x,a,V.ez,q,v,qZ W x a u q v λl H d c=>by rw[fr.2 l d]at c;rw[fr.1];exact V.bd l H c⟩
def Qm {P:D->Prop}(C:pj n h q P 31 w o b s r Z A j)(V:Wv n p w o b s r Z A st f i g)(H:i+31<2 ^ 40)(I:q v)(z:Dm n p v)(U:typ n p v=P)(E:∀c,P c->flat c=true)(sz:st.length<=800)(J:f.length<=800):
  ∃O Q,h [.az w,v] g=some (O,Q)/\P O/\Wv n p w o b s r Z A (st ++ [.tup [.str "read",v]]) (f ++ [O]) (i+31) Q/\cx [w,o,b,s,r] g Q:=by
 obtain⟨l,u,B,W,Y,a,d,nb⟩:=V.W;obtain⟨c,ex,pc⟩:=d v z;rw[U]at pc;obtain⟨O,Q,x,e,M⟩:=C g l u st f i v c B W ⟨Y,a,V.ez,by omega,by omega⟩ V.hd H z.k I ex pc;obtain⟨y,R,kq⟩:=M.W;have X:=cw (n:=0) _ (E _ M.pc);exact⟨O,Q,e,M.pc,V.step R kq M.ka (by rw[M.bl];exact a) (d.upd M.at_ (by rw[U];exact M.pc) M.ot) (M.nr 0 X nb) M.hd (fJ V.jX (by simp[aC,bU,cw (n:=0) v (fH v z.k).1])) (fJ V.jY (by simp[aC,X])) M.fr,M.fr⟩
def Cm (V:Wv n p w c b s r Q A st f i g){v:Int}(C:o<n)(H:Z<n)(sz:st.length<=800)(E:f.length<=800):
  ∃B,ak false 3 3 setB [.az w,cI o Z,.int v] g=some (.aA,B)/\Wv n p w c b s r Q A (st ++ [.tup [.str "write",cI o Z,.int v]]) (f ++ [.aA]) i B/\cx [w,c,b,s,r] g B:=by
 obtain⟨l,bx,lq,W,d,q,u,nb⟩:=V.W;have dm:Dm n p (cI o Z):=.inr (.inr (.inl ⟨o,Z,C,H,rfl⟩));obtain⟨h,y,_⟩:=u _ dm;refine Hc (Qb (key:=cI o Z) (v:=.int v) W vT q (by omega) (by omega)) λB e I ex=>?_;have nd:=u0 W.nd;have fr:cx [w,c,b,s,r] g B:=⟨ex.1,λj a=>ex.2 j (by simp only[nF,x5,or_false,not_or]at a ⊢;exact⟨a.2.2.1,a.2.2.2.1,a.2.2.2.2⟩)⟩
 have J:Hd B c i:=by obtain⟨M,O,z,x,R⟩:=V.hd;exact⟨M,O,z,by rw[ex.2 c (by simp[nd.2.1.1,nd.2.1.2.1,nd.2.1.2.2])];exact x,R⟩
 exact⟨B,e,V.step lq I (kS vT d) (by rw[pS y];exact q) (u.upd (iz vT d) ⟨v,rfl⟩ λk hk U=>mH vT hk (n7 U) d) (jr rfl rfl nb) J (fJ V.jX rfl) (fJ V.jY rfl) fr,fr⟩
def Qn (Q:rj n "box" h (BW n) 31 w o b s r Z A j)(V:Wv n p w o b s r Z A st f i g)(I:p<=5)(H:i+200<2 ^ 40)(sz:st.length<=750)(E:f.length<=750):
   ∃J M,h [.az w,.str "box",.int p] g=some (.lst J,M)/\J.length=p/\(∀c∈J,BW n c)/\Wv n p w o b s r Z A (st++fU "box" p) (f++J) (i+155) M/\cx [w,o,b,s,r] g M:=by
 obtain⟨l,bx,lq,W,ka,u,v,nb⟩:=V.W;obtain⟨J,M,e,C⟩:=Q g l bx st f i p lq W ⟨ka,u,V.ez,by omega,by omega⟩ V.hd (by omega) (by omega) (by omega) (by omega) (λex O=>by obtain⟨c,q,a⟩:=v _ (.inl ⟨ex,O,rfl⟩);rw[uf]at a;exact⟨c,q,a⟩) V.bd V.mM nb V.jX V.jY
 obtain⟨l',gH,R,U,y,X,d,Y,Fg⟩:=C.W;refine⟨J,M,e,C.len,C.all,V.step R U y (by rw[X];exact u) (λk B=>?_) Y (C.hd.mono (by omega)) (fJ V.jX As) (fJ V.jY (eR λx hx=>cw x (C.all x hx).bc.flat)) C.fr,C.fr⟩;by_cases z:∃ex,k=own "box" ex
 . obtain⟨ex,rfl⟩:=z
   rcases B with⟨kq,hj,e⟩|⟨kq,hj,e⟩|⟨i',j',_,_,e⟩|⟨i',j',_,_,e⟩
   . obtain⟨c,q,a⟩:=d kq hj
     rw[e,uf];exact⟨c,q,a⟩
   . exact absurd e (by unfold own;intro z;injection z with z;injection z with z _;injection z with z;exact absurd z (by decide))
   . exact absurd e.symm Hu
   . exact absurd e.symm LK
 . rw[Fg k B.k λex O=>z ⟨ex,O⟩]
   exact v k B
def Wv.push {xs:G}(V:Wv n p w o b s r Z A st f i g)(nx:∀x∈xs,aC 0 x=true):Wv n p w o b s r Z A st f i (g++xs):=by
 obtain⟨C,v,u,ls,d,c⟩:=V.Jk;have B:∀{h:Nat},h<g.length->(g++xs)[h]? = g[h]?:=λa=>r_ a;obtain⟨l,bx,lq,W,E,H,y,e⟩:=V.W;refine⟨⟨l,bx,lq,⟨by rw[B C];exact W.hw,by rw[B u];exact W.hb,by rw[B ls];exact W.hs,by rw[B d];exact W.hr,W.nd,W.hm,W.hk.of (B c),W.nk⟩,E,H,y,e⟩,?_,eu (by simp) V.mM,V.ez,V.jX,V.jY,λh I a=>?_⟩
 . obtain⟨q,j,ex,z,J⟩:=V.hd
   exact⟨q,j,ex,by rw[B v];exact z,J⟩
 . by_cases M:h<g.length
   . rw[B M]at a;exact eu (by simp) (V.bd h I a)
   . rw[Fq (by omega)]at a
     exact eu (tc _) (nx _ (sZ a))
def Wv.other {xs:List D}(V:Wv n p w o b s r Z A st f i g)(x:c ∉ [w,o,b,s,r])(y:c≠Z)(nx:aC 0 xs=true):Wv n p w o b s r Z A st f i (g.set c xs):=by
 have d:c≠w/\c≠o/\c≠b/\c≠s/\c≠r:=by simpa[not_or]using x
 obtain⟨l,q,B,W,C,E,v,j⟩:=V.W;refine⟨⟨l,q,B,Ho W d y,C,E,v,j⟩,Hd.ne V.hd d.2.1,by rw[QJ];exact V.mM,V.ez,V.jX,V.jY,λh u a=>?_⟩;rw[QJ];by_cases e:c=h
 . subst e
   have ex:c<g.length:=by have:=(mT.mp a).1;rwa[QJ]at this
   rw[t7 ex]at a;cases a;exact eu (tc _) nx
 . rw[p7 e]at a
   exact V.bd h u a
def Wv.pop {B:Int}(z:Wv n p w o b s r Z j st Y B g)(V:Wv n p w o b s r Z j f A i a)(gl:g.length<=a.length)(fr:∀C,C<g.length->C ∉ [w,o,b,s,r]->a[C]? = g[C]?):Wv n p w o b s r Z j f A i (a.take g.length)/\cx [w,o,b,s,r] g (a.take g.length):=by
 obtain⟨H,y,e,ls,u,c⟩:=z.Jk;have q:(a.take g.length).length=g.length:=by rw[Cu];omega
 obtain⟨l,x,h,W,I,J,v,d⟩:=V.W;have ex:cx [w,o,b,s,r] g (a.take g.length):=⟨q,λC M=>by
  by_cases E:C<g.length
  . rw[C8 E,fr C E M]
  . rw[zH (by omega),zH (by omega)]⟩
 exact⟨z.step h (W.take H e ls u c) I J v d (Hd.take V.hd y) V.jX V.jY ex,ex⟩
noncomputable def fd (l:List (Nat×Int)):List D:=l.flatMap λq=>[.int q.1,.int q.2]
def jv {q:Nat×Int}{l}:fd (q::l)= .int q.1 :: .int q.2::fd l:=rfl
theorem Qo:∀{l:List (Nat×Int)},dH (fd l)=true
 | []=>rfl|q::l=>by rw[jv];simp only[dH,Qo,Bool.and_true];rfl
theorem AU:∀{l:List (Nat×Int)},aK (fd l)=l.map λq=>D.int q.1
 | []=>rfl|q::l=>by rw[jv];simp only[aK,AU,yp]
theorem yu:∀{l:List (Nat×Int)},aC 0 (fd l)=true
 | []=>rfl|q::l=>by rw[jv];simp only[aC,bU,yu,Zf]
theorem yw:∀{l:List (Nat×Int)},(fd l).length=2*l.length
 | []=>rfl|q::l=>by rw[jv,z6,z6,yw,z6];omega
theorem yx {j:Nat}{v:Int}:∀{l:List (Nat×Int)},(∀q∈l,q.1≠j)->aQ (fd l) (.int j) (.int v)=fd (l ++ [(j,v)])
 | [],_=>rfl
 |q::l,h=>by
  have b:=h q (by simp);have e:bq (.int q.1) (.int j)=false:=by
   have:¬((q.1:Int)=(j:Int)):=by omega
   simp[bq,this]
  rw[aeA,jv,jv];simp only[aQ,e,rk,if_false];rw[yx λx a=>h x (by simp[a])]
theorem yy:∀{l:List (Nat×Int)} {q:Nat×Int},(l.map (·.1)).Nodup->q∈l->aI (fd l) (.int q.1)=some (.int q.2)
 | [],_,_,h=>by cases h
 |x::l,q,nd,h=>by
  rw[jv];simp only[aI];rw[yp,Dy]at nd;by_cases e:x.1=q.1
  . have:x=q:=by
      rcases nF.mp h with h|h
      . exact h.symm
      . exact absurd (nP.mpr ⟨q,h,e.symm⟩) nd.1
    subst this;rw[if_pos (by simp[bq])]
  . have a:¬((x.1:Int)=(q.1:Int)):=by omega
    rw[if_neg (by simp[bq,a])];refine yy nd.2 ?_;rcases nF.mp h with h|h
    . exact absurd (congrArg Prod.fst h).symm e
    . exact h
noncomputable def Lo (o:Nat)(q:Nat×Int):List D:=[.tup [.str "read",eU q.1 o],.tup [.str "write",cI o q.1,.int q.2]]
noncomputable def Qp (a set:Fn):FS:=cA (iM (ay (ag oEq eW cP)) (ay (ag bp eh bg))) (aw (aF (aj a (ae bR (ae (aJ aB (ae gb (ae eh (ae bg af)))) af))) (dC eP eh)) (dw (aj set (ae bR (ae (aJ aB (ae jc (ae bg (ae eh af)))) (ae (ag ao eP eh) af)))))) a_
noncomputable def Jl (a:Fn):FS:=cA (iM (ay (ag oEq eW cP)) (ay (ag bp eh bg))) (aF (aj a (ae bR (ae (aJ aB (ae gb (ae eh (ae bg af)))) af))) (dC jo eh)) a_
noncomputable def cQ (w o:Nat)(m r:D)(n p u v mo x q2:Nat)(a:Option D)(c g h i q x17:Option D):Sg:=[some (.az w),some (.int o),some m,some r,some (.int n),some (.int p),some (.int u),some (.int v),some (.int mo),some (.az x),some (.az q2),a,c,g,h,i,q,x17]
def Cn:iM (ay (ag oEq eW cP)) (ay (ag bp eh bg)) (cQ w o m v n p s b Z r q2 (some (.int c)) X U O I E x17) g=some (decide (b=1/\c≠o),g):=by
 have i:((b:Int)=1)=(b=1):=propext (by omega);have a:((c:Int)≠(o:Int))=(c≠o):=propext (by omega);have q:ay (ag bp eh bg) (cQ w o m v n p s b Z r q2 (some (.int c)) X U O I E x17) g=some (decide ((c:Int)≠(o:Int)),g):=by rw[cD,ck (d:=.int c) (d':=.int o) (g1:=g) (g2:=g) rfl rfl,Sx];rfl
 have u:ay (ag oEq eW cP) (cQ w o m v n p s b Z r q2 (some (.int c)) X U O I E x17) g=some (decide ((b:Int)=1),g):=by rw[cD,ck (d:=.int b) (d':=.int 1) (g1:=g) (g2:=g) rfl rfl,baM];rfl
 rw[tK,u];simp only[m5,q,i,a];by_cases h:b=1<;>simp[h]
structure R1 (n p o sh w h b s r kq q1:Nat)(ex st rd:List D)(B:Int)(g0:G)(j:Nat)(g:G)(ks:List Int):Prop where
 kl:ks.length=(av j o sh).length
 h1:g[q1]? = some (fd ((av j o sh).zip ks))
 V:Wv n p w h b s r kq ex (st++((av j o sh).zip ks).flatMap (Lo o)) (rd++eA (bI ks)) (B+j*31) g
 len:g.length=g0.length
 fr:∀i,i ∉ [w,h,b,s,r,q1]->g[i]? = g0[i]?
theorem pV:∀{l:List (Nat×Int)},(l.flatMap (Lo o)).length=2*l.length
 | []=>rfl|x::l=>by rw[Wl,nv,pV];simp[Lo];omega
def AV {S:List Nat}{ks:List Int}(h:∀i∈S,i<n):∀q∈S.zip ks,q.1≠n:=λq a e=>by have:=h _ (T3 a).1;omega
def Fo {sh:Nat}{j:Nat}:∀i∈av j o sh,i<j:=λi a=>(AA.mp a).2.1
def yz (q:pj n h (yr o) rA 31 w Z b s r c A j)(V:Wv n p w Z b s r c A st f i g)(y:i+31<2 ^ 40)(v:o<n)(u:Q<n)(sz:st.length<=800)(x:f.length<=800):
  ∃(k:Int) (B:G),h [.az w,eU Q o] g=some (.int k,B)/\Wv n p w Z b s r c A (st ++ [.tup [.str "read",eU Q o]]) (f ++ [.int k]) (i+31) B/\cx [w,Z,b,s,r] g B:=by
 obtain⟨l,B,e,⟨k,rfl⟩,a,C⟩:=Qm q V y ⟨Q,rfl⟩ (.inr (.inr (.inr ⟨Q,o,u,v,rfl⟩))) rfl (λex d=>by obtain⟨E,rfl⟩:=d;rfl) sz x;exact⟨k,B,e,a,C⟩
def R1.step {tg:Nat}{sh:Nat}{mo:Nat}{wd:D}{q1:Nat}{j:Nat}{ks:List Int}{x12:Option D}{x13:Option D}{x14:Option D}{x15:Option D}{x16:Option D}(H:pj n h (yr o) rA 31 w Z b s r c A Y)(K:T=ak false 3 3 setB)(I:R1 n p o sh w Z b s r c q1 A st f i a j g ks)(E:o<n)(C:j<n)(L:n<=5)(N:i+200<2 ^ 40)(O:q1 ∉ [w,Z,b,s,r])(J:q1≠c)(sz:st.length<=700)(M:f.length<=700):
   ∃g' Qq,Qp h T (cQ w o m wd n p tg sh mo q1 q2 (some (.int j)) x12 x13 x14 x15 x16 x17) g=some (.nx,cQ w o m wd n p tg sh mo q1 q2 (some (.int j)) x12 x13 x14 x15 x16 x17,g')/\R1 n p o sh w Z b s r c q1 A st f i a (j+1) g' Qq:=by
 by_cases hc:sh=1/\j≠o
 . have ex:av (j+1) o sh=av j o sh ++ [j]:=by rw[nE,if_pos hc]
   have sl:=gC (n:=j) (o:=o) (sh:=sh);have e:=I.kl;have l:((av j o sh).zip ks).length=(av j o sh).length:=by rw[Dv,e];omega
   have z:(bI ks).length=ks.length:=by simp[bI]
   refine He (yz H I.V (by omega) E C (by rw[nv,pV,l];omega) (by rw[nv,js,z,e];omega)) λk g1 e1 V1 Q=>?_;have U:g1[q1]? = some (fd ((av j o sh).zip ks)):=(Q.2 q1 O).trans I.h1;have X:=(mT.mp U).1;have pu:=yx (v:=k) (AV (ks:=ks) (Fo (j:=j) (o:=o) (sh:=sh)));have ez:(av (j+1) o sh).zip (ks ++ [k])=(av j o sh).zip ks ++ [(j,k)]:=by rw[ex,ah2 e.symm];rfl
   have V2:=V1.other O J (xs:=fd ((av j o sh).zip ks ++ [(j,k)])) yu;refine Hc (Cm (v:=k) V2 E C (by rw[nv,nv,pV,l];simp only[L3];omega) (by rw[nv,nv,js,z,e];simp only[L3];omega)) λg3 e3 V3 y=>?_;have ge:aI (fd ((av j o sh).zip ks ++ [(j,k)])) (.int j)=some (.int k):=by rw[<- pu];exact iz rfl Qo
   have Qr:iy (fd ((av j o sh).zip ks))=true:=by unfold iy;exact aH (by rw[yw,l];omega)
   have z3:ax 3=true:=rfl;have k3:∀(x:Str) (rd b:D) (g:G),aB [.str x,rd,b] g=some (.tup [.str x,rd,b],g):=λ_ _ _ _=>rfl;refine⟨g3,ks ++ [k],(nB (g1:=g) (by rw[Cn,decide_eq_true hc])).trans (dS (σ1:=cQ w o m wd n p tg sh mo q1 q2 (some (.int j)) x12 x13 x14 x15 x16 x17) (g1:=g1.set q1 (fd ((av j o sh).zip ks ++ [(j,k)]))) ?_ ?_),?_,?_,?_,?_,?_⟩
   . have ec:aj h (ae bR (ae (aJ aB (ae gb (ae eh (ae bg af)))) af)) (cQ w o m wd n p tg sh mo q1 q2 (some (.int j)) x12 x13 x14 x15 x16 x17) g=some (.int k,g1):=e1
     rw[kh,ec];simp[cQ,U,Qr,pu]
   . have u:(g1.set q1 (fd ((av j o sh).zip ks ++ [(j,k)])))[q1]? = some (fd ((av j o sh).zip ks ++ [(j,k)])):=t7 X
     have ei:ag ao eP eh (cQ w o m wd n p tg sh mo q1 q2 (some (.int j)) x12 x13 x14 x15 x16 x17) (g1.set q1 (fd ((av j o sh).zip ks ++ [(j,k)])))=some (.int k,g1.set q1 (fd ((av j o sh).zip ks ++ [(j,k)]))):=by rw[ck (d:=.az q1) (d':=.int j) (g1:=g1.set q1 (fd ((av j o sh).zip ks ++ [(j,k)]))) (g2:=g1.set q1 (fd ((av j o sh).zip ks ++ [(j,k)]))) rfl rfl];simp[u,ge]
     have em:aJ aB (ae jc (ae bg (ae eh af))) (cQ w o m wd n p tg sh mo q1 q2 (some (.int j)) x12 x13 x14 x15 x16 x17) (g1.set q1 (fd ((av j o sh).zip ks ++ [(j,k)])))=some (cI o j,g1.set q1 (fd ((av j o sh).zip ks ++ [(j,k)]))):=rfl;have e0:bR (cQ w o m wd n p tg sh mo q1 q2 (some (.int j)) x12 x13 x14 x15 x16 x17) (g1.set q1 (fd ((av j o sh).zip ks ++ [(j,k)])))=some (.az w,g1.set q1 (fd ((av j o sh).zip ks ++ [(j,k)]))):=rfl;rw[K];generalize cQ w o m wd n p tg sh mo q1 q2 (some (.int j)) x12 x13 x14 x15 x16 x17=σ1 at *;generalize g1.set q1 (fd ((av j o sh).zip ks ++ [(j,k)]))=G1 at *;show((aj (ak false 3 3 setB) _ σ1 G1).bind λq=>some (F.nx,σ1,q.2))=_;simp only[ic,bX,e0,em,ei,cy,m5,e3]
   . rw[ex];simp[e]
   . rw[y.2 q1 O,ez];exact t7 X
   . have z1:st++((av (j+1) o sh).zip (ks ++ [k])).flatMap (Lo o)=st++((av j o sh).zip ks).flatMap (Lo o) ++ [.tup [.str "read",eU j o]] ++ [.tup [.str "write",cI o j,.int k]]:=by
      rw[ez,ag2];simp[Lo]
     have z2:f++eA (bI (ks ++ [k]))=f++eA (bI ks) ++ [.int k] ++ [.aA]:=by rw[show bI (ks ++ [k])=bI ks ++ [.int k] by simp[bI],Hn];simp
     rw[z1,z2,show i+((j+1:Nat):Int)*31=i+(j:Int)*31+31 by omega];exact V3
   . rw[y.1,QJ,Q.1];exact I.len
   . intro R B
     simp only[nF,x5,or_false,not_or]at B;rw[y.2 R (by simp[B]),p7 (n7 B.2.2.2.2.2),Q.2 R (by simp[B])];exact I.fr R (by simp[B])
 . have ex:av (j+1) o sh=av j o sh:=by rw[nE,if_neg hc,wz]
   refine⟨g,ks,?_,by rw[ex];exact I.kl,by rw[ex];exact I.h1,?_,I.len,I.fr⟩
   . unfold Qp
     rw[eQ (g1:=g) (by rw[Cn,decide_eq_false hc])];rfl
   . rw[ex]
     obtain⟨W,hd,a1,a2,a3,a4,a5⟩:=I.V;exact⟨W,hd.mono (by omega),a1,a2,a3,a4,a5⟩
structure R3 (n p o sh w h b s r kq q2:Nat)(ex st rd:List D)(B:Int)(g0:G)(j:Nat)(g:G)(cs:List Int):Prop where
 kl:cs.length=(av j o sh).length
 h2:g[q2]? = some (fd ((av j o sh).zip cs))
 V:Wv n p w h b s r kq ex (st++jt (cls "call" o (av j o sh))) (rd++bI cs) (B+j*31) g
 len:g.length=g0.length
 fr:∀i,i ∉ [w,h,b,s,r,q2]->g[i]? = g0[i]?
def R3.step {tg:Nat}{sh:Nat}{mo:Nat}{wd:D}{q1:Nat}{j:Nat}{x12:Option D}{x13:Option D}{x14:Option D}{x15:Option D}{x16:Option D}(C:pj n h (yr o) rA 31 w Z b s r c A Y)(I:R3 n p o sh w Z b s r c q2 A st f i a j g z)(H:o<n)(E:j<n)(K:n<=5)(M:i+200<2 ^ 40)(B:q2 ∉ [w,Z,b,s,r])(J:q2≠c)(sz:st.length<=700)(L:f.length<=700):
   ∃g' X,Jl h (cQ w o m wd n p tg sh mo q1 q2 (some (.int j)) x12 x13 x14 x15 x16 x17) g=some (.nx,cQ w o m wd n p tg sh mo q1 q2 (some (.int j)) x12 x13 x14 x15 x16 x17,g')/\R3 n p o sh w Z b s r c q2 A st f i a (j+1) g' X:=by
 by_cases hc:sh=1/\j≠o
 . have O:av (j+1) o sh=av j o sh ++ [j]:=by rw[nE,if_pos hc]
   have sl:=gC (n:=j) (o:=o) (sh:=sh);have Q:=I.kl;have zl:((av j o sh).zip z).length=(av j o sh).length:=by rw[Dv,Q];omega
   refine He (yz C I.V (by omega) H E (by simp[jt,cls];omega) (by simp[bI,Q];omega)) λk g1 e1 x R=>?_;have e:g1[q2]? = some (fd ((av j o sh).zip z)):=(R.2 q2 B).trans I.h2;have xV:=(mT.mp e).1;have pu:=yx (v:=k) (AV (ks:=z) (Fo (j:=j) (o:=o) (sh:=sh)));have q:(av (j+1) o sh).zip (z ++ [k])=(av j o sh).zip z ++ [(j,k)]:=by rw[O,ah2 Q.symm];rfl
   have V2:=x.other B J (xs:=fd ((av j o sh).zip z ++ [(j,k)])) yu;have u:iy (fd ((av j o sh).zip z))=true:=by unfold iy;exact aH (by rw[yw,zl];omega)
   refine⟨g1.set q2 (fd ((av j o sh).zip z ++ [(j,k)])),z ++ [k],(nB (g1:=g) (by rw[Cn,decide_eq_true hc])).trans ?_,?_,?_,?_,?_,?_⟩
   . have ec:aj h (ae bR (ae (aJ aB (ae gb (ae eh (ae bg af)))) af)) (cQ w o m wd n p tg sh mo q1 q2 (some (.int j)) x12 x13 x14 x15 x16 x17) g=some (.int k,g1):=e1
     rw[kh,ec];simp[cQ,e,u,pu]
   . rw[O];simp[Q]
   . rw[q];exact t7 xV
   . have y:st++jt (cls "call" o (av (j+1) o sh))=st++jt (cls "call" o (av j o sh)) ++ [.tup [.str "read",eU j o]]:=by
      rw[O];simp[jt,cls,eU]
     have g0:f++bI (z ++ [k])=f++bI z ++ [.int k]:=by simp[bI]
     rw[y,g0,show i+((j+1:Nat):Int)*31=i+(j:Int)*31+31 by omega];exact V2
   . rw[QJ,R.1];exact I.len
   . intro U d
     simp only[nF,x5,or_false,not_or]at d;rw[p7 (n7 d.2.2.2.2.2),R.2 U (by simp[d])];exact I.fr U (by simp[d])
 . have O:av (j+1) o sh=av j o sh:=by rw[nE,if_neg hc,wz]
   refine⟨g,z,?_,by rw[O];exact I.kl,by rw[O];exact I.h2,?_,I.len,I.fr⟩
   . unfold Jl
     rw[eQ (g1:=g) (by rw[Cn,decide_eq_false hc])];rfl
   . rw[O]
     obtain⟨W,hd,a1,a2,a3,ex,l⟩:=I.V;exact⟨W,hd.mono (by omega),a1,a2,a3,ex,l⟩
theorem AW {t:FG}{c:FT}{e:FE}{nn:Nat}{g:G}{kv:List D}(P:Sg->Prop)(b:D->Bool)(f:D->D)(o:g[nn]? = some kv)(q:∀d∈aK kv,∀u,P u->∃r,t d u g=some (r,g)/\c r g=some (b d,g)/\(b d=true->e r g=some (f d,g))/\P r):∀(k:Nat) (u:Sg),k<=(aK kv).length->P u->gX nn (aK kv).length t c e k u g=some ((((aK kv).drop ((aK kv).length-k)).filter b).map f,g)
 | 0,u,_,_=>by simp[gX,o]
 |k+1,u,hk,p=>by
  have a:(aK kv).length-(k+1)<(aK kv).length:=by omega
  obtain⟨r,i,n,h,j⟩:=q _ (Cv a) u p;have v:=AW P b f o q k r (by omega) j;rw[VX a,show(aK kv).length-(k+1)+1=(aK kv).length-k by omega];generalize hd:(aK kv)[(aK kv).length-(k+1)]=d at *;have l:(aK kv)[(aK kv).length-(k+1)]? = some d:=by rw[nz a,hd]
  simp only[gX,o,m5,if_true,l,i,n,E6];cases hb:b d with
  |false =>
   simp only[rk,if_false,v];rw[Ut,hb];rfl
  |true =>
   simp only[if_true,h hb,m5,v];rw[Ut,hb];rfl
noncomputable def Qu:FE:=gY gJ (tR eP) [none,none,some 10,some 9] (gN 1) (ay (ag bp (ag ao cT bg) (ag ao b0 bg))) bg
noncomputable def Qv:FS:=aw (oC 16 11 (ae (ag ao (aa 12) fo) (ae (ag ao (ag ao ft fo) cP) af))) (aw (aF (jy (ag oEq ef cP) (ag bp (ag ao gk ej) (ag ao (ag ao ft fo) ej))) (gN 17)) (cA (iM (ay (ag iw eh (aJ aB (ae bg (ae (rS mZ cP) af))))) (wB (ay (ag bp (ag ao gk cP) eh)) (ia (aa 17)))) (dw (dh isRef bW fy (ae eh af))) a_))
def Qw {S:List Nat}(u:z.length=S.length)(n:l.length=S.length)(nd:S.Nodup)(f:D->Bool)(i:∀q∈S.zip (z.zip l),f (.int q.1)=decide (q.2.1≠q.2.2)):((dN S).filter f)=dN (ja S z l):=by
 have e:S=(S.zip (z.zip l)).map (·.1):=(adR (by rw[Dv];omega)).symm
 have:∀T:List (Nat×Int×Int),(∀q∈T,f (.int q.1)=decide (q.2.1≠q.2.2))->(dN (T.map (·.1))).filter f=dN ((T.filter λq=>decide (q.2.1≠q.2.2)).map (·.1)):=λT=>by
  induction T with
  |nil=>intro _;rfl
  |cons q T h =>
   intro a;have c:=a q (by simp);have b:=h λx d=>a x (by simp[d]);simp only[dN,yp]at b ⊢;rw[Ut,Ut,c,b];by_cases g:q.2.1≠q.2.2
   . rw[if_pos (decide_eq_true g),if_pos (decide_eq_true g)];rfl
   . rw[if_neg (by simpa using g),if_neg (by simpa using g)]
 conv=>lhs;rw[e]
 exact this _ i
def baX {tg:Nat}{sh:Nat}{mo:Nat}{wd:D}{x11:Option D}{x12:Option D}{x13:Option D}{x14:Option D}{x15:Option D}{x16:Option D}(A:g[s]? = some (fd ((av n o sh).zip z)))(B:g[q2]? = some (fd ((av n o sh).zip l)))(E:z.length=(av n o sh).length)(C:l.length=(av n o sh).length)(H:n<=5)(nd:(av n o sh).Nodup):Qu (cQ w o m wd n p tg sh mo s q2 x11 x12 x13 x14 x15 x16 x17) g=some (.ref g.length,g ++ [dN (ja (av n o sh) z l)]):=by
 have sl:=gC (n:=n) (o:=o) (sh:=sh);generalize av n o sh=S at *;have O:aK (fd (S.zip z))=dN S:=by rw[AU,show(λq:Nat×Int=>D.int q.1)=(λj:Nat=>D.int j) ∘ Prod.fst from rfl,<- E5,adR (by omega)];rfl
 have nk:((S.zip z).map (·.1)).Nodup:=by rw[adR (by omega)];exact nd
 have X:((S.zip l).map (·.1)).Nodup:=by rw[adR (by omega)];exact nd
 have Q:∀i (b:i<S.length),aI (fd (S.zip z)) (.int S[i])=some (.int (z[i]'(by omega))):=λi b=>by have:=yy (q:=(S[i],z[i]'(by omega))) nk (TR.mpr ⟨i,by rw[QN];exact⟨nz b,nz (by omega)⟩⟩);exact this
 have R:∀i (b:i<S.length),aI (fd (S.zip l)) (.int S[i])=some (.int (l[i]'(by omega))):=λi b=>by have:=yy (q:=(S[i],l[i]'(by omega))) X (TR.mpr ⟨i,by rw[QN];exact⟨nz b,nz (by omega)⟩⟩);exact this
 let I:D->Bool:=λd=>match aI (fd (S.zip z)) d,aI (fd (S.zip l)) d with
  |some (.int x),some (.int y)=>decide (x≠y)|_,_=>false
 have c:=AW (t:=gN 1) (c:=ay (ag bp (ag ao cT bg) (ag ao b0 bg))) (e:=bg) (nn:=s) (g:=g) (kv:=fd (S.zip z)) (λU=>∃a,U = [none,a,some (.az q2),some (.az s)]) I id A (by
  rintro d hd U ⟨a,rfl⟩;rw[O]at hd;obtain⟨v,Y,rfl⟩:=nP.mp hd;obtain⟨i,b,rfl⟩:=OX.mp Y;have f:=Q i b;have h:=R i b;have t:ay (ag bp (ag ao cT bg) (ag ao b0 bg)) [none,some (.int S[i]),some (.az q2),some (.az s)] g=some (I (.int S[i]),g):=by
   have J:ag ao cT bg [none,some (.int S[i]),some (.az q2),some (.az s)] g=some (.int (z[i]'(by omega)),g):=by rw[ck (d:=.az s) (d':=.int S[i]) (g1:=g) (g2:=g) rfl rfl];simp[A,f]
   have M:ag ao b0 bg [none,some (.int S[i]),some (.az q2),some (.az s)] g=some (.int (l[i]'(by omega)),g):=by rw[ck (d:=.az q2) (d':=.int S[i]) (g1:=g) (g2:=g) rfl rfl];simp[B,h]
   rw[cD,ck J M,Sx];simp only[fL,I,f,h];rfl
  exact⟨[none,some (.int S[i]),some (.az q2),some (.az s)],rfl,t,λ_=>rfl,_,rfl⟩) (aK (fd (S.zip z))).length [none,none,some (.az q2),some (.az s)] (nc _) ⟨_,rfl⟩
 rw[UH,ae8,ahC]at c;have Z:ax (aK (fd (S.zip z))).length=true:=aH (by rw[O,cW];omega);have fe:(aK (fd (S.zip z))).filter I=dN (ja S z l):=by rw[O];refine Qw E C nd I λq hq=>?_;obtain⟨i,b⟩:=TR.mp hq;rw[QN,QN]at b;obtain⟨r,i2,i3⟩:=b;obtain⟨u,f⟩:=mT.mp r;obtain⟨l2,h⟩:=mT.mp i2;obtain⟨l3,e3⟩:=mT.mp i3;have J:=Q i u;have M:=R i u;rw[f,h]at J;rw[f,e3]at M;simp only[I,J,M]
 rw[fe]at c;unfold Qu;have r:tR eP (cQ w o m wd n p tg sh mo s q2 x11 x12 x13 x14 x15 x16 x17) g=some (s,(aK (fd (S.zip z))).length,g):=by rw[KN,show eP (cQ w o m wd n p tg sh mo s q2 x11 x12 x13 x14 x15 x16 x17) g=some (.az s,g) from rfl];simp only[m5,A]
 have sb:bZ [none,none,some 10,some 9] (cQ w o m wd n p tg sh mo s q2 x11 x12 x13 x14 x15 x16 x17)= [none,none,some (.az q2),some (.az s)]:=rfl;rw[DZ,r];simp only[m5,Z,if_true,sb,c,gJ]
def Te:iw (.int i) (.tup [.int (o:Int),.int (-1)]) g=some (.bl (decide (i≠o/\i ≠ -1)),g):=by
 have c:((o:Int)== i)=decide (i=o):=by by_cases z:i=o<;>simp_all<;>omega
 have b:((-1:Int)== i)=decide (i = -1):=by by_cases z:i = -1<;>simp_all<;>omega
 have:iw (.int i) (.tup [.int (o:Int),.int (-1)]) g=some (.bl (!(((o:Int)== i)||(((-1:Int)== i)||false))),g):=rfl;rw[this,c,b];by_cases h1:i=o<;>by_cases h2:i = -1<;>simp[h1,h2]
def LL (l:-1<=i)(f:i<n):i_ n o i=decide (i≠o/\i ≠ -1):=by
 cases e:i_ n o i with
 |true =>
  obtain⟨a,b,c⟩:=pT.mp e;have:=fR.mp b;exact(decide_eq_true ⟨by omega,by omega⟩).symm
 |false =>
  symm;rw[decide_eq_false_iff_not];rintro⟨d,c⟩;have:i_ n o i=true:=pT.mpr ⟨i.toNat,fR.mpr ⟨by omega,by omega⟩,by omega⟩;rw[this]at e;cases e
def Qx {tg:Nat}{sh:Nat}{mo:Nat}{wd:D}{q1:Nat}{x11:Option D}{x16:Option D}{c:D}(B:g[b]? = some A)(I:A.length<=100)(E:f[s]? = some v)(C:j[s]? = some c)(H:BW n v)(bc:BW n c):
  ∃X Y Z,Qv (cQ w o m wd n p tg sh mo q1 q2 x11 (some (.lst f)) (some (.lst j)) (some (.ref b)) (some (.int s)) x16 x17) g=some (.nx,cQ w o m wd n p tg sh mo q1 q2 X (some (.lst f)) (some (.lst j)) (some (.ref b)) (some (.int s)) Y Z,g.set b (A++(eT n o tg [(v,c)]).map .int)):=by
 obtain⟨O,x,t,rfl,hv,ab,Px⟩:=H;obtain⟨fs,J,a,rfl,zx,XA,XB⟩:=bc;have hl:=(mT.mp B).1;have i1:∀G:G,ao (.lst f) (.int s) G=some (.tup [O,.int x,.int t],G):=λG=>by simp[gS,bD,gp E]
 have r:∀G:G,ao (.lst j) (.int s) G=some (.tup [fs,.int J,.int a],G):=λG=>by simp[gS,bD,gp C]
 have k1:∀(O:D) (x t:Int) (G:G),ao (.tup [O,.int x,.int t]) (.int 1) G=some (.int x,G):=λ_ _ _ _=>rfl;have k2:∀(O:D) (x t:Int) (G:G),ao (.tup [O,.int x,.int t]) (.int 2) G=some (.int t,G):=λ_ _ _ _=>rfl;refine⟨some (.int J),some (.tup [O,.int x,.int t]),some (.bl (decide (tg=1)&&decide (t≠a))),?_⟩;have s1:oC 16 11 (ae (ag ao (aa 12) fo) (ae (ag ao (ag ao ft fo) cP) af)) (cQ w o m wd n p tg sh mo q1 q2 x11 (some (.lst f)) (some (.lst j)) (some (.ref b)) (some (.int s)) x16 x17) g=some (.nx,cQ w o m wd n p tg sh mo q1 q2 (some (.int J)) (some (.lst f)) (some (.lst j)) (some (.ref b)) (some (.int s)) (some (.tup [O,.int x,.int t])) x17,g):=by
  have e1:ag ao (aa 12) fo (cQ w o m wd n p tg sh mo q1 q2 x11 (some (.lst f)) (some (.lst j)) (some (.ref b)) (some (.int s)) x16 x17) g=some (.tup [O,.int x,.int t],g):=(ck (d:=.lst f) (d':=.int s) (g1:=g) (g2:=g) rfl rfl).trans (i1 g);have l:ag ao (ag ao ft fo) cP (cQ w o m wd n p tg sh mo q1 q2 x11 (some (.lst f)) (some (.lst j)) (some (.ref b)) (some (.int s)) x16 x17) g=some (.int J,g):=by rw[ck (d:=.tup [fs,.int J,.int a]) (d':=.int 1) (g1:=g) (g2:=g) ((ck (d:=.lst j) (d':=.int s) (g1:=g) (g2:=g) rfl rfl).trans (r g)) rfl];rfl
  exact(PH e1 l).trans rfl
 refine dS s1 ?_;generalize k:cQ w o m wd n p tg sh mo q1 q2 (some (.int J)) (some (.lst f)) (some (.lst j)) (some (.ref b)) (some (.int s)) (some (.tup [O,.int x,.int t])) x17=Q;have a6:ag oEq ef cP Q g=some (.bl (decide (tg=1)),g):=by subst k;rw[ck (d:=.int tg) (d':=.int 1) (g1:=g) (g2:=g) rfl rfl,baM];have:((tg:Int)=1)=(tg=1):=propext (by omega);simp only[this]
 have a7:ag bp (ag ao gk ej) (ag ao (ag ao ft fo) ej) Q g=some (.bl (decide (t≠a)),g):=by subst k;rw[ck (d:=.int t) (d':=.int a) (g1:=g) (g2:=g) rfl ((ck (d:=.tup [fs,.int J,.int a]) (d':=.int 2) (g1:=g) (g2:=g) ((ck (d:=.lst j) (d':=.int s) (g1:=g) (g2:=g) rfl rfl).trans (r g)) rfl).trans rfl),Sx]
 have a8:jy (ag oEq ef cP) (ag bp (ag ao gk ej) (ag ao (ag ao ft fo) ej)) Q g=some (.bl (decide (tg=1)&&decide (t≠a)),g):=by
  unfold jy;rw[a6];simp only[fL,m5];by_cases z:tg=1
  . rw[decide_eq_true z,if_pos rfl,a7,afx]
  . rw[decide_eq_false z,if_neg (by simp),agp]
 refine dE a8 ?_;have l:Q.set 17 (some (.bl (decide (tg=1)&&decide (t≠a))))=cQ w o m wd n p tg sh mo q1 q2 (some (.int J)) (some (.lst f)) (some (.lst j)) (some (.ref b)) (some (.int s)) (some (.tup [O,.int x,.int t])) (some (.bl (decide (tg=1)&&decide (t≠a)))):=by subst k;rfl
 rw[l];generalize hb:(decide (tg=1)&&decide (t≠a))=R;generalize e:cQ w o m wd n p tg sh mo q1 q2 (some (.int J)) (some (.lst f)) (some (.lst j)) (some (.ref b)) (some (.int s)) (some (.tup [O,.int x,.int t])) (some (.bl R))=M;have t1:ay (ag iw eh (aJ aB (ae bg (ae (rS mZ cP) af)))) M g=some (decide (J≠o/\J ≠ -1),g):=by subst e;rw[cD,ck (d:=.int J) (d':=.tup [.int o,.int (-1)]) (g1:=g) (g2:=g) rfl rfl,Te];rfl
 have t2:ay (ag bp (ag ao gk cP) eh) M g=some (decide (x≠J),g):=by subst e;rw[cD,ck (d:=.int x) (d':=.int J) (g1:=g) (g2:=g) rfl rfl,Sx];rfl
 have t3:ia (aa 17) M g=some (R,g):=by subst e;rfl
 have t4:wB (ay (ag bp (ag ao gk cP) eh)) (ia (aa 17)) M g=some (decide (x≠J)||R,g):=by
  rw[N5,t2];by_cases z:x≠J
  . rw[decide_eq_true z];rfl
  . rw[decide_eq_false z];simpa using t3
 have h:iM (ay (ag iw eh (aJ aB (ae bg (ae (rS mZ cP) af))))) (wB (ay (ag bp (ag ao gk cP) eh)) (ia (aa 17))) M g=some (decide (J≠o/\J ≠ -1)&&(decide (x≠J)||R),g):=by
  rw[tK,t1];by_cases z:J≠o/\J ≠ -1
  . rw[decide_eq_true z];simpa using t4
  . rw[decide_eq_false z];rfl
 have pe:(eT n o tg [(.tup [O,.int x,.int t],.tup [fs,.int J,.int a])]).map D.int=if(decide (J≠o/\J ≠ -1)&&(decide (x≠J)||R))=true then [.int J]else []:=by
  unfold eT;have U:uc (.tup [fs,.int J,.int a])=J:=rfl;have u:u_ tg (.tup [O,.int x,.int t]) (.tup [fs,.int J,.int a])=(decide (x≠J)||R):=by rw[<- hb];rfl
  rw[Ut,U,u,LL XA XB];split<;>simp[U]
 rw[pe];cases hc:(decide (J≠o/\J ≠ -1)&&(decide (x≠J)||R))with
 |false =>
  rw[hc]at h;rw[if_neg (by simp),wz];obtain⟨_,y⟩:=mT.mp B;rw[<- y,UG];exact(eQ h).trans rfl
 |true =>
  rw[hc]at h;rw[if_pos rfl];refine(nB h).trans ?_;have zl:ax (A.length+1)=true:=aH (by omega);have i:fy M g=some (.ref b,g):=by subst e;rfl
  have Jg:ae eh af M g=some ([.int J],g):=by subst e;rfl
  have em:dh isRef bW fy (ae eh af) M g=some (.aA,g.set b (A ++ [.int J])):=by rw[pQ,i];simp only[m5,Jg];simp[isRef,bW,zl,B]
  rw[show dw (dh isRef bW fy (ae eh af)) M g=(dh isRef bW fy (ae eh af) M g).bind λq=>some (.nx,M,q.2) from rfl,em];rfl
def Hv {l:List (D×D)}{q:D×D}:eT n o p (l ++ [q])=eT n o p l++eT n o p [q]:=by unfold eT;rw[adw,UA]
def LM {tg:Nat}{sh:Nat}{mo:Nat}{wd:D}{q1:Nat}{x11:Option D}{x15:Option D}{x16:Option D}(z:g[s]? = some A)(H:A.length<=50)(E:f.length=p)(I:j.length=p)(J:p<=5)(B:∀c∈f,BW n c)(C:∀c∈j,BW n c):
   mX (dF (dX (ae d4 af)) (gN 15) Qv (cQ w o m wd n p tg sh mo q1 q2 x11 (some (.lst f)) (some (.lst j)) (some (.ref s)) x15 x16 x17) g) λx=>x.1 = .nx/\x.2.2=g.set s (A++(eT n o tg (f.zip j)).map .int) /\ ∃O s_ Q R,x.2.1=cQ w o m wd n p tg sh mo q1 q2 O (some (.lst f)) (some (.lst j)) (some (.ref s)) s_ Q R:=by
 have y:=(mT.mp z).1;rw[iq,h_ (n:=p) (g1:=g) rfl (by omega),m5];refine fQ (λM U a=>a=g.set s (A++(eT n o tg ((f.zip j).take M)).map .int) /\ ∃O s_ Q R,U=cQ w o m wd n p tg sh mo q1 q2 O (some (.lst f)) (some (.lst j)) (some (.ref s)) s_ Q R) _ 0 _ _ ⟨?_,_,_,_,_,rfl⟩ ?_ ?_
 . obtain⟨_,q⟩:=mT.mp z
   simp only[aim,eT,List.filter_nil,ahb,wz];rw[<- q,UG]
 . rintro M d U a X ⟨rfl,O,s_,Q,R,rfl⟩
   obtain⟨b,rfl⟩:=di X;simp only[vU]at *;have b:M<p:=by simpa using b
   have hf:f[M]? = some f[M]:=nz (by omega);have fs:j[M]? = some j[M]:=nz (by omega);have u:=LG (n:=n) (o:=o) (tg:=tg) (l:=(f.zip j).take M);rw[Cu]at u;obtain⟨r,i,h,e⟩:=Qx (w:=w) (m:=m) (wd:=wd) (p:=p) (tg:=tg) (sh:=sh) (mo:=mo) (o:=o) (q1:=q1) (q2:=q2) (x11:=O) (x16:=Q) (x17:=R) (g:=g.set s (A++(eT n o tg ((f.zip j).take M)).map .int)) (A:=A++(eT n o tg ((f.zip j).take M)).map .int) (t7 y) (by rw[nv,qV];omega) hf fs (B _ (Cv _)) (C _ (Cv _));refine⟨_,rfl,_,e,?_,_,_,_,_,rfl⟩;have v:(f.zip j)[M]? = some (f[M],j[M]):=by rw[QN];exact⟨hf,fs⟩
   rw[agD,v,Option.toList_some,Hv,UA,<- Fm,W3]
 . rintro U a ⟨rfl,O,s_,Q,R,rfl⟩
   refine⟨rfl,?_,_,_,_,_,rfl⟩;rw[cz,vU];dsimp only;rw[Vu (by rw[Dv];omega)]
noncomputable abbrev bw (n p c g mo:Nat):D:=.tup [.str "shared",.int n,.int p,.int c,.int g,.int mo]
noncomputable def XC:FS:=aP (aJ aB (ae ft (ae (oW fy) af)))
noncomputable def XD:FS:=aw (aF Qu (gN 14)) (aw (dF (dX (ae d4 af)) (gN 15) Qv) XC)
noncomputable def XE (a:Fn):FS:=aw (dF (dX (ae ee af)) (gN 11) (Jl a)) XD
noncomputable def XF (a Dw:Fn):FS:=aw (oC 12 13 (ae (aj Dw (ae bR (ae fh (ae d4 af)))) (ae (aj Dw (ae bR (ae fh (ae d4 af)))) af))) (XE a)
noncomputable def Jm (a set Dw:Fn):FS:=aw (aF b0 (gT 6 (aY (gN 3) (aY (gN 4) (aY (gN 5) (aY (gN 6) (aY (gN 7) (aY (gN 8) eZ)))))))) (aw (aF (aJ aB (ae j7 (ae j7 af))) (gT 2 (aY (gN 9) (aY (gN 10) eZ)))) (aw (dF (dX (ae ee af)) (gN 11) (Qp a set)) (XF a Dw)))
def Qy {tg:Nat}{sh:Nat}{ks:List Int}{cs:List Int}{fs:List D}{ss:List D}{σ:Sg}{q:Nat}(l:n<=5)(u:o<n)(d:σ[14]? = some (some (.ref q)))(f:g[q]? = some ((iA n o tg sh ks fs ss cs).map D.int)):oW fy σ g=some (.lst (dN (eN n o tg sh ks fs ss cs)),g):=by
 rw[<- E2]at f;have e:=EO (L:=dZ n o tg sh ks fs ss cs) (ms:=eN n o tg sh ks fs ss cs) (λj=>pU) sX EY;have h:=(aeb (bO (λi=>((dZ n o tg sh ks fs ss cs).map λ(j:Nat)=>(j:Int)).getD i 0) ((dZ n o tg sh ks fs ss cs).map λ(j:Nat)=>(j:Int)).length)).length_eq.symm.trans (congrArg afc e)
 replace h:=aeS h
 replace h:=rK h (rK (aeS (qV _)) (ud l u))
 have c:fG (dN (dZ n o tg sh ks fs ss cs))=some ((dZ n o tg sh ks fs ss cs).map λ(j:Nat)=>(j:Int)):=by have:=baH ((dZ n o tg sh ks fs ss cs).map λ(j:Nat)=>(j:Int));rw[E5]at this;exact this
 have b:∀i,i<((dZ n o tg sh ks fs ss cs).map λ(j:Nat)=>(j:Int)).length->0<=((dZ n o tg sh ks fs ss cs).map λ(j:Nat)=>(j:Int)).getD i 0/\((dZ n o tg sh ks fs ss cs).map λ(j:Nat)=>(j:Int)).getD i 0<=7:=λi a=>by rw[qV]at a;have:(dZ n o tg sh ks fs ss cs)[i]< n:=(fR.mp (EZ.mp (pU.mpr (Cv a))).1).1;rw[Np,qd,nz a];exact⟨afn _,by show((dZ n o tg sh ks fs ss cs)[i]:Int)<=7;omega⟩
 generalize dZ n o tg sh ks fs ss cs=L at *;rw[Al];simp only[Kl,d,m5,fg,f,c];rw[if_pos (decide_eq_true ⟨h,b⟩),e];simp[dN,E5,US]
structure lO (n p o:Nat)(bh Dw:Fn)(w h b s r kq:Nat)(ex mv:List D):Prop where
 Qz:pj n bh (yr o) rA 31 w h b s r kq ex mv
 U9:pj n bh U6 (nX p) 31 w h b s r kq ex mv
 col:rj n "box" Dw (BW n) 31 w h b s r kq ex mv
theorem Wv.mono {B':Int}(V:Wv n p w o b s r Z A st f i g)(a:i<=B'):Wv n p w o b s r Z A st f B' g:=⟨V.W,V.hd.mono a,V.mM,V.ez,V.jX,V.jY,V.bd⟩
def QA:(av n o p).Nodup:=by
 unfold av;split
 . exact ER
 . exact TF
def QB {tg:Nat}{sh:Nat}{mo:Nat}(mv:lO n p o h M w Z b s r c A j)(J:T=ak false 3 3 setB)(V:Wv n p w Z b s r c A st f i g)(E:o<n)(C:n<=5)(H:p<=5)(L:i+1000<2 ^ 40)(sz:st.length<=600)(K:f.length<=600):
  ∃ks fs ss cs U,ak false 18 3 (Jm h T M) [.az w,.int o,bw n p tg sh mo] g=some (.tup [.lst ss,.lst (dN (eN n o tg sh ks fs ss cs))],U)/\Rg n p o sh ks fs ss cs/\Wv n p w Z b s r c A (st++yd n p o sh ks) (f++bF ks fs ss cs) (i+700) U/\cx [w,Z,b,s,r] g U:=by
 obtain⟨lw,lh,lb,ls,lr,lk⟩:=V.Jk;have Ak:g.length ∉ [w,Z,b,s,r]:=B6 lw lh lb ls lr (nc _);have gU:g.length+1 ∉ [w,Z,b,s,r]:=B6 lw lh lb ls lr (ahD _);have main:∀Q:D×G->Prop,(∀q,(∃ks fs ss cs,q.1 = .tup [.lst ss,.lst (dN (eN n o tg sh ks fs ss cs))]/\Rg n p o sh ks fs ss cs/\Wv n p w Z b s r c A (st++yd n p o sh ks) (f++bF ks fs ss cs) (i+700) q.2/\cx [w,Z,b,s,r] g q.2)->Q q)->mX (ak false 18 3 (Jm h T M) [.az w,.int o,bw n p tg sh mo] g) Q:=λQ hQ=>by
  refine mf rfl ?_;have V0:Wv n p w Z b s r c A st f i (g ++ [[],[]]):=V.push (by simp[aC]);have Y:av 0 o sh = []:=by unfold av b_;split<;>rfl
  refine cX (σ1:=[some (.az w),some (.int o),some (bw n p tg sh mo),some (.str "shared"),some (.int n),some (.int p),some (.int tg),some (.int sh),some (.int mo),none,none,none,none,none,none,none,none,none]) (g1:=g) rfl (cX (σ1:=cQ w o (bw n p tg sh mo) (.str "shared") n p tg sh mo g.length (g.length+1) none none none none none none none) (g1:=g ++ [[],[]]) (by simp[j7,cQ,aB,ax,m6]) (wp_seq ?_));rw[iq,h_ (n:=n) (g1:=g ++ [[],[]]) rfl (by omega),m5];refine fQ (λX σ U=>∃u ks,σ=cQ w o (bw n p tg sh mo) (.str "shared") n p tg sh mo g.length (g.length+1) u none none none none none none/\R1 n p o sh w Z b s r c g.length A st f i (g ++ [[],[]]) X U ks) _ 0 _ _ ⟨none,[],rfl,?_⟩ ?_ ?_
  . refine⟨by rw[Y];rfl,by rw[Y];simp[fd],?_,rfl,λ_ _=>rfl⟩
    rw[Y];simpa[eA,bI]using V0
  . rintro X d σ U hj ⟨u,ks,rfl,I⟩
    obtain⟨v,rfl⟩:=di hj;simp only[vU]at *;have v:X<n:=by simpa using v
    obtain⟨g2,Qq,e,a⟩:=R1.step (m:=bw n p tg sh mo) (wd:=.str "shared") (tg:=tg) (mo:=mo) (q2:=g.length+1) (x12:=none) (x13:=none) (x14:=none) (x15:=none) (x16:=none) (x17:=none) mv.Qz J I E v C (by omega) Ak (by omega) (by omega) (by omega);exact⟨_,rfl,_,e,some (.int X),Qq,rfl,a⟩
  . rintro σ g1 ⟨u,ks,rfl,I⟩
    refine⟨rfl,?_⟩;rw[cz,vU]at I;dsimp only;have kl:=I.kl;have sl:=gC (n:=n) (o:=o) (sh:=sh);have zl:((av n o sh).zip ks).length=(av n o sh).length:=by rw[Dv,kl];omega
    have bl:(bI ks).length=(av n o sh).length:=by simp[bI,kl]
    have V1:=I.V.mono (B':=i+155) (by omega);have L1:(st++((av n o sh).zip ks).flatMap (Lo o)).length<=650:=by rw[nv,pV,zl];omega
    have L2:(f++eA (bI ks)).length<=650:=by rw[nv,js,bl];omega
    refine gM (Qn mv.col V1 H (by omega) (by omega) (by omega)) λfs g2 e2 fl fa V2 f2=>?_;refine gM (Qn mv.col V2 H (by omega) (by rw[nv,t_];omega) (by rw[nv,fl];omega)) λss g3 e3 jU sa V3 f3=>?_;refine cX (PH e2 e3) (wp_seq ?_);show mX (dF (dX (ae ee af)) (gN 11) (Jl h) (cQ w o (bw n p tg sh mo) (.str "shared") n p tg sh mo g.length (g.length+1) u (some (.lst fs)) (some (.lst ss)) none none none none) g3) _;rw[iq,h_ (n:=n) (g1:=g3) rfl (by omega),m5];have XG:g3[g.length+1]? = some []:=by rw[f3.2 _ gU,f2.2 _ gU,I.fr _ (ij gU (by omega)),Fq (by omega)];simp
    have XH:g3[g.length]? = some (fd ((av n o sh).zip ks)):=by rw[f3.2 _ Ak,f2.2 _ Ak];exact I.h1
    have aO:(st++((av n o sh).zip ks).flatMap (Lo o)++fU "box" p++fU "box" p).length<=700:=by rw[nv,nv,t_];omega
    have aW:(f++eA (bI ks)++fs++ss).length<=700:=by rw[nv,nv,fl,jU];omega
    refine fQ (λX σ U=>∃u cs,σ=cQ w o (bw n p tg sh mo) (.str "shared") n p tg sh mo g.length (g.length+1) u (some (.lst fs)) (some (.lst ss)) none none none none/\R3 n p o sh w Z b s r c (g.length+1) A (st++((av n o sh).zip ks).flatMap (Lo o)++fU "box" p++fU "box" p) (f++eA (bI ks)++fs++ss) (i+155+155+155) g3 X U cs) _ 0 _ _ ⟨u,[],rfl,?_⟩ ?_ ?_
    . refine⟨by rw[Y];rfl,by rw[Y];simpa[fd]using XG,?_,rfl,λ_ _=>rfl⟩
      rw[Y];simpa[jt,cls,bI]using V3
    . rintro X d σ U hj ⟨nY,cs,rfl,a⟩
      obtain⟨v,rfl⟩:=di hj;simp only[vU]at *;have v:X<n:=by simpa using v
      obtain⟨O,Qt,e,ah⟩:=R3.step (m:=bw n p tg sh mo) (wd:=.str "shared") (tg:=tg) (mo:=mo) (q1:=g.length) (x12:=some (.lst fs)) (x13:=some (.lst ss)) (x14:=none) (x15:=none) (x16:=none) (x17:=none) mv.Qz a E v C (by omega) gU (by omega) aO aW;exact⟨_,rfl,_,e,some (.int X),Qt,rfl,ah⟩
    . rintro σ O ⟨nY,cs,rfl,a⟩
      refine⟨rfl,?_⟩;rw[cz,vU]at a;dsimp only;have R:Rg n p o sh ks fs ss cs:=⟨kl,fl,jU,a.kl,λrd hc=>(fa rd hc).bc,λrd hc=>(sa rd hc).bc⟩
      have ab:g3.length=g.length+2:=by rw[f3.1,f2.1,I.len];simp
      have a7:O.length=g.length+2:=by rw[a.len,ab]
      have h1:O[g.length]? = some (fd ((av n o sh).zip ks)):=by rw[a.fr _ (ij Ak (by omega))];exact XH
      have cm:=baX (w:=w) (m:=bw n p tg sh mo) (wd:=.str "shared") (p:=p) (tg:=tg) (mo:=mo) (x11:=nY) (x12:=some (.lst fs)) (x13:=some (.lst ss)) (x14:=none) (x15:=none) (x16:=none) (x17:=none) h1 a.h2 kl a.kl C QA;have aG:(O ++ [dN (ja (av n o sh) ks cs)])[O.length]? = some (dN (ja (av n o sh) ks cs)):=by simp
      refine cX (j_ cm) (wp_seq ?_);have a6:=AJ (S:=av n o sh) (ks:=ks) (cs:=cs);refine MN (LM (w:=w) (m:=bw n p tg sh mo) (wd:=.str "shared") (n:=n) (o:=o) (tg:=tg) (sh:=sh) (mo:=mo) (q1:=g.length) (q2:=g.length+1) (x11:=nY) (x15:=none) (x16:=none) (x17:=none) aG (by rw[cW];omega) fl jU H fa sa) λx B=>?_;obtain⟨wL,aA,Hw,s_,nZ,n6,hσ⟩:=B;refine⟨wL,?_⟩;rw[aA,hσ];have eL:dN (ja (av n o sh) ks cs)++(eT n o tg (fs.zip ss)).map D.int=(iA n o tg sh ks fs ss cs).map D.int:=by rw[iA,UA,E5];rfl
      rw[eL];have eG:(O ++ [dN (ja (av n o sh) ks cs)]).set O.length ((iA n o tg sh ks fs ss cs).map D.int)=O ++ [(iA n o tg sh ks fs ss cs).map D.int]:=by simp
      rw[eG];have kr:=Qy (ks:=ks) (cs:=cs) (fs:=fs) (ss:=ss) (tg:=tg) (sh:=sh) (g:=O ++ [(iA n o tg sh ks fs ss cs).map D.int]) (σ:=cQ w o (bw n p tg sh mo) (.str "shared") n p tg sh mo g.length (g.length+1) Hw (some (.lst fs)) (some (.lst ss)) (some (.ref O.length)) s_ nZ n6) (q:=O.length) C E rfl (by simp);have e7:aJ aB (ae ft (ae (oW fy) af)) (cQ w o (bw n p tg sh mo) (.str "shared") n p tg sh mo g.length (g.length+1) Hw (some (.lst fs)) (some (.lst ss)) (some (.ref O.length)) s_ nZ n6) (O ++ [(iA n o tg sh ks fs ss cs).map D.int])=some (.tup [.lst ss,.lst (dN (eN n o tg sh ks fs ss cs))],O ++ [(iA n o tg sh ks fs ss cs).map D.int]):=by have ar:∀G:G,ft (cQ w o (bw n p tg sh mo) (.str "shared") n p tg sh mo g.length (g.length+1) Hw (some (.lst fs)) (some (.lst ss)) (some (.ref O.length)) s_ nZ n6) G=some (.lst ss,G):=λ_=>rfl;rw[me];simp only[bX,ar,kr,cy,m5];rfl
      refine⟨_,fu e7,?_⟩;have V5:Wv n p w Z b s r c A (st++yd n p o sh ks) (f++bF ks fs ss cs) (i+700) (O ++ [(iA n o tg sh ks fs ss cs).map D.int]):=by
        have QC:st++((av n o sh).zip ks).flatMap (Lo o)++fU "box" p++fU "box" p++jt (cls "call" o (av n o sh))=st++yd n p o sh ks:=by
         have e1:fU "box" p=jt (cJ p):=by simp[fU,jt,cJ,US]
         have e2:Lo o=λq:Nat×Int=>[D.tup [.str "read",.tup [.str "call",.int q.1,.int o]],.tup [.str "write",cI o q.1,.int q.2]]:=rfl;rw[e1,e2];simp[yd,nU,jt]
        have QD:f++eA (bI ks)++fs++ss++bI cs=f++bF ks fs ss cs:=by simp[bF]
        have V4:=a.V;rw[QC,QD]at V4;obtain⟨W,hd,a1,a2,a3,a4,a5⟩:=V4;have a0:Wv n p w Z b s r c A (st++yd n p o sh ks) (f++bF ks fs ss cs) (i+700) O:=⟨W,hd.mono (by omega),a1,a2,a3,a4,a5⟩
        exact a0.push λx B=>by simp only[nF,x5,or_false]at B;subst B;exact eR λy hy=>by obtain⟨ex,_,rfl⟩:=nP.mp hy;rfl
      have CD:∀ex,ex<g.length->ex ∉ [w,Z,b,s,r]->(O ++ [(iA n o tg sh ks fs ss cs).map D.int])[ex]? = g[ex]?:=λex eJ z=>by rw[r_ (by omega),a.fr ex (ij z (by omega)),f3.2 ex z,f2.2 ex z,I.fr ex (ij z (by omega)),r_ eJ]
      obtain⟨V6,f6⟩:=V.pop V5 (by simp;omega) CD;have aq:aS ss=true:=gj λx B=>(sa x B).bc.flat;refine⟨?_,?_,(show g.length<=(O ++ [(iA n o tg sh ks fs ss cs).map D.int]).length by simp;omega),hQ _ ⟨ks,fs,ss,cs,rfl,R,V6,f6⟩⟩
      . simp[bU,aC,dY _ aq,dY _ (mJ (l:=eN n o tg sh ks fs ss cs))]
      . rw[IU]
        intro x B;obtain⟨ex,z⟩:=TR.mp B;have:=V6.bd ex x z;rw[f6.1]at this;exact this
 obtain⟨⟨d,U⟩,e,ks,fs,ss,cs,rfl,h1,h2,h3⟩:=main _ λ_ Z=>Z;exact⟨ks,fs,ss,cs,U,e,h1,h2,h3⟩
noncomputable def liI (a:Fn):FS:=cA (ay (ag zD (ag ao cT ef) (ag ao b0 lU))) (aP (aj a (ae bR (ae (aJ aB (ae fw (ae ef af))) af)))) a_
noncomputable def QE (a:Fn):FS:=dF (dX (ae (ag ao b0 cP) af)) (gN 6) (liI a)
noncomputable def liD (a:Fn):FS:=aw (dF (dg d4) (gN 6) yk) (QE a)
noncomputable def liC (a:Fn):FS:=aw (cA (ay (ag oEq d4 (aJ dP af))) (aP (aj gL (ae (bH bA (dg ee) [none,none] (gN 1) cN (ag ao bg dV)) af))) a_) (liD a)
noncomputable def QF (a b:Fn):FS:=aw (aF (aj a (ae bR (ae bg (ae b0 af)))) (gT 2 (aY (gN 4) (aY (gN 5) eZ)))) (liC b)
noncomputable def Jn (a b:Fn):FS:=aw (aF (ag lA (aJ dP (ae dV af)) (ag ao b0 cP)) (gN 3)) (zm 1000000 (ia jP) (QF a b))
noncomputable def eY (n p o c:Nat)(rs:List R4):List D:=rs.flatMap λq=>yd n p o c q.1
noncomputable def eO (rs:List R4):List D:=(rs.map d5).flatten
noncomputable def qw:Option Nat->List D
 |none=>[]|some j=>[.tup [.str "read",own "view" j]]
noncomputable def jO (v:D):Option Nat->List D
 |none=>[]|some _=>[v]
noncomputable def qx (c:List D)(v:D):Option Nat->D
 |none=>.tup (c.map RI)|some _=>v
def mN {sh:Nat}{rs:List R4}(h:∀q∈rs,fO n p o sh q):(eY n p o sh rs).length=rs.length*aT n p o sh:=by
 induction rs with
 |nil=>simp[eY]
 |cons q rs c =>
  have:=c λx a=>h x (by simp[a]);have b:=AK (h q (by simp));unfold eY at this ⊢;rw[Wl,nv,this,z6,IA,b];unfold aT;omega
def kj {sh:Nat}{rs:List R4}(h:∀q∈rs,fO n p o sh q):(eO rs).length=rs.length*aT n p o sh:=by unfold eO;rw[kT (n:=aT n p o sh) (λw hw=>by obtain⟨q,a,rfl⟩:=nP.mp hw;exact(h q a).wl),qV]
def Fp {sh:Nat}(a:n<=5)(d:p<=4):aT n p o sh<=30:=by have:=gC (n:=n) (o:=o) (sh:=sh);unfold aT;omega
structure Lk (n p o tg sh mo:Nat)(w h b s r kq c:Nat)(ex st rd:List D)(B:Int)(g0:G)(rs:List R4)(g:G):Prop where
 V:Wv n p w h b s r kq ex (st++eY n p o sh rs) (rd++eO rs) (B+700*rs.length) g
 hc:g[c]? = some (cq (cE (rs.map (de n o tg sh)) rs.length) n)
 all:∀q∈rs,fO n p o sh q
 go:∀k,k<rs.length->cG (.int mo) (rs.map (de n o tg sh)) k
 lt:∀j,j<n->cE (rs.map (de n o tg sh)) rs.length j<mo
 fr:cx [w,h,b,s,r,c] g0 g
def QG {q:R4}(h:p∈de n o s b q):p<n:=(fR.mp (EZ.mp h).1).1
def Lk.cC (L:Lk n p o Z Q K w J b s r y c A st j i a R g)(l:n<=5)(u:K<=4):R.length<=15:=by
 have e:=AN (mv:=.int K) (ps:=R.map (de n o Z Q)) (n:=n) (λp d h mo=>by obtain⟨q,_,rfl⟩:=nP.mp d;exact QG mo) (k:=R.length) (by simp) L.go;have v:=Fb (f:=cE (R.map (de n o Z Q)) R.length) (m:=3) n λh mo=>by have:=L.lt h mo;omega
 omega
structure Qd (n p o tg sh mo:Nat)(w h b s r kq c:Nat)(ex st rd:List D)(B:Int)(g0:G)(rs:List R4)(q:R4)(en:Option Nat)(v:D)(g:G):Prop where
 V:Wv n p w h b s r kq ex (st++eY n p o sh (rs ++ [q])++qw en) (rd++eO (rs ++ [q])++jO v en) (B+700*(rs.length+1)+31) g
 all:∀q∈rs,fO n p o sh q
 last:fO n p o sh q
 cC:rs.length<=15
 go:∀k,k<rs.length->cG (.int mo) ((rs ++ [q]).map (de n o tg sh)) k
 ends:gB (.int mo) ((rs ++ [q]).map (de n o tg sh)) rs.length en
 en:∀j,en=some j->j<n/\nX p v
 fr:cx [w,h,b,s,r,c] g0 g
def QH {c d e f:D}:eI [v,m,c,d,e,f] 1=some m:=rfl
def XI {c d e f:D}:eI [v,m,c,d,e,f] 5=some f:=rfl
noncomputable def kW (w o c:Nat)(m:D)(x y z:Option D):Sg:=[some (.az w),some (.int o),some m,some (.ref c),x,y,z]
def Hx (u:lO n p o h T w c b s r Q A j)(V:Wv n p w c b s r Q A st f i g)(x:i+31<2 ^ 40)(e:Z<n)(sz:st.length<=800)(y:f.length<=800):
  ∃v q,h [.az w,own "view" Z] g=some (v,q)/\nX p v/\Wv n p w c b s r Q A (st ++ [.tup [.str "read",own "view" Z]]) (f ++ [v]) (i+31) q/\cx [w,c,b,s,r] g q :=
 Qm u.U9 V x ⟨Z,rfl⟩ (.inr (.inl ⟨Z,e,rfl⟩)) yt (λex a=>by obtain⟨B,rfl,_,c⟩:=a;simp only[flat];exact gj λd hd=>(c d hd).1) sz y
def Tf {tg:Nat}{sh:Nat}{mo:Nat}(O:lO n p o h T w Z b s r Q A Y){f:Nat->Nat}{o4 o5 o6:Option D}(V:Wv n p w Z b s r Q A st j i g)(C:g[c]? = some (cq f n))(I:n<=5)(E:i+31<2 ^ 40)(sz:st.length<=800)(H:j.length<=800):mX (QE h (kW w o c (bw n p tg sh mo) o4 o5 o6) g) λx=>(∃B v,B<n/\mo<=f B/\(∀ex,ex<B->f ex<mo)/\x.1 = .rt v/\nX p v/\Wv n p w Z b s r Q A (st ++ [.tup [.str "read",own "view" B]]) (j ++ [v]) (i+31) x.2.2/\cx [w,Z,b,s,r] g x.2.2)\/(x.1 = .nx/\x.2.2=g/\(∀ex,ex<n->f ex<mo) /\ ∃J,x.2.1=kW w o c (bw n p tg sh mo) o4 o5 J):=by
 unfold QE;rw[iq,h_ (n:=n) (g1:=g) (by simp[kW,gS,bD,QH]) (by omega),m5];refine fQ (λB M l=>l=g/\(∀ex,ex<B->f ex<mo) /\ ∃J,M=kW w o c (bw n p tg sh mo) o4 o5 J) _ 0 _ _ ⟨rfl,λex R=>by omega,o6,rfl⟩ ?_ ?_
 . rintro B d M l z ⟨rfl,q,J,rfl⟩
   obtain⟨u,rfl⟩:=di z;simp only[vU]at *;have u:B<n:=by simpa using u
   refine⟨(kW w o c (bw n p tg sh mo) o4 o5 (some (.int B)),l),rfl,?_⟩;dsimp only;have a:=gp (iC (f:=f) u);have t:ay (ag zD (ag ao cT ef) (ag ao b0 lU)) (kW w o c (bw n p tg sh mo) o4 o5 (some (.int B))) l=some (decide (mo<=f B),l):=by have e:((mo:Int)<=(f B:Int))=(mo<=f B):=propext (by omega);simp[kW,gS,bD,C,a,XI,fL,e]
   by_cases hm:mo<=f B
   . rw[decide_eq_true hm]at t
     refine qQ (Hx O V E u sz H) λv U X y V2 f2=>?_;have ec:aj h (ae bR (ae (aJ aB (ae fw (ae ef af))) af)) (kW w o c (bw n p tg sh mo) o4 o5 (some (.int B))) l=some (v,U):=X;exact⟨_,(nB t).trans (fu ec),.inl ⟨B,v,u,hm,q,rfl,y,V2,f2⟩⟩
   . rw[decide_eq_false hm]at t
     refine⟨_,(eQ t).trans rfl,rfl,λex R=>?_,_,rfl⟩;by_cases e:ex=B
     . subst e;omega
     . exact q ex (by omega)
 . rintro M l ⟨rfl,q,J,rfl⟩
   rw[cz,vU]at q;exact .inr ⟨rfl,rfl,q,J,rfl⟩
noncomputable def pW (n p o y c mo w h b s r C:Nat)(ex:List D)(round:Fn):Prop:=∀{st u:List D} {B:Int} {g:G},Wv n p w h b s r C ex st u B g->B+1000<2 ^ 40->st.length<=600->u.length<=600->∃i fs q v x,round [.az w,.int o,bw n p y c mo] g=some (.tup [.lst q,.lst (dN (eN n o y c i fs q v))],x)/\Rg n p o c i fs q v/\Wv n p w h b s r C ex (st++yd n p o c i) (u++bF i fs q v) (B+700) x/\cx [w,h,b,s,r] g x
def Tg {tg:Nat}{sh:Nat}{mo:Nat}{h:Nat}{g0:G}{round:Fn}{rs:List R4}(N:pW n p o tg sh mo w h b s r Z A round)(mv:lO n p o T M w h b s r Z A j)(J:n<=5)(I:p<=4)(O:1<=mo)(K:mo<=4)(E:c ∉ [w,h,b,s,r])(H:c≠Z)(Q:i+20000<2 ^ 40)(sz:st.length<=100)(P:f.length<=100){o4 o5 o6:Option D}(L:Lk n p o tg sh mo w h b s r Z c A st f i g0 rs g):
   mX (QF round T (kW w o c (bw n p tg sh mo) o4 o5 o6) g) λx=>(∃q en v,x.1 = .rt (qx q.2.2.1 v en)/\Qd n p o tg sh mo w h b s r Z c A st f i g0 rs q en v x.2.2)\/(x.1 = .nx/\(∃q,Lk n p o tg sh mo w h b s r Z c A st f i g0 (rs ++ [q]) x.2.2) /\ ∃I p5 p6,x.2.1=kW w o c (bw n p tg sh mo) I p5 p6):=by
 have cC:=L.cC J K;have ar:=Fp (o:=o) (sh:=sh) J I;have hmul:rs.length*aT n p o sh<=15*30:=ae9 cC ar;have s1:=mN L.all;have r1:=kj L.all;refine Xs (N L.V (by omega) (by rw[nv];omega) (by rw[nv];omega)) λks fs ss cs g1 e1 R V1 f1=>?_;have QC:st++eY n p o sh rs++yd n p o sh ks=st++eY n p o sh (rs ++ [(ks,fs,ss,cs)]):=by simp[eY]
 have QD:f++eO rs++bF ks fs ss cs=f++eO (rs ++ [(ks,fs,ss,cs)]):=by simp[eO,d5]
 rw[QC,QD,show i+700*(rs.length:Int)+700=i+700*((rs.length:Int)+1) by omega]at V1;have wZ:=(f1.2 c E).trans L.hc;have gG:c<g1.length:=(mT.mp wZ).1;have u:∀U∈eN n o tg sh ks fs ss cs,U<n:=λU B=>(fR.mp (EZ.mp B).1).1;have ah:=sX (n:=n) (o:=o) (tg:=tg) (sh:=sh) (ks:=ks) (fs:=fs) (ss:=ss) (cs:=cs);have aq:=L.lt;have ep:(rs ++ [(ks,fs,ss,cs)]).map (de n o tg sh)=rs.map (de n o tg sh) ++ [eN n o tg sh ks fs ss cs]:=by simp[de]
 have lp:(rs.map (de n o tg sh)).length=rs.length:=by simp
 have Y:∀k,k<rs.length->cG (.int mo) ((rs ++ [(ks,fs,ss,cs)]).map (de n o tg sh)) k:=λk H=>by rw[ep];exact Hr (by rw[lp];exact H) (L.go k H)
 have U_:cx [w,h,b,s,r,c] g0 g1:=L.fr.trans ⟨f1.1,λU B=>f1.2 U λz=>B (ade [c] z)⟩;have l:((rs ++ [(ks,fs,ss,cs)]).map (de n o tg sh)).getD rs.length []=eN n o tg sh ks fs ss cs:=by rw[ep,<- lp];exact baN
 have y:cE ((rs ++ [(ks,fs,ss,cs)]).map (de n o tg sh)) (rs.length+1)=cM (cE (rs.map (de n o tg sh)) rs.length) (eN n o tg sh ks fs ss cs):=by funext ex;simp only[cE,cM];rw[l,ep,rg (by rw[lp];exact nc _)]
 have sL:(st++eY n p o sh (rs ++ [(ks,fs,ss,cs)])).length<=700:=by
   have:=mN (rs:=rs ++ [(ks,fs,ss,cs)]) (n:=n) (p:=p) (o:=o) (sh:=sh) λq E=>by
     rcases nQ.mp E with z|z
     . exact L.all q z
     . simp at z;subst z;exact R
   rw[nv,this,nv,L3,IA];omega
 have rL:(f++eO (rs ++ [(ks,fs,ss,cs)])).length<=700:=by
   have:=kj (rs:=rs ++ [(ks,fs,ss,cs)]) (n:=n) (p:=p) (o:=o) (sh:=sh) λq E=>by
     rcases nQ.mp E with z|z
     . exact L.all q z
     . simp at z;subst z;exact R
   rw[nv,this,nv,L3,IA];omega
 generalize eN n o tg sh ks fs ss cs=X at *;generalize cE (rs.map (de n o tg sh)) rs.length=C at *;refine cX (σ1:=kW w o c (bw n p tg sh mo) (some (.lst ss)) (some (.lst (dN X))) o6) (g1:=g1) (by simp[kW,e1,U0]) ?_;by_cases h0:X = []
 . subst h0
   have zs:ax ss.length=true:=aH (by rw[R.sl];omega);have cm:=fF (t:=gN 1) (c:=cN) (e:=ag ao bg dV) (h:=RI) (λσ=>∃a,σ = [none,a]) ss [none,none] g1 ⟨_,rfl⟩ (by rintro t hm σ ⟨a,rfl⟩;obtain⟨v,a,t,rfl,hv⟩:=R.sa t hm;exact⟨[none,some (.tup [v,.int a,.int t])],by simp,by simp,by simp[gS,bD,Jd];rfl,⟨_,rfl⟩⟩)
   refine⟨_,iV (g1:=g1) (d:=.tup (ss.map RI)) (g2:=g1) rfl (by simp[kW,dg,bD,bZ,zs,cm,bA]),.inl ⟨(ks,fs,ss,cs),none,.aA,rfl,?_,L.all,R,cC,Y,l,(λU z=>by cases z),U_⟩⟩;simp only[qw,jO,wz];exact V1.mono (by omega)
 . have q:oEq (.lst (dN X)) (.lst []) g1=some (.bl false,g1):=by
     have fl:aS (dN X)=true:=gj λd hd=>by simp only[dN,nP]at hd;obtain⟨U,_,rfl⟩:=hd;rfl
     have dl:bG (dN X)<=5:=mK λd hd=>by simp only[dN,nP]at hd;obtain⟨U,_,rfl⟩:=hd;simp[dep]
     obtain⟨x,xs,A⟩:=afz (λz=>h0 (ag1.mp z):dN X ≠ []);rw[A]at fl dl ⊢;have d2:dep (.lst (x::xs))<=60:=by simp only[dep];omega
     have f3:flat x=true/\aS xs=true:=by simpa[aS]using fl
     simp[oEq,d2,flat,aS,bq,gK,f3]
   obtain⟨p6,i1⟩:=ym (n:=n) (c:=c) (a0:=.az w) (a1:=.int o) (a2:=bw n p tg sh mo) (a4:=.lst ss) (a5:=.lst (dN X)) X C g1 o6 u ah wZ;refine cX (σ1:=kW w o c (bw n p tg sh mo) (some (.lst ss)) (some (.lst (dN X))) o6) (g1:=g1) ?_ (cX (f1:=dF (dg d4) (gN 6) yk) i1 ?_)
   . rw[eQ (g1:=g1)];· rfl
     rw[cD];exact congrArg fL q
   have V2:=V1.other E H (xs:=cq (cM C X) n) vb;have kZ:=t7 (a:=cq (cM C X) n) gG;have Va:cx [w,h,b,s,r,c] g0 (g1.set c (cq (cM C X) n)):=U_.trans (cx.set (by simp));refine MN (Tf (tg:=tg) (sh:=sh) (mo:=mo) (o4:=some (.lst ss)) (o5:=some (.lst (dN X))) (o6:=p6) mv V2 kZ J (by omega) (by omega) (by omega)) λx hx=>?_;rcases hx with⟨U,v,B,hm,bK,QI,pv,V3,f3⟩|⟨wL,hg,bK,p6',hσ⟩
   . refine .inl ⟨(ks,fs,ss,cs),some U,v,QI,?_⟩
     have lt:=aq U B;have jm:U∈X/\cM C X U=mo:=by
       unfold cM at hm ⊢;by_cases z:U∈X
       . rw[if_pos z]at hm ⊢;exact⟨z,by omega⟩
       . rw[if_neg z]at hm;omega
     have HN:cx [w,h,b,s,r,c] g0 x.2.2:=Va.trans ⟨f3.1,λU B=>f3.2 U λz=>B (ade [c] z)⟩;refine⟨V3,L.all,R,cC,Y,⟨by rw[l];exact h0,?_,λk Jo=>?_⟩,(λex z=>by cases z;exact⟨B,pv⟩),HN⟩
     . rw[l,y];exact ue.mpr jm
     . rw[l,y]at Jo
       obtain⟨_,k2⟩:=ue.mp Jo;by_cases z:U<=k
       . exact z
       . have:=bK k (by omega);omega
   . refine .inr ⟨wL,⟨(ks,fs,ss,cs),?_⟩,_,_,p6',hσ⟩
     rw[hg];have ll:(rs ++ [(ks,fs,ss,cs)]).length=rs.length+1:=by simp
     refine⟨by rw[ll,ah1];exact V2,by rw[ll,y];exact kZ,λq cb=>?_,λk Jo=>?_,by rw[ll,y];exact bK,Va⟩
     . rcases nQ.mp cb with z|z
       . exact L.all q z
       . simp at z;subst z;exact R
     . rw[ll]at Jo
       by_cases z:k<rs.length
       . exact Y k z
       . obtain rfl:k=rs.length:=by omega
         refine⟨by rw[l];exact h0,?_⟩;rw[l,y];refine List.filter_eq_nil_iff.mpr λU B ab=>?_;have aG:=ue.mp (EZ.mpr ⟨B,ab⟩);have:=bK U (u U B);omega
theorem AX (Y:pW n p o Z Q K w J b s r y A M)(rd:lO n p o h T w J b s r y A j)(u:n<=5)(C:p<=4)(z:1<=K)(l:K<=4)(x:c ∉ [w,J,b,s,r])(mo:c≠y)(I:i+20000<2 ^ 40)(sz:st.length<=100)(H:f.length<=100):∀(O B:Nat) (rs:List R4) (g:G) (o4 o5 o6:Option D),O<B->16<=rs.length+O->Lk n p o Z Q K w J b s r y c A st f i a rs g ->
  ∃X q en v R U,k9 (ia jP) (QF M h) B (kW w o c (bw n p Z Q K) o4 o5 o6) g=some (.rt (qx q.2.2.1 v en),R,U)/\Qd n p o Z Q K w J b s r y c A st f i a X q en v U
 | 0,B+1,rs,g,o4,o5,o6,hf,hr,L=>by have:=L.cC u l;omega
 |O+1,B+1,rs,g,o4,o5,o6,hf,hr,L=>by
  obtain⟨⟨tg,sh,ex⟩,A,mv⟩:=Tg (o4:=o4) (o5:=o5) (o6:=o6) Y rd u C z l x mo I sz H L;rcases mv with⟨q,en,v,QI,E⟩|⟨wL,⟨q,L'⟩,QK,p5,p6,hσ⟩
  . cases QI
    exact⟨rs,q,en,v,sh,ex,B9 rfl A,E⟩
  . cases wL
    cases hσ;obtain⟨X,d,en,v,R,U,e,E⟩:=AX Y rd u C z l x mo I sz H O B (rs ++ [q]) ex QK p5 p6 (by omega) (by simp;omega) L';exact⟨X,d,en,v,R,U,(B8 rfl A).trans e,E⟩
def AY (i:∀x∈A,BC x)(f:∀j,H=some j->j<n/\nX p v):flat (qx A v H)=true/\dep (qx A v H)<=50:=by
 have c:∀l:List D,(∀d∈l,vG d)->flat (.tup l)=true/\dep (.tup l)<=50:=λl b=>by refine⟨by simp only[flat];exact gj λd hd=>(b d hd).1,?_⟩;have:=mK (k:=10) λd hd=>rK (b d hd).2 (by decide);simp only[dep];omega
 cases H with
 |none =>
  refine c _ λd hd=>?_;obtain⟨x,e,rfl⟩:=nP.mp hd;obtain⟨v,a,t,rfl,b⟩:=i x e;exact b
 |some j =>
  obtain⟨_,g,rfl,_,h⟩:=f j rfl;exact c g h
structure E_ (n p o tg sh mo:Nat)(w h b s r kq:Nat)(ex st rd:List D)(B:Int)(g:G)(rs:List R4)(q:R4)(en:Option Nat)(v:D)(g':G):Prop where
 V:Wv n p w h b s r kq ex (st++eY n p o sh (rs ++ [q])++qw en) (rd++eO (rs ++ [q])++jO v en) (B+12000) g'
 all:∀q∈rs,fO n p o sh q
 last:fO n p o sh q
 cC:rs.length<=15
 go:∀k,k<rs.length->cG (.int mo) ((rs ++ [q]).map (de n o tg sh)) k
 ends:gB (.int mo) ((rs ++ [q]).map (de n o tg sh)) rs.length en
 en:∀j,en=some j->j<n/\nX p v
 fr:cx [w,h,b,s,r] g g'
def LN {tg:Nat}{sh:Nat}{mv:List D}(H:pW n p o tg sh Z w Q b s r K A M)(U:lO n p o h T w Q b s r K A mv)(X:n<=5)(J:p<=4)(I:1<=Z)(C:Z<=4)(ex:i+20000<2 ^ 40)(V:Wv n p w Q b s r K A st f i g)(sz:st.length<=100)(L:f.length<=100):
  ∃rs q en v O,ak false 7 3 (Jn M h) [.az w,.int o,bw n p tg sh Z] g=some (qx q.2.2.1 v en,O)/\E_ n p o tg sh Z w Q b s r K A st f i g rs q en v O:=by
 obtain⟨Y,lh,lb,ls,lr,lk⟩:=V.Jk;have hq:g.length ∉ [w,Q,b,s,r]:=B6 Y lh lb ls lr (nc _);have l:fA (n:Int)=true:=fA.of (by omega) (by omega);have zn:ax n=true:=aH (by omega);have V0:=V.push (xs:=[cq (λ_=>0) n]) λx a=>by simp at a;subst a;exact vb
 have z:Lk n p o tg sh Z w Q b s r K g.length A st f i (g ++ [cq (λ_=>0) n]) [] (g ++ [cq (λ_=>0) n]):=⟨by simpa[eY,eO]using V0,by simp;rfl,by simp,by simp,λj _=>by show 0<Z;omega,.refl⟩
 obtain⟨rs,q,en,v,σ',R,e,E⟩:=AX (c:=g.length) H U X J I C hq (by omega) ex sz L 16 1000000 [] (g ++ [cq (λ_=>0) n]) none none none (by omega) (by simp) z;obtain⟨ff,dd⟩:=AY E.last.sa E.en;have ab:R.length=g.length+1:=by rw[E.fr.1];simp
 obtain⟨u,y⟩:=V.pop E.V (by omega) λmo eJ B=>by rw[E.fr.2 mo (ij B (by omega)),r_ eJ]
 have cC:=E.cC;have main:mX (ak false 7 3 (Jn M h) [.az w,.int o,bw n p tg sh Z] g) λx=>x=(qx q.2.2.1 v en,R.take g.length):=by
  refine mf rfl ?_;have s1:aF (ag lA (aJ dP (ae dV af)) (ag ao b0 cP)) (gN 3) ([D.az w,.int o,bw n p tg sh Z].map some++nN (7-3) none) g=some (.nx,[some (.az w),some (.int o),some (bw n p tg sh Z),some (.ref g.length),none,none,none],g ++ [cq (λ_=>0) n]):=by rw[<- rep0];have z1:ax 1=true:=rfl;simp[gS,bD,QH,z1,lA,l,zn]
  unfold Jn;rw[jL s1];refine⟨_,e,?_⟩;dsimp only;refine⟨cw _ ff,?_,by omega,rfl⟩;rw[IU];intro x a;obtain⟨mo,B⟩:=TR.mp a;have:=u.bd mo x B;rw[y.1]at this;exact this
 obtain⟨x,d,rfl⟩:=main;exact⟨rs,q,en,v,_,d,u.mono (by omega),E.all,E.last,cC,E.go,E.ends,E.en,y⟩
def Jp (a:n<R.length):R=R.take n++R[n]::R.drop (n+1):=by rw[<- VX a,agu]
def QL (h:∀q∈R,fO n p o Z q)(d:s<R.length)(f:b<aT n p o Z):(eY n p o Z R)[s*aT n p o Z+b]? = (yd n p o Z R[s].1)[b]?:=by
 have g:(eY n p o Z (R.take s)).length=s*aT n p o Z:=by rw[mN λq a=>h q (NS a),Cu];congr 1;omega
 have c:(yd n p o Z R[s].1).length=aT n p o Z:=AK (h _ (Cv d));have e:eY n p o Z R=eY n p o Z (R.take s)++(yd n p o Z R[s].1++eY n p o Z (R.drop (s+1))):=by refine(congrArg (eY n p o Z) (Jp d)).trans ?_;unfold eY;rw[ag2,Wl]
 rw[e,Fq (by omega),g,aen,r_ (by omega)]
def Hy {sh:Nat}(h:∀q∈R,fO n p o sh q)(d:s<R.length)(f:b<aT n p o sh):(eO R).take (s*aT n p o sh+b)=((R.take s).map d5).flatten++(d5 R[s]).take b:=by
 have g:(((R.take s).map d5).flatten).length=s*aT n p o sh:=by have:=kj (n:=n) (p:=p) (o:=o) (sh:=sh) (rs:=R.take s) λq a=>h q (NS a);rw[Cu,Nat.min_eq_left (by omega)]at this;exact this
 have c:(d5 R[s]).length=aT n p o sh:=(h _ (Cv d)).wl;have e:eO R=((R.take s).map d5).flatten++(d5 R[s]++eO (R.drop (s+1))):=by refine(congrArg eO (Jp d)).trans ?_;unfold eO;rw[UA,yp,List.flatten_append,PK]
 rw[e,ahO,g,aen,Vu (by omega),ahO,c,Nat.sub_eq_zero_of_le (by omega),aim,wz]
noncomputable abbrev QM (num g c colF:Fn)(Rr h:Str->Option Fn)(nm nm2:Str):Fn:=ak false 6 3 (u9 num g c (ak false 10 5 (hZ Rr)) (ak false 6 3 (uZ c colF (ak false 5 4 (nT h)) nm2)) (ak false 4 3 (jW g c)) nm va)
def Hz {q:R4}(hR:Rr x=some (c_ (cj 2 1 (o_ (mL h T M t)))))(num:u nm2=some (c_ (cj 0 1 bR)))(S:iB m n p o s b Z h T M t)(I:∀g,e [m] g=some (.tup (cJ p),g))(all:∀r∈R,fO n p o b r)(A:fO n p o b q)(cC:R.length<=15)(E:∀k,k<R.length->cG (.int Z) ((R ++ [q]).map (de n o s b)) k)(B:gB (.int Z) ((R ++ [q]).map (de n o s b)) R.length H)(i:Nat)(C:i<(eO (R ++ [q])++jO v H).length):
   ∃O J,(eY n p o b (R ++ [q])++qw H)[i]? = some O/\QM h T t e Rr u x nm2 [m,.int o,.tup ((eO (R ++ [q])++jO v H).take i)] g=some (.tup [O,J],g):=by
 have en:∀r∈R ++ [q],fO n p o b r:=λr a=>by
   rcases nQ.mp a with a|a
   . exact all r a
   . simp at a;subst a;exact A
 have p1:=S.p1;have sp:1<=aT n p o b:=by unfold aT;omega
 have rl:=kj en;have mo:=mN en;by_cases Q:i<(eO (R ++ [q])).length
 . rw[rl,nv,L3]at Q
   have l:i / aT n p o b<R.length+1:=Nat.div_lt_of_lt_mul (by rw[WM];exact Q);have hm:i % aT n p o b<aT n p o b:=Nat.mod_lt _ (by omega);have d:i=i / aT n p o b*aT n p o b+i % aT n p o b:=by rw[WM];exact(Nat.div_add_mod i _).symm
   have z:(eY n p o b (R ++ [q])++qw H)[i]? = (eY n p o b (R ++ [q]))[i]?:=r_ (by rw[mo,nv,L3];exact Q);have U:(eO (R ++ [q])++jO v H).take i=(eO (R ++ [q])).take i:=aeY (by rw[rl,nv,L3];omega);rw[z,U];generalize i / aT n p o b=k at l d;generalize i % aT n p o b=j at hm d;subst d;have f:k<(R ++ [q]).length:=by simpa using l
   have W:lF n p o b ((R ++ [q]).take k):=⟨λp Y=>en p (NS Y),by rw[Cu];omega⟩
   obtain⟨O,J,hx,ex⟩:=Ce (g:=g) (scF:=ak false 4 3 (jW T t)) (X:=va) hR num S I W (r:=(R ++ [q])[k]) (en _ (Cv f)) hm (λc y=>by rw[Cu]at y;rw[List.map_take];exact Fd (by omega) (E c (by omega)))
   refine⟨O,J,by rw[QL en f hm];exact hx,?_⟩;rw[Hy en f hm];exact ex
 . cases H with
   |none=>simp[jO]at C;omega
   |some j =>
     have d:i=(eO (R ++ [q])).length:=by simp[jO]at C;omega
     subst d;rw[ael];obtain⟨J,sh⟩:=Cf (g:=g) (step:=ak false 6 3 (uZ t e (ak false 5 4 (nT u)) nm2)) (scF:=ak false 4 3 (jW T t)) hR S ⟨all,by omega⟩ A (by omega) E B;refine⟨_,J,?_,sh⟩;rw[rl,<- mo,Fq (nc _),UH];rfl
def LO {sh:Nat}{colF:Fn}{rs:List R4}{R':Str->Option Fn}{q:R4}{rest:List D}(hR:Rr x=some (c_ (cj 2 1 (o_ (mL h T M t)))))(S:iB m n p o s sh b h T M t)(e:H≠none->flat v=true)(en:∀mo∈rest,flat mo=true)(all:∀r∈rs,fO n p o sh r)(a:fO n p o sh q)(cC:rs.length<=15)(d:∀k,k<rs.length->cG (.int b) ((rs ++ [q]).map (de n o s sh)) k)(c:gB (.int b) ((rs ++ [q]).map (de n o s sh)) rs.length H):
  QM h T t colF Rr R' x nm2 [m,.int o,.tup (eO (rs ++ [q])++jO v H++rest)] g=some (.tup [.tup [.str "told",qx q.2.2.1 v H],.int ((eO (rs ++ [q])++jO v H).length:Nat)],g):=by
 have rl:=kj (n:=n) (p:=p) (o:=o) (sh:=sh) (rs:=rs ++ [q]) λr en=>by
  rcases nQ.mp en with en|en
  . exact all r en
  . simp at en;subst en;exact a
 cases H with
 |none =>
  have i:=yL (g:=g) (X:=va) (step:=ak false 6 3 (uZ t colF (ak false 5 4 (nT R')) nm2)) hR S ⟨all,by omega⟩ a (by omega) (rest:=rest) en d c;rw[show jO v none = [] from rfl,wz,rl,nv,L3];exact i
 |some j =>
  have i:=Cg (g:=g) (step:=ak false 6 3 (uZ t colF (ak false 5 4 (nT R')) nm2)) (scF:=ak false 4 3 (jW T t)) hR S ⟨all,by omega⟩ a (by omega) (rest:=rest) (e (by simp)) en d c;rw[Fm,nv,rl,nv,L3];exact i
noncomputable def Vb (take a:Fn):FS:=aF (aJ aB (ae (aj a (ae bR af)) (ae (ag (cu eE (· - ·)) (aj take (ae bR (ae (ag bf cT cP) af))) cP) (ae (aj take (ae bR (ae ej af))) af)))) (dC d4 (aJ aB (ae fh (ae ef af))))
noncomputable def Vc (a:Fn):FS:=aF (aj a (ae bR (ae ee af))) (dC d4 (aJ aB (ae fw (ae eW af))))
noncomputable def Fs (take:Fn)(nm:Str):FS:=aF (aj take (ae bR (ae ej af))) (dC d4 (aJ aB (ae (fC (.str nm)) (ae eW (ae eX af)))))
noncomputable def HA (take a:Fn):FS:=dF (dX (ae ee af)) (gN 6) (Vb take a)
noncomputable def HB (take a:Fn):FS:=dF (dX (ae cT af)) (gN 7) (aw (Vc a) (dF (dX (ae cT af)) (gN 8) (aw (Fs take "sign") (Fs take "call"))))
noncomputable def bσ (h:Nat)(m:D)(o n p b:Nat)(c g i q:Option D):Sg:=[some (.ref h),some m,some (.int o),some (.int n),some (.int p),some (.az b),c,g,i,q]
structure BgB (n p b:Nat)(K:D->Prop)(N:Nat)(g:G)(bx:List D):Prop where
 hx:g[b]? = some bx
 ka:dH bx=true
 bl:bx.length<=2*N
 nb:aC 0 bx=true
 al:∀key,aU 6 key=true->K key->∃c,aI bx key=some c/\typ n p key c
structure Bg (n p h b:Nat)(B:Int)(K:D->Prop)(N:Nat)(g:G):Prop where
 bx:∃bx,BgB n p b K N g bx
 hd:Hd g h (B+12*N)
 bd:Bd g
 len:g.length=b+1
def Bg.put (I:Bg n p o b i q s g)(M:o<b){c key:D}(f:o3 o g a)(z:Hd a o (i+12*s+12))(y:aU 6 key=true)(h:flat c=true)(H:typ n p key c)(O:s<=100){A:FE}(E:C d g=some (c,a))(L:A d a=some (key,a))(J:d[5]? = some (some (.az b))):
   ∃Q,aF C (dC d4 A) d g=some (.nx,d,Q)/\Bg n p o b i (λk=>q k\/k=key) (s+1) Q:=by
 obtain⟨bx,r,K,x,nb,al⟩:=I.bx;have e:b≠o:=by omega
 have u:a[b]? = some bx:=by rw[f.2 _ e];exact r
 have U:iy bx=true:=by unfold iy;exact aH (by omega)
 have lt:b<a.length:=by rw[f.1,I.len];omega
 have l:bU 0 c=true:=cw _ h;have B:bU 0 key=true:=cw _ (fH key y).1;refine⟨a.set b (aQ bx key c),?_,⟨_,t7 lt,kS y K,?_,jr B l nb,λR j N=>?_⟩,?_,?_,?_⟩
 . rw[kh,E]
   simp[J,L,u,y,U]
 . have:=yh (k:=key) (v:=c) (xs:=bx);omega
 . by_cases C:R=key
   . subst C;exact⟨c,iz y K,H⟩
   . rw[mH y j (n7 C) K]
     exact al R j (N.resolve_right C)
 . have:=Hd.ne (xs:=aQ bx key c) z e
   rw[show i+12*((s+1:Nat):Int)=i+12*s+12 by omega];exact this
 . exact(I.bd.fr f z).set (eu (tc _) (jr B l nb))
 . rw[QJ,f.1,I.len]
def Bg.weak {K:D->Prop}(I:Bg n p o b i K s g)(r:∀k,q k->K k):Bg n p o b i q s g:=by obtain⟨f,c,l,a,d,j⟩:=I.bx;exact⟨⟨f,c,l,a,d,λu h e=>j u h (r u e)⟩,I.hd,I.bd,I.len⟩
section
variable {o7 o8 o9:Option D}
theorem Bg.box (z:cU h)(E:jM T)(I:Bg n p s b i q Z g)(A:s<b)(J:i+3000<2 ^ 40)(C:Z<=100)(H:n<=5){k:Nat}:∃O,Vb h T (bσ s m o n p b (some (.int k)) o7 o8 o9) g=some (.nx,bσ s m o n p b (some (.int k)) o7 o8 o9,O)/\Bg n p s b i (λx=>q x\/x=own "box" k) (Z+1) O:=by
 refine qQ (E s g _ (by omega) I.hd) λv Q N a e R=>?_;refine gM (z s ((n:Int)+1) Q _ (by omega) (by omega) (by omega) e) λx U j Y take M X=>?_;refine gM (z s 2 U _ (by omega) (by decide) (by decide) M) λy g3 d u r f B=>?_;refine I.put A ((R.trans X).trans B) (f.mono (by omega)) (c:=.tup [v,.int (x-1),.int y]) (key:=own "box" k) rfl (by simp[flat,aS,a.1]) ?_ C ?_ rfl rfl
 . rw[uf];exact⟨v,x-1,y,rfl,a,by omega,by omega⟩
 . have l:ax 3=true:=rfl
   simp[bσ,N,j,d,l]
end
section
variable {B:Int}{o6 o8 o9:Option D}
theorem Bg.view (l:ju h)(I:Bg n p s b B q Z g)(N:s<b)(u:B+3000<2 ^ 40)(r:Z<=100)(state:p<=4){i:Nat}:∃v,Vc h (bσ s m o n p b o6 (some (.int i)) o8 o9) g=some (.nx,bσ s m o n p b o6 (some (.int i)) o8 o9,v)/\Bg n p s b B (λx=>q x\/x=own "view" i) (Z+1) v:=by
 refine gM (l s p g _ (by omega) (by omega) I.hd) λy E j f a e C=>?_;refine I.put N C (e.mono (by omega)) (c:=.tup y) (key:=own "view" i) rfl (by simp only[flat];exact gj λd hd=>(a d hd).1) ?_ r ?_ rfl rfl
 . rw[yt];exact⟨y,rfl,f,a⟩
 . simp[bσ,j]
end
def Bg.bit {B:Int}{o6:Option D}{o9:Option D}{nm:Str}(r:aU 6 (.tup [.str nm,.int (0:Int),.int (0:Int)])=true)(N:cU h)(I:Bg n p s b B q Z g)(f:s<b)(take:B+3000<2 ^ 40)(l:Z<=100){i j:Nat}:∃u,Fs h nm (bσ s m o n p b o6 (some (.int i)) (some (.int j)) o9) g=some (.nx,bσ s m o n p b o6 (some (.int i)) (some (.int j)) o9,u)/\Bg n p s b B (λx=>q x\/x = .tup [.str nm,.int i,.int j]) (Z+1) u:=by refine gM (N s 2 g _ (by omega) (by decide) (by decide) I.hd) λx y d C e a v=>?_;refine I.put f v (a.mono (by omega)) (c:=.int x) (key:=.tup [.str nm,.int i,.int j]) rfl rfl ⟨x,rfl⟩ l ?_ rfl rfl;simp[bσ,d]
noncomputable def Kv (n p i j:Nat)(g:D):Prop:=(∃k,k<p/\g=own "box" k)\/(∃k,(k<i\/k=i/\0<j)/\g=own "view" k)\/(∃a c,(a<i/\c<n\/a=i/\c+1<j)/\g=cI a c)\/(∃a c,(a<i/\c<n\/a=i/\c+1<j)/\g=eU a c)
def LP (C:cU h)(x:jM T)(I:Bg n p s b i (λ_=>False) 0 g)(v:s<b)(A:i+3000<2 ^ 40)(y:n<=5)(E:p<=4):mX (HA h T (bσ s m o n p b none none none none) g) λr=>r.1 = .nx/\(∃J,r.2.1=bσ s m o n p b J none none none)/\Bg n p s b i (Kv n p 0 0) p r.2.2:=by
 unfold HA;rw[iq,h_ (n:=p) (g1:=g) rfl (by omega),m5];refine fQ (λk M l=>(∃J,M=bσ s m o n p b J none none none)/\Bg n p s b i (λH=>∃B,B<k/\H=own "box" B) k l) _ 0 _ _ ⟨⟨none,rfl⟩,I.weak λk f=>by obtain⟨B,u,_⟩:=f;omega⟩ ?_ ?_
 . rintro k d M l f ⟨⟨J,rfl⟩,j⟩
   obtain⟨q,rfl⟩:=di f;simp only[vU]at *;have q:k<p:=by simpa using q
   obtain⟨O,e,take⟩:=Bg.box (m:=m) (o:=o) (o7:=none) (o8:=none) (o9:=none) (k:=k) C x j v A (by omega) y;refine⟨_,rfl,_,e,⟨_,rfl⟩,take.weak λH f=>?_⟩;obtain⟨B,u,rfl⟩:=f;by_cases z:B=k
   . subst z;exact .inr rfl
   . exact .inl ⟨B,by omega,rfl⟩
 . rintro M l ⟨⟨J,rfl⟩,j⟩
   rw[cz,vU]at j;refine⟨rfl,⟨J,rfl⟩,j.weak λH f=>?_⟩;rcases f with⟨k,f,rfl⟩|⟨k,f,rfl⟩|⟨a,c,f,rfl⟩|⟨a,c,f,rfl⟩
   . exact⟨k,f,rfl⟩
   . omega
   . omega
   . omega
noncomputable def KO (n p i:Nat)(g:D):Prop:=(∃k,k<p/\g=own "box" k)\/(∃k,k<i/\g=own "view" k)\/(∃a c,a<i/\c<n/\g=cI a c)\/(∃a c,a<i/\c<n/\g=eU a c)
noncomputable def KI (n p i j:Nat)(g:D):Prop:=KO n p i g\/g=own "view" i\/(∃c,c<j/\g=cI i c)\/(∃c,c<j/\g=eU i c)
def QP {B:Int}{o6:Option D}{o8:Option D}(E:cU h){i:Nat}(I:Bg n p s b B (KI n p i 0) Z g)(A:s<b)(C:B+3000<2 ^ 40)(J:n<=5)(H:Z<=80):mX (dF (dX (ae cT af)) (gN 8) (aw (Fs h "sign") (Fs h "call")) (bσ s m o n p b o6 (some (.int i)) o8 none) g) λr=>r.1 = .nx/\(∃o8,r.2.1=bσ s m o n p b o6 (some (.int i)) o8 none)/\Bg n p s b B (KO n p (i+1)) (Z+2*n) r.2.2:=by
 rw[iq,h_ (n:=n) (g1:=g) rfl (by omega),m5];refine fQ (λj M l=>(∃o8,M=bσ s m o n p b o6 (some (.int i)) o8 none)/\Bg n p s b B (KI n p i j) (Z+2*j) l) _ 0 _ _ ⟨⟨o8,rfl⟩,I⟩ ?_ ?_
 . rintro j d M l N ⟨⟨v,rfl⟩,f⟩
   obtain⟨q,rfl⟩:=di N;simp only[vU]at *;have q:j<n:=by simpa using q
   obtain⟨R,Q,u⟩:=Bg.bit (m:=m) (o:=o) (o6:=o6) (o9:=none) (i:=i) (j:=j) (nm:="sign") rfl E f A C (by omega);obtain⟨U,y,x⟩:=Bg.bit (m:=m) (o:=o) (o6:=o6) (o9:=none) (i:=i) (j:=j) (nm:="call") rfl E u A C (by omega);refine⟨_,rfl,_,dS Q y,⟨_,rfl⟩,?_⟩;rw[show Z+2*(j+1)=Z+2*j+1+1 by omega];refine x.weak λO e=>?_;rcases e with e|e|⟨c,hc,rfl⟩|⟨c,hc,rfl⟩
   . exact .inl (.inl (.inl e))
   . exact .inl (.inl (.inr (.inl e)))
   . by_cases z:c=j
     . subst z;exact .inl (.inr rfl)
     . exact .inl (.inl (.inr (.inr (.inl ⟨c,by omega,rfl⟩))))
   . by_cases z:c=j
     . subst z;exact .inr rfl
     . exact .inl (.inl (.inr (.inr (.inr ⟨c,by omega,rfl⟩))))
 . rintro M l ⟨⟨v,rfl⟩,f⟩
   rw[cz,vU]at f;refine⟨rfl,⟨_,rfl⟩,f.weak λO e=>?_⟩;rcases e with e|⟨k,e,rfl⟩|⟨a,c,ha,hc,rfl⟩|⟨a,c,ha,hc,rfl⟩
   . exact .inl (.inl e)
   . by_cases z:k=i
     . subst z;exact .inr (.inl rfl)
     . exact .inl (.inr (.inl ⟨k,by omega,rfl⟩))
   . by_cases z:a=i
     . subst z;exact .inr (.inr (.inl ⟨c,hc,rfl⟩))
     . exact .inl (.inr (.inr (.inl ⟨a,c,by omega,hc,rfl⟩)))
   . by_cases z:a=i
     . subst z;exact .inr (.inr (.inr ⟨c,hc,rfl⟩))
     . exact .inl (.inr (.inr (.inr ⟨a,c,by omega,hc,rfl⟩)))
def QQ {B:Int}{o6:Option D}(L:cU h)(E:ju T)(I:Bg n p s b B (KO n p 0) Z g)(A:s<b)(C:B+3000<2 ^ 40)(J:n<=5)(H:p<=4)(M:Z<=4):mX (HB h T (bσ s m o n p b o6 none none none) g) λr=>r.1 = .nx/\(∃Q o8,r.2.1=bσ s m o n p b o6 Q o8 none)/\Bg n p s b B (Dm n p) 60 r.2.2:=by
 unfold HB;rw[iq,h_ (n:=n) (g1:=g) rfl (by omega),m5];refine fQ (λi R l=>(∃Q o8,R=bσ s m o n p b o6 Q o8 none)/\Bg n p s b B (KO n p i) (Z+11*i) l) _ 0 _ _ ⟨⟨none,none,rfl⟩,I⟩ ?_ ?_
 . rintro i d R l Y ⟨⟨N,j,rfl⟩,e⟩
   obtain⟨U,rfl⟩:=di Y;simp only[vU]at *;have U:i<n:=by simpa using U
   obtain⟨g2,e2,I2⟩:=Bg.view (m:=m) (o:=o) (o6:=o6) (o8:=j) (o9:=none) (i:=i) E e A C (by omega) H;have I3:Bg n p s b B (KI n p i 0) (Z+11*i+1) g2:=I2.weak λO a=>by
    rcases a with a|a|⟨c,hc,_⟩|⟨c,hc,_⟩
    . exact .inl a
    . exact .inr a
    . omega
    . omega
   obtain⟨⟨f,σ3,g3⟩,z,rfl,⟨o8,rfl⟩,X⟩:=QP (m:=m) (o:=o) (o6:=o6) (o8:=j) L I3 A C J (by omega);dsimp only at z X;refine⟨_,rfl,_,dS e2 z,⟨_,_,rfl⟩,?_⟩;obtain⟨⟨y,x,u,h3,v,q⟩,hd,bd,len⟩:=X;exact⟨⟨y,x,u,by omega,v,q⟩,hd.mono (by omega),bd,len⟩
 . rintro R l ⟨⟨N,j,rfl⟩,e⟩
   rw[cz,vU]at e;obtain⟨⟨y,x,u,h3,v,q⟩,hd,bd,len⟩:=e;exact⟨rfl,⟨_,_,rfl⟩,⟨y,x,u,by omega,v,λO kk a=>q O kk a⟩,hd.mono (by omega),bd,len⟩
noncomputable def QR:FS:=aP eP
noncomputable def XJ:FS:=aw (aF (aJ aB (ae cT (ae ee (ae b0 af)))) (gT 3 (aY (dC eP ku) (aY (dC eP kH) (aY (dC eP jd) eZ))))) QR
noncomputable def XM:FS:=aw (dw (dh isRef jk (ag ao eP gD) (ae (bH bA (dX (ae cT af)) [none,none,some 2] (gN 1) (ay (ag bp bg b0)) (aJ aB (ae gb (ae bg (ae b0 af))))) af))) XJ
noncomputable def XO:FS:=aw (dw (dh isRef jk (ag ao eP gD) (ae (bH bA (dX (ae cT af)) [none,none,some 2] (gN 1) (ay (ag bp bg b0)) (aJ aB (ae jc (ae bg (ae b0 af))))) af))) XM
noncomputable def Jq:FE:=bH bA (dX (ae ee af)) [none,none] (gN 1) cN (aJ aB (ae fh (ae bg af)))
noncomputable def QS:FE:=bH bA (dX (ae cT af)) [none,none,some 2] (gN 1) (ay (ag bp bg b0)) (aJ aB (ae fw (ae bg af)))
noncomputable def XQ:FS:=aw (aF (ag pI Jq QS) (dC eP gD)) XO
noncomputable def XR (take world:Fn):FS:=aw (aF (aj world (ae bR (ae d4 (ae (ag cK (aj take (ae bR (ae k0 af))) (aj jR (ae (ag ma cT cP) af))) af)))) (gN 9)) XQ
noncomputable def XS (take world a:Fn):FS:=aw (HB take a) (XR take world)
noncomputable def XT (take a world b:Fn):FS:=aw (HA take a) (XS take world b)
noncomputable def XU (take a world b:Fn):FS:=aw (aF j7 (gN 5)) (XT take a world b)
noncomputable def QT (take a world b:Fn):FS:=aw (oC 3 4 (ae (ag ao bg cP) (ae (ag ao bg ej) af))) (XU take a world b)
noncomputable def n8 (n p o a:Nat):List D:=[.str "moving",.ref a,.str "hands",.int n,.str "places",.int p,.str "own",.int o]
noncomputable def yB (o n:Nat):List D:=((r6 n).filter λj=>!(j == o)).map λj=>own "view" j
noncomputable def yC (o n:Nat):List D:=((r6 n).filter λj=>!(j == o)).map λj=>eU j o
def rB {l:List Nat}{f:Nat->D}(a:∀j,flat (f j)=true)(c:∀j,dep (f j)<=5):aS (l.map f)=true/\bG (l.map f)<=50:=⟨gj λd hd=>by obtain⟨j,_,rfl⟩:=nP.mp hd;exact a j,mK λd hd=>by obtain⟨j,_,rfl⟩:=nP.mp hd;exact rK (c j) (by decide)⟩
def yD {e:FE}{f:Nat->D}(p:d[3]? = some (some (.int n)))(a:d[2]? = some (some (.int o)))(l:n<=5)(i:∀(j:Nat) (g:G),e [none,some (.int j),some (.int o)] g=some (f j,g))(h:G):bH bA (dX (ae cT af)) [none,none,some 2] (gN 1) (ay (ag bp bg b0)) e d h=some (.lst (((r6 n).filter λj=>!(j == o)).map f),h):=by obtain⟨_,c,rfl⟩:=AO (n:=n) (o:=o) (g:=h) (f:=f) (e:=e) i;have q:ax n=true:=aH (by omega);rw[jh,h_ (g1:=h) (n:=n) (by simp[p]) (by omega)];simp only[m5,cz,q,if_true,show bZ [none,none,some 2] d = [none,none,some (.int o)] by simp[bZ,a],c];simp[bA]
def LR {h:Nat}{tg:Nat}{sh:Nat}{mo:Nat}{state:Fn}{world:Fn}(H:cU T)(L:jM M)(I:ju state)(hw:Ar world)(K:1<=n)(A:n<=5)(O:1<=p)(E:p<=4)(C:Hd g h i)(take:i+4000<2 ^ 40)(J:Bd g):
   ∃g',ak true 10 3 (QT T M world state) [.ref h,bw n p tg sh mo,.int o] g=some (.az (g.length+1),g')/\Wv n p (g.length+1) h g.length (g.length+2) (g.length+3) (g.length+4) (n8 n p o (g.length+4)) [] [] (i+800) g'/\g'.length=g.length+5:=by
 have bK:=C.lt;have zn:ax n=true:=aH (by omega);have zp:ax p=true:=aH (by omega);have z2:ax 2=true:=rfl;have z3:ax 3=true:=rfl;have I0:Bg n p h g.length i (λ_=>False) 0 (g ++ [[]]):=⟨⟨[],by simp,rfl,by simp,rfl,λ_ _ h=>h.elim⟩,by simpa using Hd.app C,J.app (by simp[aC]),by simp⟩
 obtain⟨⟨f,σ1,g1⟩,e1,rfl,⟨o6,rfl⟩,I1⟩:=LP (m:=bw n p tg sh mo) (o:=o) H L I0 bK (by omega) A E;dsimp only at e1 I1;have a4:Bg n p h g.length i (KO n p 0) p g1:=I1.weak λkey hk=>by
   rcases hk with⟨k,hk,e⟩|⟨k,hk,_⟩|⟨a,c,hk,_⟩|⟨a,c,hk,_⟩
   . exact .inl ⟨k,hk,e⟩
   . omega
   . omega
   . omega
 obtain⟨⟨f,σ2,g2⟩,e2,rfl,⟨v,o8,rfl⟩,I2⟩:=QQ (m:=bw n p tg sh mo) (o:=o) (o6:=o6) H I a4 bK (by omega) A E E;dsimp only at e2 I2;obtain⟨⟨bx,hx,ka,bl,nb,al⟩,hd2,a3,l2⟩:=I2;refine gM (H h 16 g2 _ (by omega) (by decide) (by decide) hd2) λy Q e3 y0 y1 jV f3=>?_;have gF:g.length≠h:=by omega
 have aO:Q[g.length]? = some bx:=by rw[f3.2 _ gF];exact hx
 have l3:Q.length=g.length+1:=by rw[f3.1,l2]
 have b3:=a3.fr f3 jV;obtain⟨x,ex,lq⟩:∃x:Int,ag cK (aj T (ae bR (ae k0 af))) (aj jR (ae (ag ma cT cP) af)) (bσ h (bw n p tg sh mo) o n p g.length o6 v o8 none) g2=some (.int x,Q)/\LQ n x:=by
   have a1:aj T (ae bR (ae k0 af)) (bσ h (bw n p tg sh mo) o n p g.length o6 v o8 none) g2=some (.int y,Q):=e3;by_cases z:2<=n
   . have a2:aj jR (ae (ag ma cT cP) af) (bσ h (bw n p tg sh mo) o n p g.length o6 v o8 none) Q=some (.int 1,Q):=by
      have:(1:Int)<n:=by omega
      simp[bσ,this]
     exact⟨y*1,by rw[ck a1 a2];exact(if_pos (jl (by omega) (by omega))).trans rfl,.inl z⟩
   . have a2:aj jR (ae (ag ma cT cP) af) (bσ h (bw n p tg sh mo) o n p g.length o6 v o8 none) Q=some (.int 0,Q):=by
      have:¬(1:Int)<n:=by omega
      simp[bσ,this]
     exact⟨y*0,by rw[ck a1 a2];exact(if_pos (jl (by omega) (by omega))).trans rfl,.inr (by simp)⟩
 have e4:=hw h g.length x Q;rw[l3]at e4;have hP:∀W,W=W0 h g.length x (g.length+1+1) (g.length+1+2)->aQ W (.str "moving") (.ref (g.length+4))=W ++ [.str "moving",.ref (g.length+4)]/\(∀X,aI (W++(.str "moving" :: .ref (g.length+4)::X)) (.str "moving")=some (.ref (g.length+4)))/\aQ (W ++ [.str "moving",.ref (g.length+4)]) (.str "hands") (.int n)=W ++ [.str "moving",.ref (g.length+4),.str "hands",.int n]/\aQ (W ++ [.str "moving",.ref (g.length+4),.str "hands",.int n]) (.str "places") (.int p)=W ++ [.str "moving",.ref (g.length+4),.str "hands",.int n,.str "places",.int p]/\aQ (W ++ [.str "moving",.ref (g.length+4),.str "hands",.int n,.str "places",.int p]) (.str "own") (.int o)=W++n8 n p o (g.length+4)/\W.length=10:=λW hW=>by subst hW;exact⟨rfl,λ_=>rfl,rfl,rfl,rfl,rfl⟩
 generalize hW:W0 h g.length x (g.length+1+1) (g.length+1+2)=W at e4;obtain⟨aq,Ve,aW,QK,ah,wl⟩:=hP W hW.symm;have eB:∀G:G,cZ (gN 1) cN (aJ aB (ae fh (ae bg af))) (fS 0 p) [none,none] G=some (cJ p,G):=λG=>by
   have c:=fF (t:=gN 1) (c:=cN) (e:=aJ aB (ae fh (ae bg af))) (h:=λd=>D.tup [.str "box",d]) (λR=>∃a,R = [none,a]) (fS 0 p) [none,none] G ⟨_,rfl⟩ (by rintro t hm R ⟨a,rfl⟩;exact⟨[none,some t],by simp,by simp,by simp[z2],_,rfl⟩)
   rw[c];simp[fS,cJ,own,US]
 have eV:∀{R:Sg},R[3]? = some (some (.int n))->R[2]? = some (some (.int o))->∀G,QS R G=some (.lst (yB o n),G):=λs r=>yD (f:=own "view") s r A λj g=>by simp[z2,own]
 have eS:∀{R:Sg},R[3]? = some (some (.int n))->R[2]? = some (some (.int o))->∀G,bH bA (dX (ae cT af)) [none,none,some 2] (gN 1) (ay (ag bp bg b0)) (aJ aB (ae jc (ae bg (ae b0 af)))) R G=some (.lst (yn o n),G):=λs r=>yD (f:=λj=>cI j o) s r A λj g=>by simp[z3,cI]
 have eC:∀{R:Sg},R[3]? = some (some (.int n))->R[2]? = some (some (.int o))->∀G,bH bA (dX (ae cT af)) [none,none,some 2] (gN 1) (ay (ag bp bg b0)) (aJ aB (ae gb (ae bg (ae b0 af)))) R G=some (.lst (yC o n),G):=λs r=>yD (f:=λj=>eU j o) s r A λj g=>by simp[z3,eU]
 have fl:∀f:Nat->D,(((r6 n).filter λj=>!(j == o)).map f).length<=n:=λf=>by rw[qV];exact rK (acJ _ _) (by simp)
 have ba:(cJ p).length=p:=by simp[cJ]
 have a9:(yB o n).length<=n:=fl _;have a5:(yn o n).length<=n:=fl _;have a6:(yC o n).length<=n:=fl _;have f1:aS (cJ p)=true/\bG (cJ p)<=50:=rB (λ_=>rfl) (λ_=>by simp[own,dep,bG]);have f2:aS (yB o n)=true/\bG (yB o n)<=50:=rB (λ_=>rfl) (λ_=>by simp[own,dep,bG]);have f4:aS (yC o n)=true/\bG (yC o n)<=50:=rB (λ_=>rfl) (λ_=>by simp[eU,dep,bG]);have Vf:aS (cJ p++yB o n++yn o n++yC o n)=true:=ph (ph (ph f1.1 f2.1) yo.1) f4.1;have aG:bG (cJ p++yB o n++yn o n++yC o n)<=50:=rh (rh (rh f1.2 f2.2) yo.2) f4.2;generalize cJ p=U at *;generalize yB o n=b at *;generalize yn o n=l at *;generalize yC o n=u at *;have Vg:aC 0 (U++b++l++u)=true:=dY _ Vf;have qq:∀(W:List D) (X:G),(Q++(W::X))[g.length+1]? = some W:=λW X=>by rw[<- l3];simp
 have QU:∀(W Y:List D),(Q ++ [W,[],[],Y])[g.length+4]? = some Y:=λW Y=>by rw[show g.length+4=Q.length+3 by omega];simp
 have Cm:∀(W W':List D) (X:G),(Q++(W::X)).set (g.length+1) W'=Q++(W'::X):=λW W' X=>by rw[<- l3];simp
 have QV:∀(W Y Y':List D),(Q ++ [W,[],[],Y]).set (g.length+4) Y'=Q ++ [W,[],[],Y']:=λW Y Y'=>by rw[show g.length+4=Q.length+3 by omega];simp
 have W1:∀X:List D,X.length<=10->iy (W++X)=true:=λX hX=>aH (by simp;omega);have ar:iy W=true:=aH (by omega);have za:ax (U.length+b.length)=true:=aH (by omega);have a7:ax U.length=true:=aH (by omega);have a8:ax b.length=true:=aH (by omega);have zs:ax l.length=true:=aH (by omega);have zc:ax u.length=true:=aH (by omega);have a0:ax (U.length+b.length+l.length)=true:=aH (by omega);have ab:ax (U.length+(b.length+l.length)+u.length)=true:=aH (by omega);have key:mX (ak true 10 3 (QT T M world state) [.ref h,bw n p tg sh mo,.int o] g) λq=>q=(.az (g.length+1),Q ++ [W++n8 n p o (g.length+4),[],[],U++b++l++u]):=by
   refine Kr rfl (cX (σ1:=[some (.ref h),some (bw n p tg sh mo),some (.int o),some (.int n),some (.int p),none,none,none,none,none]) (g1:=g) rfl (cX (σ1:=bσ h (bw n p tg sh mo) o n p g.length none none none none) (g1:=g ++ [[]]) rfl (cX e1 (cX e2 ?_))));have ew:aj world (ae bR (ae d4 (ae (ag cK (aj T (ae bR (ae k0 af))) (aj jR (ae (ag ma cT cP) af))) af))) (bσ h (bw n p tg sh mo) o n p g.length o6 v o8 none) g2=some (.az (g.length+1),Q ++ [W,[],[]]):=by have v0:bR (bσ h (bw n p tg sh mo) o n p g.length o6 v o8 none) g2=some (.ref h,g2):=rfl;have v5:d4 (bσ h (bw n p tg sh mo) o n p g.length o6 v o8 none) g2=some (.az g.length,g2):=rfl;simp only[ic,bX,v0,v5,ex,cy,m5,e4]
   refine gA ew ?_;generalize hσ:List.set _ 9 _=R;have s:R[3]? = some (some (.int n)):=by rw[<- hσ];rfl
   have i4:R[4]? = some (some (.int p)):=by rw[<- hσ];rfl
   have i9:R[9]? = some (some (.az (g.length+1))):=by rw[<- hσ];rfl
   have r:R[2]? = some (some (.int o)):=by rw[<- hσ];rfl
   have r2:∀G,dX (ae ee af) R G=some (fS 0 p,G):=λG=>h_ (by simp[i4]) (by omega);have cB:∀G,Jq R G=some (.lst U,G):=λG=>by unfold Jq;rw[jh,r2];simp only[m5,cz,zp,if_true];rw[show bZ [none,none] R = [none,none] from rfl,eB];simp[bA]
   refine cX (σ1:=R) (g1:=Q ++ [W ++ [.str "moving",.ref (g.length+4)],[],[],U++b]) ?_ (cX (σ1:=R) (g1:=Q ++ [W ++ [.str "moving",.ref (g.length+4)],[],[],U++b++l]) ?_ (cX (σ1:=R) (g1:=Q ++ [W ++ [.str "moving",.ref (g.length+4)],[],[],U++b++l++u]) ?_ (cX (σ1:=R) (g1:=Q ++ [W++n8 n p o (g.length+4),[],[],U++b++l++u]) ?_ ?_)))
   . have ea:ag pI Jq QS R (Q ++ [W,[],[]])=some (.ref (g.length+4),Q ++ [W,[],[],U++b]):=by
      rw[ck (cB _) (eV s r _)];simp[pI,fg,za,l3]
     rw[kh,ea];simp[i9,qq,fK,ar,aq,Cm]
   . have em:ag ao eP gD R (Q ++ [W ++ [.str "moving",.ref (g.length+4)],[],[],U++b])=some (.ref (g.length+4),Q ++ [W ++ [.str "moving",.ref (g.length+4)],[],[],U++b]):=by
      simp[i9,qq,fK,Ve]
     rw[show ∀f G,dw f R G=(f R G).bind λq=>some (.nx,R,q.2) from λ_ _=>rfl,pQ,em];simp only[m5,bX,eS s r,cy];simp[isRef,jk,fg,QU,a0,QV]
   . have em:ag ao eP gD R (Q ++ [W ++ [.str "moving",.ref (g.length+4)],[],[],U++b++l])=some (.ref (g.length+4),Q ++ [W ++ [.str "moving",.ref (g.length+4)],[],[],U++b++l]):=by
      simp[i9,qq,fK,Ve]
     rw[show ∀f G,dw f R G=(f R G).bind λq=>some (.nx,R,q.2) from λ_ _=>rfl,pQ,em];simp only[m5,bX,eC s r,cy];simp[isRef,jk,fg,QU,ab,QV]
   . simp[r,s,i4,i9,z3,qq,fK,W1,aW,QK,ah,Cm]
   . simp[QR,i9]
 obtain⟨_,e,rfl⟩:=key;refine⟨_,e,?_,by simp;omega⟩;generalize hG:Q ++ [W++n8 n p o (g.length+4),[],[],U++b++l++u]=Z;have gl:Z.length=g.length+5:=by rw[<- hG];simp;omega
 have up:∀B,B<Q.length->Z[B]? = Q[B]?:=λB hi=>by rw[<- hG];exact r_ hi
 have aA:Z[g.length+1]? = some (W0 h g.length x (g.length+2) (g.length+3)++n8 n p o (g.length+4)):=by rw[<- hG,hW];exact qq _ _
 have Nd:Z[g.length+2]? = some []:=by rw[<- hG,show g.length+2=Q.length+1 by omega];simp
 have eK:Z[g.length+3]? = some []:=by rw[<- hG,show g.length+3=Q.length+2 by omega];simp
 have kE:Z[g.length+4]? = some (U++b++l++u):=by rw[<- hG];exact QU _ _
 have nM:Z[g.length]? = some bx:=by rw[up _ (by omega)];exact aO
 have gE:Hd Z h (i+800):=by rw[<- hG];exact(Hd.app jV).mono (by omega)
 have mM:aC Z.length (n8 n p o (g.length+4))=true:=by simp[n8,aC,bU,gl]
 have W:p0 Z (g.length+1) h g.length (g.length+2) (g.length+3) (g.length+4) x (n8 n p o (g.length+4)) bx [] []:=by
   refine⟨aA,nM,Nd,eK,?_,rfl,⟨_,kE,Vf,aG,Vg⟩,?_⟩
   . simp;omega
   . simp;omega
 refine⟨⟨x,bx,lq,W,ka,by omega,λkey dk=>al key dk.k dk,nb⟩,gE,mM,by simp[n8],rfl,rfl,?_⟩;refine qZ W gE mM nb rfl rfl λB xs hi hx=>?_;by_cases eJ:B<Q.length
 . rw[up B eJ]at hx
   exact eu (by omega) (b3 B xs hx)
 . have IY:B<Z.length:=(mT.mp hx).1
   simp only[nF,x5,or_false,not_or]at hi;have this:B=g.length+4:=by obtain⟨K,_,_,n2,n3⟩:=hi;rw[gl]at IY;rw[l3]at eJ;clear C hd2 jV bK;omega
   subst this;rw[kE]at hx;cases hx;exact eu (tc _) Vg
def LS {g:Fn}{Dw:Fn}(B:cU h)(i:cU T)(v:g_ M)(E:jM t)(take:ju e)(q:aI A (.str "hands")=some (.int n))(y:aI A (.str "places")=some (.int p))(u:aI A (.str "own")=some (.int o))(z:n<=5)(C:p<=5)(l:g=ak false 2 2 (B5 h (ak false 7 2 (vd T M t e))))(x:Dw=ak false 5 3 (kR g)):lO n p o g Dw w Z b s r c A f:=by
 subst l;subst x;exact⟨Ck B (by decide) λ_=>Fi i,Ck B (by decide) λ_=>Fh take y C,Fe (KP:=Qi) (λex a=>a.bc.flat) (by decide) (λj=>⟨j,rfl⟩) (Ck B (by decide) λd=>Fj v E q u d z)⟩
def Co {mv:List D}(g:lO n p o h M w K b s r J A mv)(d:T=ak false 3 3 setB)(f:o<n)(e:n<=5)(i:p<=5):pW (o:=o) n p Z c Q w K b s r J A (ak false 18 3 (Jm h T M)):=λV a sz q=>QB g d V f e i a sz q
noncomputable def Jr (take pick c:Fn):FS:=aw (aF (aj pick (ae bR (ae (aJ dP (ae (aJ aB (ae cP (ae cP af))) (ae (aJ aB (ae cP (ae cP af))) (ae (aJ aB (ae cP (ae cP af))) (ae (aJ aB (ae dV (ae cP af))) (ae (aJ aB (ae cP (ae dV af))) (ae (aJ aB (ae dV (ae dV af))) af))))))) af))) (gN 1)) (aP (ag bf (ag bf (aJ aB (ae k6 (ae (aj c (ae bR af)) (ae (ag bf cP (aj take (ae bR (ae la af)))) af)))) bg) (aJ aB (ae (ag bf cP (aj take (ae bR (ae la af)))) af))))
def Th {h:Nat}{B:Int}{hands:Fn}(A:cU T)(E:g_ M)(Z:Au hands)(H:B+20<2 ^ 40)(C:Hd g h B):∃n p I J mo O,ak false 2 1 (Jr T M hands) [.ref h] g=some (bw n p I J mo,O)/\1<=n/\n<=5/\1<=p/\p<=4/\I<=1/\1<=mo/\mo<=4/\Hd O h (B+6)/\o3 h g O:=by
 have R:∀Q:D×G->Prop,(∀(n p I J mo:Nat) O,1<=n->n<=5->1<=p->p<=4->I<=1->1<=mo->mo<=4->Hd O h (B+6)->o3 h g O->Q (bw n p I J mo,O))->mX (ak false 2 1 (Jr T M hands) [.ref h] g) Q:=λQ z=>by
  refine OU rfl ?_;unfold Jr;refine wp_seq ?_;have i:ax 2=true:=rfl;have j:ax 6=true:=rfl;simp[i,j];refine E.w (by omega) (by simp) (by simp) C λd g1 hm v f1=>?_;have:∃I J:Nat,d = .tup [.int I,.int J]/\I<=1:=by
   simp only[nF,x5,or_false]at hm;rcases hm with rfl|rfl|rfl|rfl|rfl|rfl
   . exact⟨1,1,rfl,by decide⟩
   . exact⟨1,1,rfl,by decide⟩
   . exact⟨1,1,rfl,by decide⟩
   . exact⟨0,1,rfl,by decide⟩
   . exact⟨1,0,rfl,by decide⟩
   . exact⟨0,0,rfl,by decide⟩
  obtain⟨I,J,rfl,f⟩:=this;refine gM (Z h g1 _ (by omega) v) λn g2 e2 o n5 U f2=>?_;refine gM (A h 4 g2 _ (by omega) (by decide) (by decide) U) λX g3 r a0 Y x f3=>?_;obtain⟨p,c⟩:∃k:Nat,1+X=k:=⟨(1+X).toNat,(ZU (by omega)).symm⟩
  refine gM (A h 4 g3 _ (by omega) (by decide) (by decide) x) λmm g4 e4 m0 m1 a f4=>?_;obtain⟨mo,b⟩:∃k:Nat,1+mm=k:=⟨(1+mm).toNat,(ZU (by omega)).symm⟩
  have s:ax 1=true:=rfl;have z3:ax 3=true:=rfl;have y:ax 5=true:=rfl;have F:=f1.trans (f2.trans (f3.trans f4));simp[e2,r,e4,c,b,s,i,z3,y,j];exact⟨F.1,z n p I J mo _ o n5 (by omega) (by omega) f (by omega) (by omega) (a.mono (by omega)) F⟩
 obtain⟨⟨d,O⟩,e,n,p,I,J,mo,rfl,h1⟩:=R (λq=>∃n p I J mo,q.1=bw n p I J mo/\1<=n/\n<=5/\1<=p/\p<=4/\I<=1/\1<=mo/\mo<=4/\Hd q.2 h (B+6)/\o3 h g q.2) λn p I J mo O Y a2 a3 u l a6 a7 a8 a9=>⟨n,p,I,J,mo,rfl,Y,a2,a3,u,l,a6,a7,a8,a9⟩
 exact⟨n,p,I,J,mo,O,e,h1⟩
def HC (e:v∈eY n p o s R++qw H):flat v=true/\dep v<=60:=by
 rcases nQ.mp e with e|e
 . obtain⟨q,_,e⟩:=af7.mp e
   unfold yd at e;rcases nQ.mp e with e|e
   . obtain⟨y,_,e⟩:=af7.mp e
     simp only[nF,x5,or_false]at e;rcases e with rfl|rfl
     . exact⟨rfl,by simp[dep,bG]⟩
     . exact⟨rfl,by simp[cI,dep,bG]⟩
   . obtain⟨k,a,rfl⟩:=nP.mp e
     have c:∀y∈cJ p,flat y=true/\dep y<=50:=λy d=>by obtain⟨j,_,rfl⟩:=nP.mp d;exact⟨rfl,by simp[own,dep,bG]⟩
     have b:flat k=true/\dep k<=50:=by
       unfold nU at a;rcases nQ.mp a with a|a
       . rcases nQ.mp a with a|a
         . exact c k a
         . exact c k a
       . obtain⟨j,_,rfl⟩:=nP.mp a
         exact⟨rfl,by simp[dep,bG]⟩
     refine⟨by simp[flat,aS,b.1],?_⟩;have:=b.2;simp only[dep,bG];omega
 . cases H with
   |none=>cases e
   |some j =>
     simp only[qw,nF,x5,or_false]at e;subst e;exact⟨rfl,by simp[own,dep,bG]⟩
def E_.len {sh:Nat}{q:R4}(L:E_ n p o Z sh c w Q b s r K f st A i g R q H v a)(u:n<=5)(x:p<=4):(eY n p o sh (R ++ [q])++qw H).length=(eO (R ++ [q])++jO v H).length/\(eO (R ++ [q])++jO v H).length<=500:=by
 have rs:∀h∈R ++ [q],fO n p o sh h:=λh en=>by
  rcases nQ.mp en with en|en
  . exact L.all h en
  . simp at en;subst en;exact L.last
 have d:(qw H).length=(jO v H).length:=by cases H<;>rfl
 have e:(jO v H).length<=1:=by cases H<;>simp[jO]
 have cC:=L.cC;have:=ae9 (show R.length+1<=16 by omega) (Fp (n:=n) (p:=p) (o:=o) (sh:=sh) u x);rw[nv,nv,mN rs,kj rs,d,nv,L3];exact⟨rfl,by omega⟩
end
section
open PyProof.Rows
noncomputable def Vh (T:Nat->Fn):FS:=cA (Bf (ia (aj (T 23) (ae cT (ae ee (ae (aJ aB (ae (fC (.str "look")) af)) (ae (aj (T 24) (ae b0 (ae (ag ao cT ej) af))) (ae d4 (ae ef af))))))))) (aP (fC (.bl false))) a_
noncomputable def Vi (T:Nat->Fn):FS:=aw (aF (aj (T 29) (ae d4 (ae ee (ae cT af)))) (gN 6)) (Vh T)
noncomputable def Vj (T:Nat->Fn):FS:=aw (aF (aj (T 30) (ae b0 (ae cT (ae ee af)))) (gN 5)) (Vi T)
noncomputable def Vk (T:Nat->Fn):FS:=aw (aF (aj (T 16) (ae b0 (ae (ag ao cT cP) af))) (gN 4)) (Vj T)
noncomputable def Vl (T:Nat->Fn):FS:=aw (aF (aj (T 31) (ae b0 af)) (gN 3)) (Vk T)
noncomputable def Js (T:Nat->Fn):FS:=aw (aF (aj (T 15) (ae bR (ae bg af))) (gN 2)) (Vl T)
noncomputable def rs (T:Nat->Fn):Str->Option Fn:=λy=>match(lD 0 ds).lookup y with|some q=>some (T q.1)|none=>((lE 0 ds).lookup y).map λi=>c_ (T i)
noncomputable def b_0 (T:Nat->Fn):FS:=aP (ag ao bR (ag bf cP (Bu lN (ag ao bR dV) bg)))
noncomputable def Vm (T:Nat->Fn):FS:=aP (aj (T 0) (ae bR (ae ku af)))
noncomputable def Vn (T:Nat->Fn):FS:=aw (cA (ay (ag oEq (ag ao bR dV) k6)) (aP (aj (T 0) (ae bR (ae kH af)))) a_) (aP (aj (T 1) (ae bR af)))
noncomputable def Vo (T:Nat->Fn):FS:=aw (aF (tF (ay (ag oEq (ag ao bR dV) k6)) fh jd) (gN 1)) (aP (aj gL (ae (bH bA (dX (ae (aj (T 2) (ae bR af)) af)) [none,none,some 1] (gN 1) cN (aJ aB (ae b0 (ae bg af)))) af)))
noncomputable def b_4 (T:Nat->Fn):FS:=hZ (rs T)
noncomputable def Vp (T:Nat->Fn):FS:=aP (bH bA (dX (ae (aj (T 1) (ae bR af)) af)) [none,none,some 1] (gN 1) (ay (ag bp bg b0)) bg)
noncomputable def Vq (T:Nat->Fn):FS:=aP (tF (ay (ag oEq (aj (T 0) (ae bR (ae lZ af))) cP)) (aj (T 5) (ae bR (ae bg af))) (aJ dP af))
noncomputable def b_7 (T:Nat->Fn):FS:=nT (rs T)
noncomputable def b_8 (T:Nat->Fn):FS:=u9 (T 0) (T 2) (T 6) (T 4) (T 9) (T 10) "shared_look.lambda" va
noncomputable def b_9 (T:Nat->Fn):FS:=uZ (T 6) (T 3) (T 7) "round_step_shared.lambda"
noncomputable def XX (T:Nat->Fn):FS:=jW (T 2) (T 6)
noncomputable def XY (T:Nat->Fn):FS:=PQ (T 0) (T 2) (T 5) (T 6) (T 10) (T 12)
noncomputable def XZ (T:Nat->Fn):FS:=qv (T 0)
noncomputable def QW (T:Nat->Fn):FS:=aw (cA (ay (ag oEq (ag ao bR dV) (fC (.str "tables")))) (aP bM) a_) (aw (cA (ay (ag oEq (ag ao b0 dV) (fC (.str "look")))) (aP (aj (T 14) (ae bR (ae bg (ae ee af))))) a_) (aP bM))
noncomputable def QX (T:Nat->Fn):FS:=aw (aF (ag ao bR dV) (gN 3)) (aw (cA (ay (ag oEq cT (fC (.str "once")))) (aP bM) a_) (aw (cA (ay (ag oEq cT (fC (.str "signs")))) (aP (ag ao bM dV)) a_) (aw (cA (ay (ag oEq cT k6)) (aP (ag ao (aj (T 8) (ae bR (ae bg (ae b0 af)))) dV)) a_) (aP (ag ao bM dV)))))
noncomputable def X0 (T:Nat->Fn):FS:=vQ
noncomputable def X1 (T:Nat->Fn):FS:=vR
noncomputable def X2 (T:Nat->Fn):FS:=B4 (T 16)
noncomputable def X3 (T:Nat->Fn):FS:=vS (T 16) (T 17)
noncomputable def X4 (T:Nat->Fn):FS:=x4
noncomputable def X5 (T:Nat->Fn):FS:=B5 (T 16) (T 27)
noncomputable def X6 (T:Nat->Fn):FS:=setB
noncomputable def X7 (T:Nat->Fn):FS:=kR (T 20)
noncomputable def X8 (T:Nat->Fn):FS:=qR (T 13)
noncomputable def X9 (T:Nat->Fn):FS:=sR (T 17)
noncomputable def X_ (T:Nat->Fn):FS:=sT (T 16) (T 17)
noncomputable def Ya (T:Nat->Fn):FS:=sY (T 18)
noncomputable def Yb (T:Nat->Fn):FS:=vd (T 16) (T 17) (T 18) (T 26)
noncomputable def Yc (T:Nat->Fn):FS:=Jm (T 20) (T 21) (T 22)
noncomputable def Yd (T:Nat->Fn):FS:=Jn (T 28) (T 20)
noncomputable def Ye (T:Nat->Fn):FS:=QT (T 16) (T 18) (T 19) (T 26)
noncomputable def Yf (T:Nat->Fn):FS:=Jr (T 16) (T 17) (T 25)
noncomputable def HD (T:Nat->Fn):FS:=aw (dF (dX (ae (ag bf fc (aj ((j9 lK iR)) (ae (fC (.int 6)) (ae (aj cg (ae bR af)) af)))) af)) (gN 1) (Js T)) (aP jP)
noncomputable def Yg (T:Nat->Fn):FE:=aj (T 11) (ae bR (ae bg (ae b0 af)))
noncomputable def Yh (T:Nat->Fn):FE:=bR
noncomputable def tab:Nat->Nat->Fn
 | 0,_=>λ_ _=>none|k+1,0=>(ak false 2 2 (b_0 (tab k)))|k+1,1=>(ak false 1 1 (Vm (tab k)))|k+1,2=>(ak false 1 1 (Vn (tab k)))|k+1,3=>(ak false 2 1 (Vo (tab k)))|k+1,4=>(ak false 10 5 (b_4 (tab k)))|k+1,5=>(ak false 2 2 (Vp (tab k)))|k+1,6=>(ak false 2 2 (Vq (tab k)))|k+1,7=>(ak false 5 4 (b_7 (tab k)))|k+1,8=>(ak false 6 3 (b_8 (tab k)))|k+1,9=>(ak false 6 3 (b_9 (tab k)))|k+1,10=>(ak false 4 3 (XX (tab k)))|k+1,11=>(ak false 12 3 (XY (tab k)))|k+1,12=>(ak false 3 3 (XZ (tab k)))|k+1,13=>(ak false 5 5 (QW (tab k)))|k+1,14=>(ak false 4 3 (QX (tab k)))|k+1,15=>(ak true 3 2 (X0 (tab k)))|k+1,16=>(ak false 6 2 (X1 (tab k)))|k+1,17=>(ak false 2 2 (X2 (tab k)))|k+1,18=>(ak false 2 1 (X3 (tab k)))|k+1,19=>(ak true 3 3 (X4 (tab k)))|k+1,20=>(ak false 2 2 (X5 (tab k)))|k+1,21=>(ak false 3 3 (X6 (tab k)))|k+1,22=>(ak false 5 3 (X7 (tab k)))|k+1,23=>(ak false 10 6 (X8 (tab k)))|k+1,24=>(ak false 2 2 (X9 (tab k)))|k+1,25=>(ak false 1 1 (X_ (tab k)))|k+1,26=>(ak false 2 2 (Ya (tab k)))|k+1,27=>(ak false 7 2 (Yb (tab k)))|k+1,28=>(ak false 18 3 (Yc (tab k)))|k+1,29=>(ak false 7 3 (Yd (tab k)))|k+1,30=>(ak true 10 3 (Ye (tab k)))|k+1,31=>(ak false 2 1 (Yf (tab k)))|k+1,32=>(ak false 7 1 (HD (tab k)))|k+1,33=>cj 2 1 (Yg (tab k))|k+1,34=>cj 0 1 (Yh (tab k))|_+1,_=>λ_ _=>none
def rws (k:Nat):xR mo (tab k) (tab (k+1)) k 0 mo.ds:=by repeat (first|exact .nil| (refine .cons ?_ ?_;· kernel_rfl))
def good:Sw mo tab:=Ll (λ_ _ _=>rfl) rws (by decide +kernel) (by decide +kernel)
end
section
variable {Z b Y r X:Nat}{x u:D}{U:List R4}{T R Q:Option D}
def lG {c:FA}{g:G}{x:Option (D×G)}(k:h A g=x)(F:c d a=some (A,g)):aj h c d a=x:=by rw[ic,F];exact k
def LU (k:Nat)(g:G):tab (k+2) 1 [bw n p o s Z] g=some (.int n,g):=by show ak false 1 1 (Vm (tab (k+1))) _ g=_;refine bS rfl (fu ?_) rfl;show tab (k+1) 0 [bw n p o s Z,.str "hands"] g=_;exact bS rfl (fu rfl) rfl
def QY (k:Nat)(g:G):tab (k+3) 2 [bw n p o s Z] g=some (.int p,g):=by show ak false 1 1 (Vn (tab (k+2))) _ g=_;refine bS rfl (iV (g1:=g) rfl ?_) rfl;show tab (k+2) 0 [bw n p o s Z,.str "places"] g=_;exact bS rfl (fu rfl) rfl
def Ti (j:p<=4)(k:Nat)(g:G):tab (k+4) 3 [bw n p o s Z] g=some (.tup (cJ p),g):=by
 show ak false 2 1 (Vo (tab (k+3))) _ g=_;have f:ax 2=true:=rfl;have b:ax p=true:=aH (by omega);generalize hm:bw n p o s Z=m;have c:=fF (t:=gN 1) (c:=cN) (e:=aJ aB (ae b0 (ae bg af))) (h:=λd=>D.tup [.str "box",d]) (λσ=>∃a,σ = [none,a,some (.str "box")]) (fS 0 p) [none,none,some (.str "box")] g ⟨_,rfl⟩ (by rintro t hm σ ⟨a,rfl⟩;exact⟨[none,some t,some (.str "box")],by simp,by simp,by simp[f],_,rfl⟩)
 have r:=h_ (fr:=ae (aj (tab (k+3) 2) (ae bR af)) af) (σ:=[some m,some (.str "box")]) (g:=g) (g1:=g) (n:=p) (by
  have e:aj (tab (k+3) 2) (ae bR af) [some m,some (.str "box")] g=some (.int p,g):=by rw[<- hm];exact QY k g
  simp only[bX,e,cy,m5]) (by omega)
 have i:bH bA (dX (ae (aj (tab (k+3) 2) (ae bR af)) af)) [none,none,some 1] (gN 1) cN (aJ aB (ae b0 (ae bg af))) [some m,some (.str "box")] g=some (.lst (cJ p),g):=by rw[jh,r];simp only[m5,cz,b,if_true];rw[show bZ [none,none,some 1] [some m,some (.str "box")]= [none,none,some (.str "box")] from rfl,c];simp[bA,fS,cJ,own,US,b]
 refine bS rfl (dE (d:=.str "box") (g1:=g) (by rw[<- hm];rfl) (fu ?_)) rfl;show aj gL (ae (bH bA _ _ _ _ _) af) [some m,some (.str "box")] g=_;simp only[ic,bX,i,cy,m5,zF,bD];rw[if_pos (by simpa[cJ]using b)]
def Jt (c:n<=5)(k:Nat)(g:G):tab (k+3) 5 [bw n p s Z b,.int o] g=some (.lst (dN (b_ n o)),g):=by
 show ak false 2 2 (Vp (tab (k+2))) _ g=_;generalize hm:bw n p s Z b=m;have r:=h_ (fr:=ae (aj (tab (k+2) 1) (ae bR af)) af) (σ:=[some m,some (.int o)]) (g:=g) (g1:=g) (n:=n) (by
  have e:aj (tab (k+2) 1) (ae bR af) [some m,some (.int o)] g=some (.int n,g):=by rw[<- hm];exact LU k g
  simp only[bX,e,cy,m5]) (by omega)
 have h:ax n=true:=aH (by omega);have a:ax (dN (b_ n o)).length=true:=aH (by rw[cW];have:=ub (n:=n) (o:=o);omega);obtain⟨_,e,rfl⟩:=AO (n:=n) (o:=o) (g:=g) (f:=λ(j:Nat)=>D.int (j:Int)) (e:=bg) (λj g=>rfl);have i:((r6 n).filter λj=>!(j == o)).map (λ(j:Nat)=>D.int (j:Int))=dN (b_ n o):=rfl;rw[i]at e;refine bS rfl (fu ?_) rfl;show bH bA _ _ _ _ _ [some m,some (.int o)] g=_;rw[jh,r];simp only[m5,cz,h,if_true];rw[show bZ [none,none,some 1] [some m,some (.int o)]= [none,none,some (.int o)] from rfl,e];simp[bA,a]
def Tj (c:n<=5)(k:Nat)(g:G):tab (k+4) 6 [bw n p s Z b,.int o] g=some (.lst (dN (av n o Z)),g):=by
 show ak false 2 2 (Vq (tab (k+3))) _ g=_;refine bS rfl (fu ?_) rfl;have t:ay (ag oEq (aj (tab (k+3) 0) (ae bR (ae lZ af))) cP) [some (bw n p s Z b),some (.int o)] g=some (decide ((Z:Int)=1),g):=by have i:tab (k+3) 0 [bw n p s Z b,.str "shakes"] g=some (.int Z,g):=bS rfl (fu rfl) rfl;have a:aj (tab (k+3) 0) (ae bR (ae lZ af)) [some (bw n p s Z b),some (.int o)] g=some (.int Z,g):=lG i rfl;rw[cD,ck (d':=.int 1) (g2:=g) a rfl,baM];rfl
 show tF _ _ _ [some (bw n p s Z b),some (.int o)] g=_;rw[Kn,t];simp only[m5];unfold av;by_cases h:Z=1
 . rw[if_pos (by simp[h]),if_pos h]
   exact Jt c k g
 . rw[if_neg (by simp;omega),if_neg h]
   rfl
def Vr (k:Nat)(d:o<n)(a:n<=5)(h:1<=p)(c:p<=4):iB (bw n p s Z b) n p o s Z b (tab (k+8) 0) (tab (k+8) 2) (tab (k+8) 5) (tab (k+8) 6):=
 ⟨λg=>QY (k+5) g,λg=>bS rfl (fu rfl) rfl,λg=>bS rfl (fu rfl) rfl,λg=>Jt a (k+5) g,λg=>Tj a (k+4) g,d,a,h,c,rfl⟩
def QZ (k:Nat):rs (tab (k+7)) "shared_look.lambda" = some (c_ (cj 2 1 (o_ (mL (tab (k+8) 0) (tab (k+8) 2) (tab (k+8) 5) (tab (k+8) 6))))):=rfl
def Tn (k:Nat):rs (tab (k+6)) "round_step_shared.lambda" = some (c_ (cj 0 1 bR)):=rfl
def Q0 (k:Nat):tab (k+9) 8=QM (tab (k+8) 0) (tab (k+8) 2) (tab (k+8) 6) (tab (k+8) 3) (rs (tab (k+7))) (rs (tab (k+6))) "shared_look.lambda" "round_step_shared.lambda":=rfl
def Fu (k:Nat)(h:tab (k+9) 8 [bw n p s Z b,.int o,.tup A] a=some (.tup [x,u],a)):tab (k+11) 13 [bw n p s Z b,.int o,.tup [.str "look"],v,.tup A] a=some (x,a):=by
 have c:tab (k+10) 14 [bw n p s Z b,.int o,.tup A] a=some (x,a):=by show ak false 4 3 (QX (tab (k+9))) _ a=_;exact bS rfl (dE (d:=.str "shared") (g1:=a) rfl (dS ((eQ (g1:=a) rfl).trans rfl) (dS ((eQ (g1:=a) rfl).trans rfl) (iV (g1:=a) rfl ((ck (d:=.tup [x,u]) (g1:=a) (lG h rfl) rfl).trans rfl))))) rfl
 show ak false 5 5 (QW (tab (k+10))) _ a=_;exact bS rfl (dS ((eQ (g1:=a) rfl).trans rfl) (iV (g1:=a) rfl (lG c rfl))) rfl
def Q1 {g:G}(k:Nat)(C:o<n)(l:n<=5)(h:1<=p)(f:p<=4){q:R4}{en:Option Nat}(all:∀r∈U,fO n p o Z r)(c:fO n p o Z q)(cC:U.length<=15)(j:∀k,k<U.length->cG (.int b) ((U ++ [q]).map (de n o s Z)) k)(d:gB (.int b) ((U ++ [q]).map (de n o s Z)) U.length en)(y:en≠none->flat v=true):
  EK (tab (k+11) 13) (bw n p s Z b) (.int o) (.tup [.str "look"]) x (eY n p o Z (U ++ [q])++qw en) (eO (U ++ [q])++jO v en) (qx q.2.2.1 v en) g :=
 ⟨λi B=>by
  obtain⟨E,u,a,e⟩:=Hz (g:=g) (QZ k) (Tn k) (Vr k C l h f) (λg=>Ti f (k+4) g) all c cC j d i B;rw[<- Q0]at e;exact⟨E,a,Fu k e⟩,by
  have e:=LO (g:=g) (rest:=[]) (colF:=tab (k+8) 3) (R':=rs (tab (k+6))) (nm2:="round_step_shared.lambda") (QZ k) (Vr k C l h f) y (by simp) all c cC j d;rw[wz]at e;exact Fu (u:=.int _) k ((congrFun (congrFun (Q0 k) _) _).trans e)⟩
def ve (k:Nat):cU (tab (k+1) 16):=Lr
def Fv (k:Nat):g_ (tab (k+2) 17):=Ls (ve k)
def Q2 (k:Nat):jM (tab (k+3) 18):=Lz (ve (k+1)) (Fv k)
def Q3 (k:Nat):ju (tab (k+4) 26):=E4 (Q2 k)
def Q4 (k:Nat)(c:n<=5)(d:p<=4):lO n p o (tab (k+6) 20) (tab (k+7) 22) Z Y b s r X (n8 n p o X) A :=
 LS (ve (k+4)) (ve (k+3)) (Fv (k+2)) (Q2 (k+1)) (Q3 k) rfl rfl rfl c (by omega) rfl rfl
def sA (k:Nat)(a:n<=5)(c:p<=4):lO n p o (tab (k+7) 20) (tab (k+7) 22) Z Y b s r X (n8 n p o X) A :=
 ⟨(Q4 (k+1) a c).Qz,(Q4 (k+1) a c).U9,(Q4 k a c).col⟩
def baP {ns:List Int}{j:Nat}(H:j<=50)(E:Bd a){J M:Option D}:
  mX (Js (tab 59) [some (.lst (ns.map .int)),some (.int j),T,R,Q,J,M] a) λr=>r.1 = .nx/\(∃O T R Q J M,r.2.1 = [some (.lst (ns.map .int)),O,T,R,Q,J,M])/\Bd r.2.2:=by
 generalize hL:D.lst (ns.map .int)=L;have u:EI (tab 59 15):=Lu;obtain⟨xs,U,X⟩:=u ns j a (by omega);rw[hL]at U;refine S_ (Th (hands:=tab 58 25) (ve 57) (Fv 56) (Hi (ve 56) (Fv 55)) (h:=a.length) (B:=0) (by decide) X) λn p tg sh mo Y Z n1 b p1 c _ m1 m4 C f2=>?_;change tab 59 31 _ _=_ at Z;refine gM (ve 58 a.length n Y _ (by decide) (by omega) (by omega) C) λy I e3 o0 O jV f3=>?_;obtain⟨o,rfl⟩:∃k:Nat,y=k:=⟨y.toNat,(ZU o0).symm⟩
 have ho:o<n:=by omega
 have b3:Bd I:=((E.hand X).fr f2 C).fr f3 jV;refine Hc (LR (world:=tab 58 19) (tg:=tg) (sh:=sh) (mo:=mo) (o:=o) (ve 57) (Q2 55) (Q3 54) Hf n1 b p1 c jV (by decide) b3) λg4 e4 V l4=>?_;change tab 59 30 _ _=_ at e4;obtain⟨rs,q,s,v,g5,e5,g⟩:=LN (tg:=tg) (sh:=sh) (mv:=[]) (Co (mv:=[]) (sA 50 b c) rfl ho b (by omega)) (sA 51 b c) b c m1 m4 (by decide) V (by simp) (by simp);change tab 59 29 _ _=_ at e5;have e:Av (tab 59 24):=Hj (Fv 56);obtain⟨is,g6,e6,il,f,f6⟩:=e a.length p g5 _ (by omega) (by omega) g.V.hd;obtain⟨l,bx,_,W,_⟩:=g.V.W;have b6:=g.V.bd.fr f6 f;have z:=W.fr f6;rw[Q5,Q5]at z;obtain⟨ff,dd⟩:=AY g.last.sa g.en;obtain⟨sl,rl⟩:=g.len b c;have e7:tab 59 23 [bw n p tg sh mo,.int o,.tup [.str "look"],.tup (is.map λ(i:Nat)=>D.int i),.az (I.length+1),qx q.2.2.1 v s] g6=some (.bl true,g6):=
  Cj z sl (by omega) (λx hx=>HC hx) ff dd (Q1 47 ho b p1 c g.all g.last g.cC g.go g.ends λh=>by
   cases s with
   |none=>exact absurd rfl h|some j=>exact ff)
 have z1:ax 1=true:=rfl;unfold Js;refine gA (d:=.ref a.length) (g1:=a ++ [xs]) (lG U rfl) ?_;unfold Vl;refine gA (d:=bw n p tg sh mo) (g1:=Y) (lG Z rfl) ?_;unfold Vk;refine gA (d:=.int o) (g1:=I) (lG e3 rfl) ?_;unfold Vj;refine gA (d:=.az (I.length+1)) (g1:=g4) (lG e4 rfl) ?_;unfold Vi;refine gA (d:=qx q.2.2.1 v s) (g1:=g5) (lG e5 rfl) ?_;unfold Vh;have a2:eI [D.str (vx "shared"),.int n,.int p,.int tg,.int sh,.int mo] 2=some (.int p):=rfl;simp[z1,gS,bD,a2,e6,e7];exact b6
def HE (ns:List Int)(A:ns.length<=63):∃B,tab 60 32 [.lst (ns.map .int)] []=some (.bl true,B):=by
 have C:mX (tab 60 32 [.lst (ns.map .int)] []) λq=>q.1 = .bl true:=by
  show mX (ak false 7 1 (HD (tab 59)) _ _) _;refine mf rfl ?_;have u:HD (tab 59)=aw (dF (dX (ae (ag bf fc (aj ((j9 lK iR)) (ae (fC (.int 6)) (ae (aj cg (ae bR af)) af)))) af)) (gN 1) (Js (tab 59))) (aP jP):=rfl;rw[u];have c:∀a b:Int,∀g:G,j9 lK iR [.int a,.int b] g=some (.int (if b<a then b else a),g):=λa b g=>rfl;simp[c];refine sQ ?_;simp[c];have hc:(if(ns.length:Int)<6 then(ns.length:Int)else 6)<=6/\0<=(if(ns.length:Int)<6 then(ns.length:Int)else 6):=by split<;>omega
  refine⟨by omega,by omega,fQ (λj E g=>(∃n f h l o p,E = [some (.lst (ns.map .int)),n,f,h,l,o,p])/\Bd g) _ 0 _ _ ⟨⟨_,_,_,_,_,_,rfl⟩,λi I e=>by simp at e⟩ ?_ ?_⟩
  . rintro j d E g v ⟨⟨n,f,h,l,o,p,rfl⟩,H⟩
    obtain⟨J,rfl⟩:=di v;simp;refine MN (baP (ns:=ns) (j:=j) (by omega) H) λr y=>?_;obtain⟨z,x,s⟩:=y;rw[z];exact⟨x,s⟩
  . rintro E g _
    simp[bU]
 obtain⟨⟨d,B⟩,e,rfl⟩:=C;exact⟨B,e⟩
end
section
open PyProof.Rows
variable {I Z Y M H:Array (Option Value)}{c e d b h:Addr}
def walk {l:Zh}{e:(Str->Option Value)->Heap->Prop}{c:World->Heap->Prop}{d:DefRec}{a:Params->oi}(p:l.most=some 63)(n:d.params.defaults = [])(j:d.name = "law")(o:∀(w:World) (h:Heap),c w h->(a w.params).In h /\ ∀P∈O,h.get? P=some (Um #[]))(F:∀(w:World) (mg:Str->Option Value) (h:Heap),(a w.params).In h->h.Ns tA mg->At (a w.params) O w mg mo):
  agS q K e c l.row.toRowW d [] (λf g=>agI f g):=
 Lm (i:=32) (R:=60) (x:="_law_script") p ⟨rfl,by decide,by decide,rfl⟩ n j o F rfl rfl rfl rfl good (by decide +kernel) HE
def yM {K:oi}{mg:Str->Option Value}{i:Addr}{aW:_}{g:_}{aG:_}{r:_}{S:_}{O:_}{C:_}{B:_}{ab:_}{J:_}{q:_}{v:_}{E:_}{L:_}{U:_}{N:Array (Option Value)}{w:_}{p:_}{z:_}{u:_}{W:_}{ar:_}{o:_}{A:_}{s:_}{n:_}{x:_}{Q:_}{T:_}{j:_}{y:_}(a3:O5 K tA "NUMBERS" = some (some (.ref i)))(a0:K.lookup i=some ⟨.type "dict",none,.dict #[⟨Z6 l.params "once",.str "once" g,.ref f⟩,⟨Z6 l.params "twice",.str "twice" S,.ref c⟩,⟨Z6 l.params "handed",.str "handed" ab,.ref e⟩,⟨Z6 l.params "signs",.str "signs" L,.ref d⟩,⟨Z6 l.params "shared",.str "shared" W,.ref b⟩,⟨Z6 l.params "tables",.str "tables" Q,.ref h⟩] aW,#[]⟩)(ah:K.lookup f=some ⟨.type "tuple",none,.seq #[(.str "hands" r)] aG,Z⟩)(X:K.lookup c=some ⟨.type "tuple",none,.seq #[(.str "hands" C),(.str "turn" B)] O,I⟩)(aO:K.lookup e=some ⟨.type "tuple",none,.seq #[(.str "hands" q),(.str "turn" v),(.str "moves" E)] J,Y⟩)(aA:K.lookup d=some ⟨.type "tuple",none,.seq #[(.str "hands" w),(.str "toggles" p),(.str "shakes" z),(.str "moves" u)] U,N⟩)(R:K.lookup b=some ⟨.type "tuple",none,.seq #[(.str "hands" o),(.str "places" A),(.str "toggles" s),(.str "shakes" n),(.str "moves" x)] ar,M⟩)(P:K.lookup h=some ⟨.type "tuple",none,.seq #[(.str "hands" j),(.str "boxes" y)] T,H⟩)(a4:(i == M7)=false):∃a,O5 K tA "NUMBERS" = some (some (.ref a)) /\ ∀lx,jB l ⟨K,l,mg,lx⟩ a lN:=⟨_,a3,λlx=>⟨⟨_,_,_,a0,⟨rfl,rfl,rfl⟩,rfl,⟨_,_,_,rfl,⟨_,rfl⟩,rfl,⟨.ref f,rfl,.inr ⟨_,_,_,_,_,rfl,by rfl,rfl,ah,rfl,rfl,rfl,(show 1<=m6 by decide),.cons ⟨_,rfl⟩ (.nil)⟩⟩,⟨_,_,_,rfl,⟨_,rfl⟩,rfl,⟨.ref c,rfl,.inr ⟨_,_,_,_,_,rfl,by rfl,rfl,X,rfl,rfl,rfl,(show 2<=m6 by decide),.cons ⟨_,rfl⟩ (.cons ⟨_,rfl⟩ (.nil))⟩⟩,⟨_,_,_,rfl,⟨_,rfl⟩,rfl,⟨.ref e,rfl,.inr ⟨_,_,_,_,_,rfl,by rfl,rfl,aO,rfl,rfl,rfl,(show 3<=m6 by decide),.cons ⟨_,rfl⟩ (.cons ⟨_,rfl⟩ (.cons ⟨_,rfl⟩ (.nil)))⟩⟩,⟨_,_,_,rfl,⟨_,rfl⟩,rfl,⟨.ref d,rfl,.inr ⟨_,_,_,_,_,rfl,by rfl,rfl,aA,rfl,rfl,rfl,(show 4<=m6 by decide),.cons ⟨_,rfl⟩ (.cons ⟨_,rfl⟩ (.cons ⟨_,rfl⟩ (.cons ⟨_,rfl⟩ (.nil))))⟩⟩,⟨_,_,_,rfl,⟨_,rfl⟩,rfl,⟨.ref b,rfl,.inr ⟨_,_,_,_,_,rfl,by rfl,rfl,R,rfl,rfl,rfl,(show 5<=m6 by decide),.cons ⟨_,rfl⟩ (.cons ⟨_,rfl⟩ (.cons ⟨_,rfl⟩ (.cons ⟨_,rfl⟩ (.cons ⟨_,rfl⟩ (.nil)))))⟩⟩,⟨_,_,_,rfl,⟨_,rfl⟩,rfl,⟨.ref h,rfl,.inr ⟨_,_,_,_,_,rfl,by rfl,rfl,P,rfl,rfl,rfl,(show 2<=m6 by decide),.cons ⟨_,rfl⟩ (.cons ⟨_,rfl⟩ (.nil))⟩⟩,rfl⟩⟩⟩⟩⟩⟩⟩,a4⟩⟩
end
open PySem.W PyProof.Rows
namespace PySem.W.Fast
theorem te18391597132674029784:1=1:=rfl
theorem tw1156621358495305603:1=1:=rfl
theorem tw8835289191062875229:1=1:=rfl
theorem tw3179343427032171389:1=1:=rfl
theorem tw10663537406446590052:1=1:=rfl
theorem tw14537863221758374745:1=1:=rfl
theorem tw13553921672818518778:1=1:=rfl
theorem tw7876949365997266818:1=1:=rfl
theorem tw2464399749476892397:1=1:=rfl
theorem tw8132557837576793320:1=1:=rfl
theorem tw212508101568784442:1=1:=rfl
theorem tw12577119773531463876:1=1:=rfl
theorem tw1420720420211726273:1=1:=rfl
theorem tw7201003601824869574:1=1:=rfl
theorem tw3066285824786605857:1=1:=rfl
theorem tw11133846861622301908:1=1:=rfl
theorem tw4066651533302998037:1=1:=rfl
theorem tw1212839749061080151:1=1:=rfl
theorem tw1173948909414589876:1=1:=rfl
theorem tw6615845252468111844:1=1:=rfl
theorem tw10604138169126795246:1=1:=rfl
theorem tw7916161204097683695:1=1:=rfl
theorem tw529184373270232888:1=1:=rfl
theorem tw15497466731356725654:1=1:=rfl
theorem tw15082185640378895931:1=1:=rfl
theorem tw1633703932199983603:1=1:=rfl
theorem tw13112812611100009016:1=1:=rfl
theorem tw11419541636517713500:1=1:=rfl
theorem tw5148620561971582866:1=1:=rfl
theorem tw6590770605588091231:1=1:=rfl
theorem tw10247436872110129003:1=1:=rfl
theorem tw8009893081594869739:1=1:=rfl
theorem tw279533151978432641:1=1:=rfl
theorem tw14578437863661912528:1=1:=rfl
theorem tw999615296882707583:1=1:=rfl
theorem tw15611507544138911988:1=1:=rfl
theorem tw4409358992102725396:1=1:=rfl
theorem tw11571327147584436543:1=1:=rfl
theorem tw3411172398987693825:1=1:=rfl
theorem tw3928405750045327899:1=1:=rfl
theorem tw15080969368638284458:1=1:=rfl
theorem tw9281150325412866882:1=1:=rfl
theorem tw3167478394584218050:1=1:=rfl
theorem tw11162609180418453037:1=1:=rfl
theorem tw14052341229246948893:1=1:=rfl
theorem tw17262545093231765459:1=1:=rfl
theorem tw2044176689175670098:1=1:=rfl
theorem tw959761011485242891:1=1:=rfl
theorem tw12101066184885848865:1=1:=rfl
theorem tw8985347836532335884:1=1:=rfl
theorem tw1428132071181942380:1=1:=rfl
theorem tw16293858503102358956:1=1:=rfl
theorem tw6993417799215583455:1=1:=rfl
theorem tw12432225198930813206:1=1:=rfl
theorem tw14536864545304719788:1=1:=rfl
theorem tw1008421349484570218:1=1:=rfl
theorem tw16261525420297234408:1=1:=rfl
theorem tw5895492642609554836:1=1:=rfl
theorem tw5580740581993469165:1=1:=rfl
theorem tw17384563231337338716:1=1:=rfl
theorem tw6809337367029417698:1=1:=rfl
theorem tw62687871966949179:1=1:=rfl
theorem tw6042347959902530692:1=1:=rfl
theorem tw6905245343546555558:1=1:=rfl
theorem tw7632631899824016:1=1:=rfl
theorem tw6684758150804478221:1=1:=rfl
theorem tw14788708383036335113:1=1:=rfl
theorem tw528721344310294342:1=1:=rfl
theorem tw12318507753800146569:1=1:=rfl
theorem tw16677911659429040103:1=1:=rfl
theorem tw8903763803764936427:1=1:=rfl
theorem tw7633560332047307548:1=1:=rfl
theorem tw15902918243443728001:1=1:=rfl
theorem tw13036736669387587194:1=1:=rfl
theorem tw14143140024607647428:1=1:=rfl
theorem tw12754655130659131156:1=1:=rfl
theorem tw5587777493655960533:1=1:=rfl
theorem tw7510322530289858827:1=1:=rfl
theorem tw10275505896789478897:1=1:=rfl
theorem tw10688974280464096385:1=1:=rfl
theorem tw3489428442001105031:1=1:=rfl
theorem tw2511977554226728891:1=1:=rfl
theorem tw13711168614392004353:1=1:=rfl
theorem tw12411412848859244527:1=1:=rfl
theorem tw4166959792919264785:1=1:=rfl
theorem tw11651369756871335628:1=1:=rfl
theorem tw713015653324576909:1=1:=rfl
theorem tw2180866829846062541:1=1:=rfl
theorem tw247319127222309664:1=1:=rfl
theorem tw9312678316824437500:1=1:=rfl
theorem tw2827531615191980062:1=1:=rfl
theorem tw9186005728066642246:1=1:=rfl
theorem tw358200603948455359:1=1:=rfl
theorem tw15891812960536671380:1=1:=rfl
theorem tw15136231464328474741:1=1:=rfl
theorem tw8300122905936046285:1=1:=rfl
theorem tw9323646581836578716:1=1:=rfl
theorem tw25577691375769267:1=1:=rfl
theorem tw1475934098814685376:1=1:=rfl
theorem tw5456049019863029074:1=1:=rfl
theorem tw6068337294946011748:1=1:=rfl
theorem tw10415293144644409680:1=1:=rfl
theorem tw10508066802152820016:1=1:=rfl
theorem tw11074902557875806677:1=1:=rfl
theorem tw3956251897180703064:1=1:=rfl
theorem tw18280523445240607387:1=1:=rfl
theorem tw409682305884878205:1=1:=rfl
theorem tw16218433464396914858:1=1:=rfl
theorem tw6742203152452884577:1=1:=rfl
theorem tw3135974281691290331:1=1:=rfl
theorem tw5457864687149276242:1=1:=rfl
theorem tw9356149545740949274:1=1:=rfl
theorem tw6355366694684006384:1=1:=rfl
theorem tw11577429083451354225:1=1:=rfl
theorem tw10312355943342527820:1=1:=rfl
theorem tw9847471604528860312:1=1:=rfl
theorem tw3512223043167029114:1=1:=rfl
theorem tw6321103886105565167:1=1:=rfl
theorem tw10512576695380775106:1=1:=rfl
theorem tw8749805344728117196:1=1:=rfl
theorem tw14374558264116512575:1=1:=rfl
theorem tw6628839593951697261:1=1:=rfl
theorem tw11711550120977378752:1=1:=rfl
theorem tw7298563050038677022:1=1:=rfl
theorem tw1298039467609194384:1=1:=rfl
theorem tw15966231527699726573:1=1:=rfl
theorem tw13638270220936339320:1=1:=rfl
theorem tw15605230193164868270:1=1:=rfl
theorem tw5784364384403279210:1=1:=rfl
theorem tw12475557082376471926:1=1:=rfl
theorem tw7249316683079463730:1=1:=rfl
theorem tw10908487680144359553:1=1:=rfl
theorem tw16791930150374338069:1=1:=rfl
theorem tw13814178119800620927:1=1:=rfl
theorem tw3811296516734309989:1=1:=rfl
theorem tw13039082735259874398:1=1:=rfl
theorem tw3366077587789402459:1=1:=rfl
theorem tw14780830749861645225:1=1:=rfl
theorem tw13674755125627380077:1=1:=rfl
theorem tw13590956686117833726:1=1:=rfl
theorem tw1673607219175227656:1=1:=rfl
theorem tw597511000977103938:1=1:=rfl
theorem tw8025253077535348933:1=1:=rfl
theorem tw14296211973554344852:1=1:=rfl
theorem tw14103772826132639412:1=1:=rfl
theorem tw9358836132181872598:1=1:=rfl
theorem tw1008277347529002593:1=1:=rfl
theorem tw4497637569259846478:1=1:=rfl
theorem tw1214628458877923141:1=1:=rfl
theorem tw8783803066941707149:1=1:=rfl
theorem tw10628596164338846194:1=1:=rfl
theorem tw9892762653517943206:1=1:=rfl
theorem tw18271928914107936955:1=1:=rfl
theorem tw11076176480794364087:1=1:=rfl
theorem tw9248063958241710667:1=1:=rfl
theorem tw12460788554283601483:1=1:=rfl
theorem tw18437272998390187469:1=1:=rfl
theorem tw9319513692245339488:1=1:=rfl
theorem tw17708769691050731796:1=1:=rfl
theorem tw11848002282499821703:1=1:=rfl
theorem tw1785289547460104307:1=1:=rfl
theorem tw7184822736646532723:1=1:=rfl
theorem tw9098143287630446166:1=1:=rfl
theorem tw4545479304547634996:1=1:=rfl
theorem tw13944382856289151623:1=1:=rfl
theorem tw13815960796948322166:1=1:=rfl
theorem tw15432804446609400844:1=1:=rfl
theorem tw5900695129358413141:1=1:=rfl
theorem tw9926664386213449586:1=1:=rfl
theorem tw17653619138350450286:1=1:=rfl
theorem tw16911315721707626390:1=1:=rfl
theorem tw15518140560836486887:1=1:=rfl
theorem tw5961606748787602364:1=1:=rfl
theorem tw17576877137316473226:1=1:=rfl
theorem tw9517522127032390945:1=1:=rfl
theorem tw4545668184919189688:1=1:=rfl
theorem tw17452213025337121823:1=1:=rfl
theorem tw100638619225468437:1=1:=rfl
theorem tw7660737576257984607:1=1:=rfl
theorem tw1903182522122681450:1=1:=rfl
theorem tw757308462936475049:1=1:=rfl
theorem tw7475446483462029797:1=1:=rfl
theorem tw6319587750295443923:1=1:=rfl
theorem tw5025169388974095054:1=1:=rfl
theorem tw1166989947408048860:1=1:=rfl
theorem tw8433193983981445471:1=1:=rfl
theorem tw11270020382684474371:1=1:=rfl
theorem tw4865681854292314608:1=1:=rfl
theorem tw2004133861046478514:1=1:=rfl
theorem tw17203925052753768908:1=1:=rfl
theorem tw2040835528076367569:1=1:=rfl
theorem tw15830509038522782285:1=1:=rfl
theorem tw2131902411701881727:1=1:=rfl
theorem tw6301829022286543981:1=1:=rfl
theorem tw9736758980267860763:1=1:=rfl
theorem tw3886653467783526089:1=1:=rfl
theorem tw2905249594148705025:1=1:=rfl
theorem tw18179961163245869152:1=1:=rfl
theorem tw4324074824624796891:1=1:=rfl
theorem tw1129989952610173284:1=1:=rfl
theorem tw5399875157894882380:1=1:=rfl
theorem tw13484810235737247488:1=1:=rfl
theorem tw9698516427885815712:1=1:=rfl
theorem tw13991973534794758355:1=1:=rfl
theorem tw229051334554402328:1=1:=rfl
theorem tw13156531992664040321:1=1:=rfl
theorem tw12903645885032278453:1=1:=rfl
theorem tw4341660276894025156:1=1:=rfl
theorem tw14803464445502226092:1=1:=rfl
theorem tw13959082996923467040:1=1:=rfl
theorem tw6349937857421925620:1=1:=rfl
theorem tw7786470099294503851:1=1:=rfl
theorem tw17626209713899439057:1=1:=rfl
theorem tw5329232259830312334:1=1:=rfl
theorem tw6971822540059677400:1=1:=rfl
theorem tw13571223341850262178:1=1:=rfl
theorem tw8959893125011873084:1=1:=rfl
theorem tw14866207266872813461:1=1:=rfl
theorem tw227424925607922892:1=1:=rfl
theorem tw16164103782976230301:1=1:=rfl
theorem tw15659757189731673021:1=1:=rfl
theorem tw14008310799156491278:1=1:=rfl
end PySem.W.Fast

set_option maxRecDepth 100000 in
set_option maxHeartbeats 0 in
theorem PySem.Challenge.cw_wholeglance_k22_looks_of_shared_holds : PySem.Challenge.rw_wholeglance_k22_looks_of_shared.Holds := by
  w_on; o_law; k_head; (case hw => w_witness2)
  k_fill
  refine walk (l := PySem.Challenge.rw_wholeglance_k22_looks_of_shared) rfl rfl rfl (fun w h Y => by exact ⟨PySem.W.km_in_of Y, PySem.W.km_tabs_of Y⟩) ?F
  case F =>
    intro w mg h KX G
    refine' ⟨_, _, _, (bB.cons ?_ ?_ ?_ ?_ (oV fun _ _=>rfl)
 (bB.cons ?_ ?_ ?_ ?_ (oU fun _=>rfl)
 (bB.cons ?_ ?_ ?_ ?_ (oU fun _=>rfl)
 (bB.cons ?_ ?_ ?_ ?_ (oU fun _=>rfl)
 (bB.cons ?_ ?_ ?_ ?_ (O0 fun _ _ _ _ _=>rfl)
 (bB.cons ?_ ?_ ?_ ?_ (oV fun _ _=>rfl)
 (bB.cons ?_ ?_ ?_ ?_ (oV fun _ _=>rfl)
 (bB.cons ?_ ?_ ?_ ?_ (UI fun _ _ _ _=>rfl)
 (bB.maker ?_ ?_ ?_ ?_ ?_ ?_ ?_ ?_ ?_ (mF fun _ _ _=>rfl)
 (bB.maker ?_ ?_ ?_ ?_ ?_ ?_ ?_ ?_ ?_ (mF fun _ _ _=>rfl)
 (bB.cons ?_ ?_ ?_ ?_ (mF fun _ _ _=>rfl)
 (bB.cons ?_ ?_ ?_ ?_ (mF fun _ _ _=>rfl)
 (bB.cons ?_ ?_ ?_ ?_ (mF fun _ _ _=>rfl)
 (bB.cons ?_ ?_ ?_ ?_ (O0 fun _ _ _ _ _=>rfl)
 (bB.cons ?_ ?_ ?_ ?_ (mF fun _ _ _=>rfl)
 (bB.cons ?_ ?_ ?_ ?_ (oV fun _ _=>rfl)
 (bB.cons ?_ ?_ ?_ ?_ (oV fun _ _=>rfl)
 (bB.cons ?_ ?_ ?_ ?_ (oV fun _ _=>rfl)
 (bB.cons ?_ ?_ ?_ ?_ (oU fun _=>rfl)
 (bB.cons ?_ ?_ ?_ ?_ (mF fun _ _ _=>rfl)
 (bB.cons ?_ ?_ ?_ ?_ (oV fun _ _=>rfl)
 (bB.cons ?_ ?_ ?_ ?_ (mF fun _ _ _=>rfl)
 (bB.cons ?_ ?_ ?_ ?_ (mF fun _ _ _=>rfl)
 (bB.cons ?_ ?_ ?_ ?_ (us6 fun _ _ _ _ _ _=>rfl)
 (bB.cons ?_ ?_ ?_ ?_ (oV fun _ _=>rfl)
 (bB.cons ?_ ?_ ?_ ?_ (oU fun _=>rfl)
 (bB.cons ?_ ?_ ?_ ?_ (oV fun _ _=>rfl)
 (bB.cons ?_ ?_ ?_ ?_ (oV fun _ _=>rfl)
 (bB.cons ?_ ?_ ?_ ?_ (mF fun _ _ _=>rfl)
 (bB.cons ?_ ?_ ?_ ?_ (mF fun _ _ _=>rfl)
 (bB.cons ?_ ?_ ?_ ?_ (mF fun _ _ _=>rfl)
 (bB.cons ?_ ?_ ?_ ?_ (oU fun _=>rfl)
 (bB.cons ?_ ?_ ?_ ?_ (oU fun _=>rfl)
 (bB.lam (fun _ _ _ _ => (oU fun _=>rfl)) (bB.lam (fun _ _ _ _ => (oU fun _=>rfl)) bB.nil))))))))))))))))))))))))))))))))))), ?_,
 (bc ?z_len (bc ?z_min (bc ?z_int (bc ?z_tuple (bc ?z_sorted (bc ?z_set (bc ?z_range (bc ?z_zip (bc ?z_isinstance bn))))))))),
    UK, (cc (yM ?qn_NUMBERS ?ql_NUMBERS ?qv_NUMBERS_0 ?qv_NUMBERS_1 ?qv_NUMBERS_2 ?qv_NUMBERS_3 ?qv_NUMBERS_4 ?qv_NUMBERS_5 ?qs_NUMBERS) UK)⟩
    all_goals try first | k_is | rfl | kernel_rfl | k_mem
