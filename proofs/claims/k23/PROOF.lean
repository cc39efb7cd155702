import PyProof.Rows.All
import Wide.All
import OpenK.AllK
import Wide.FinOn
import Lean
import PyProof.EqAt
import PyProof.EqKinds
import PyProof.TupleCall
import PySem.Challenge.RW_wholeglance_k23_puts_of_shared
set_option backward.eqns.nonrecursive false
noncomputable section
open PySem renaming wpAny_bind->mA,Shared->mJ,wpAny_pure->mT,sizeLine->nE,starEach->nN,Program->uV,Around->qr,mem_of_lookup->z6,DictEntry->rG,wpAny_call_entry->x9,wpAny_holding->v3,wpAny_newObj_type->AF,mainGlobals->uP,wpAny_callSpecial?_slot->IF,foldedSetIterable->FV,collect->D4,wpAny_ite_split->EY,binaryOp->tA,placesWithHash->Fz,FuncData->yy,compareOp->wR,cellsFrom->wW,Builtin->u3,wpAny_Call_Name_kw->Sw,assignEach->Dc,wpAny_field->FC,wpAny_rule->DF,backTo->vE,wpAny_dictEpoch->SW,bootBuiltins->NW,NameKind->BB,sizeLine_eq->L3,rawInt->xm,swappedStores->TL,wpAny_typeNameOfWhole_keyiter->ac8,sysModules->O2,wpAny_passesOwn->Wl,swapsWithSole->VH,Comprehension->ado,wpAny_truthy_bool->adp,wpAny_dictEntries->adq,swapsWith->OJ,wpAny_setField->XP,IsPart->Bs,wpAny_askSetting->ady,wpAny_forIn_list->adC,holding->HX,call_meets->UH,codeAny_builtin->adJ,wpAny_sequenceKey->adO,wpAny_setState_of->adP,pyNext->EM,codeAny_mono->V8,wpAny_seqItems->adX,Arguments->Vm,bindName->Pj,wpAny_isInstance->ad5,assign->Hv,wpAny_standAt->ad9,intKind->Ob,sliceBounds->We,wpAny_ite_false->aeh,Operator->Wm,wpAny_typeOf->ael,SetTable->Vw,pickOrder->Vl,wpAny_setField_rec->aep,wpAny_bindName->aeu,codeAny->PM,getItem->Q2,setNext->QP,slot_dict_getitem->aeE,assignInOrder->aeK,behindInMarks->aeL,attributeBase->aeM,wpAny_attempt->aeN,seqSlot_of->aeR,builtinLookup_eq_fast->aeW,wpAny_mono->ae0,wpAny_Name->ae1,wpAny_loadName_local->ae2,wpAny_execs_nil->ae3,wpAny_updateSeq->ae9,wpAny_loadName_cell->afd,wpAny_setEntries_of->aff,bindArgs->WE,Keyword->Vj,callerA->Vx,wpAny_fieldsOf->afl,firstArgMember->afm,PassesOwn->Z9,pyIter->Ux,slot_dict_contains->afF,plainId_quiet->afN,wpAny_pyIter_list->afT,wpAny_pyIter_slot->afV,builtinsNs->af0,typeIs_int->af2,closureFor->af4,fillsNumberSlot_seq->af6,relabel->ZY,dictGet->W2,GenState->agc,concat_meets->age,noFill_tuple_add->agf,checkBuiltinCall->agj,beq_builtin_none->agm,letOwnedTupleGo->ags,typeLookup_type->agt,wpAny_specialOf->agu,eqIsQuiet->agv,wpAny_Call_method_late->agz,wpAny_alloc->agB,standAt->agG,argsOk->XN,isSubtype_stop->agJ,wpAny_notOrdered_dict->agR,wpAny_isOneOf_keyiter->agS,wpAny_call->agV,call->agZ,setsByText->ag0,seqRepeat?->ag1,numAt_eq->ag3,seq_tuple_add->ag7,wpAny_handled->aha,wpAny_loadName_free->ahc,hashInt->ahy,setItem->ahz,BindsTo->ahA,seqIndex_of->ahN,keywordEach->ahO,wpAny_of_eq->ahP,wpAny_throw->ahQ
open List renaming getElem?_eq_some_iff->nz,getElem?_eq_getElem->nP,length_append->nh,mem_cons->nQ,getElem?_append_left->r_,mem_append->nY,size_toArray->pd,replicate->nW,getElem?_set_ne->p9,mem_cons_of_mem->qz,getElem?_map->qy,mem_map->oa,getElem?_set_self->tv,mem_of_getElem?->ta,mem_cons_self->tc,length_map->ro,getElem?_append_right->CY,getElem?_take_of_lt->B0,not_mem_nil->vV,getElem?_eq_none->zA,length_cons->xk,append_nil->wQ,range->sv,append_assoc->zU,lookup_cons->yE,getD_eq_getElem?_getD->O1,length_singleton->F4,length_take->Aq,length_zip->zk,getElem_mem->Ds,getElem?_zip_eq_some->Qy,map_cons->x8,take_of_length_le->Jt,mem_append_right->N1,filterMap_cons->H9,nodup_cons->D5,mem_of_mem_take->O4,mem_filter->Fp,mem_map_of_mem->Pd,any_cons->BG,mem_iff_getElem->Qa,all_eq_true->Js,drop_eq_getElem_cons->Ws,flatten_cons->Qx,mem_iff_getElem?->UX,map_map->E5,set_getElem_self->Vu,mem_filterMap->RI,elem_iff->IH,replicate_succ->UQ,nil_append->QX,getElem?_of_mem->XJ,length_eq_zero_iff->acq,nodup_append->UK,flatMap_cons->VJ,length_set->S3,filter_cons->UT,length_filter_le->Z2,of_mem_zip->UO,map_append->Vq,ext_getElem?->Wd,take_append_of_le_length->ac9,getElem?_range->Z3,nodup_nil->VX,range'->P8,mem_append_left->ads,getElem?_eq_none_iff->adu,mem_flatMap->adD,filter_sublist->adE,getElem?_cons_zero->adF,filter_append->adK,eq_nil_of_length_eq_zero->adN,set_set->XT,drop_left->Z7,cons_append->ad6,map_fst_zip->ad7,all_cons->Z_,forIn_cons->aeg,mem_range->aet,take_left->aeB,findIdx?_eq_some_iff_getElem->aeH,length_drop->aeO,mem_reverse->aeP,any_eq_true->aeQ,isEmpty_iff->aeT,take_append->aeU,length_nil->ae8,range_succ->afc,flatMap_append->afh,drop_zero->afn,take_succ->afq,length->aft,mem_singleton->afD,set_comm->afK,exists_cons_of_ne_nil->afQ,take_sublist->afU,getElem?_inj->afX,getElem_inj->agd,range'_succ->agk,nodup_range->agl,getElem?_replicate->ago,find?_some->agw,zip_append->agx,range_succ_eq_map->agC,drop_eq_nil_of_le->agF,singleton_append->agK,take_append_drop->agM,forIn_nil->agO,min?_eq_some_iff->agQ,foldl->agY,length_pos_iff->ahg,map_eq_nil_iff->ahi,filterMap_map->ahq,map_nil->ahs,set_cons_zero->ahu,getElem_take->ahG,pairwise_map->ahM,map_id->ahT,mem_nil_iff->ah4,find?_cons->aib,take_zero->aiC
open Bool renaming and_eq_true->nc,false_eq_true->sJ,not_eq_true'->x3,or_eq_true->zg,or_eq_false_iff->Ik,false_ne_true->Lo,not_eq_true->VS,not_true->aea,and_self->aec,or_eq_true_iff->afg,not_eq_false'->afG,or_false->afL,true_and->afO,not_eq_false->afY,false_and->agH,not_false->agN,and_false->aiw
open Option renaming bind_some->nv,map_eq_some_iff->p7,map_some->Iv,isSome_iff_exists->aej,isSome_none->ahv,getD_none->ahY,getD_some->ahZ
open PySem.Heap renaming get?_push_of_some->nU,get?_push_size->qt,lt_size->n7,get?_update_self->MQ,size_push->NX,SameBut->NR,get?_update_other->acC,ExtBut->agA
open Nat renaming le_refl->nA,le_trans->qJ,lt_of_lt_of_le->wh,ne_of_lt->sI,zero_add->uB,zero_le->tj,le_of_ble_eq_true->NC,lt_irrefl->D7,lt_succ_of_lt->QA,add_sub_cancel_left->W3,add_mul->Il,ble_eq_true_of_le->acW,le_add_right->WG,lt_succ_self->adz,sub_self->Vc,beq->F0,le_of_lt->ZQ,mul_comm->XU,ble->Pf,le_of_succ_le->aeD,ne_of_gt->ae4,le_of_eq->ae7,mul_le_mul->afo,add_le_add->afr,lt_trans->agh,add_le_add_right->ag6,add_sub_cancel->ahx,le_succ->ahU,mod_lt->ah8,not_lt_zero->aid,max_le->aif
open PySem.W renaming Frag->o3,keepIn->Pz,kia_one->Sx,fnOf->OK,nsIn->Rv,sortI->Uy,tabObj->VG,OpenLaw->ad2,codeHdIn->ad4,sortI_perm->aer,codeIn->aew,kla_obj->ae_,envX->afa,callWith_K->afA,mg_of->afP,methodObj->afR,eq_sortI->agn,cellsFrom_some->agy,kla_fn->agU,WalkO->ag_,codeHd_of_K->ahd,pyHash_slot->ahf,kitx_list->ahH,kitx_dict->ahI,CodeHd->aiz
open PySem.SetTable renaming below->rk,insertAt->UJ,has->agi,turns->agL,fill->ahb,fits->aiQ,bits->aiR
open PySem.Str renaming ofString->th
open Ne renaming symm->om
open PyProof.Rows renaming slot_tuple_getitem->Pl,callWith_type1->ab9,IntsAre->BJ,assignInOrder_cons->adi,subscriptTail_builtinR->adL,AllBare->SJ,envOfC->P0,callWith_builtin1->ae6,entry_tuple_getitem->afe,args_tuple_getitem->afB,seqObj->RV,assignInOrder_nil->afS,boot_zip->agT,sortedHeap->ag5,tupleItemsOf_->ag8,subscriptTail->ag9,boot_tuple->ahR,boot_int->aij
open Array renaming getElem?_eq_getElem->J6,getElem?_eq_some_iff->adn,getElem?_eq_none->adM,getElem?_toList->adV,length_toList->aef,mem_of_getElem?->aeY,getElem_mem->afW,toList_append->ahh,toList->ahn,forIn_toList->ahw
open PySem.AutoSeq1 renaming wpAny_loadPart'->Qs,sub_tuple_tuple->ac3,idx_int->adB,sub_list_list->aeI,sub_tuple_list->agp,sub_list_tuple->agq
open PySem.NameKind renaming free->zb,cell->B2
open Option.some renaming inj->DK,injEq->adR
open PySem.Value renaming type->wz,none->AR,ref->FY,isStrOf->aeJ,isInt->afs,int->afv,bool->afZ,notImplemented->ag2
open PySem.Heap.SameBut renaming update->MN
open Int renaming toNat_natCast->Im,toNat_of_nonneg->Wg,emod_lt_of_pos->aes,toNat->VY,emod_nonneg->afb,natCast_nonneg->afE,natCast_add->aii
open PySem.Builtin.Slice renaming sliceAdjust->Vd,slicePlaces->YL,sliceApplied->adl,sliceFields->af1
open PySem.Builtin.Tuple renaming tupleExact->VO,tupleItemsOf->adm,tupleHashOf->af3,tupleTooMany->agD
open PySem.Builtin.SmallTypes renaming nextOf->XG,ownedTupleHandOut->aeq,ownedTupleIsFree->aeA
open Function renaming comp_def->Ru
open Classical renaming choose_spec->VI,choose->aeS,byContradiction->af7
open False renaming elim->CZ
open PySem.Builtin.List renaming listTooLong->acn,listFitsIndex->aeb,listExtendWith->afC,listSameRef->agg
open PySem.Obj renaming mapSeq->Gx,data_mapFields->aeo,mapFields->afM,isFreed_of_fields->agP,cls_mapFields->ahJ,mapDictKeys->aic
open ForInStep renaming yield->UU
open PySem.Around renaming under_plainId->adt,frames_deeper->agW
open PySem.SetTable.below renaming go->adQ
open PySem.PyData renaming keyHash->ad0
open PySem.F renaming args_tuple_add_2->aek,entry_tuple_add->aeC,slot_tuple_add->aeF,slot_dict_get->aeZ,plainAttrs_list->agr,entry_dict_get->agE
open PySem.Calls renaming callWith_builtin->aeG,spliced_cons->afz,Name_function_global->afJ,evalArgs_plain->agX,Constant_str->ahm,spliced_nil->ahD
open PySem.Builtin.Dict_items renaming ownsTuple->afp
open PySem.Shared renaming heap->afu,TypeIs->ai0
open PySem.Data renaming cell->afy,dict->aiG
open PySem.ScopeKind renaming function->afH
open True renaming intro->af5
open Sum renaming inl->YP,inr->Z0
open PySem.Challenge renaming pw_wholeglance_k23_puts_of_shared->agb
open PUnit renaming unit->ag4
open Std.Legacy.Range renaming forIn_eq_forIn_range'->ahe,size->akB
open PySem.SeqAt.EqAt renaming int_str->ahj,str_int->ahk
open PySem.Flow renaming next->aho
open PySem.Heap.IsSliceOf renaming new->ahr
open PySem.pickOrder renaming go->aht
open List.Pairwise renaming nil->ahF
open PySem.Setting renaming params->air
open List.Perm renaming swap->ais,refl->aiu
open PySem.Builtin.Frozenset renaming updateFrom->aiB,newClass->aiT,addrOf->ajl,sizeOf->ajm,slot0->ajJ
open PyProof.Rows.IntsAre renaming int_at->aiI
set_option bootstrap.genMatcherCode false
set_option bootstrap.genMatcherCode false
set_option genInjectivity false
set_option genSizeOf false
set_option Elab.async false
set_option linter.all false
set_option maxRecDepth 100000
open PySem PySem.Spec
variable {n p o s:Nat}{b:List (Addr×Obj)}{e C:Expr}{E Q:Value->mJ->Prop}{B:Pos}{f:Addr}{c:mJ}{d:List Expr}{x:Str}{i:Int}{q:uV}{r:List Int}{u:World}{z:Heap}{I:Scope}{J:qr}{M:List Value}{O:List Addr}{R:List Str}{T:Value}{Y:Bool}
section
open PyProof.Rows
variable {Z:Value->Value->Sem Value}{a:List Stmt}{X:Heap}{U:List Addr}{y pos:Pos}{K:o3}{H:Str->Option Value}{A:Unit->mJ->Prop}{o:Obj}{w:yy}{v:Model}{s:String}{r:Array Value}{g:Int->Int->Int}{m:Addr}{j:mJ}{h:CmpOp}{st:Stmt}{op:Wm}{cv:List (Addr×Obj)}
abbrev Key:=Sum Int Str
noncomputable def vQ:Key->Value->Bool
 |.inl k,v=>afs k v|.inr x,v=>aeJ x v
noncomputable def WD (w:World):Key->Int
 |.inl k=>ahy k|.inr x=>hashStr w x
def dH:∀{k:Key} {v:Value},vQ k v=true->(∃i t,k=YP i/\v=afv i t)\/(∃x t,k=Z0 x/\v=Value.str x t)
 |.inl i,v,h=>by obtain⟨t,e⟩:=Value.isInt_shape (k:=i) (v:=v) h;exact .inl ⟨i,t,rfl,e⟩
 |.inr x,v,h=>by obtain⟨t,e⟩:=Value.isStrOf_shape (x:=x) (v:=v) h;exact .inr ⟨x,t,rfl,e⟩
def CT (x:Str)(t:Tok):vQ (.inr x) (.str x t)=true:=by simp[vQ,aeJ]
def MH (a b:Int):decide ((YP a:Key)=YP b)=(a == b):=by
 by_cases e:a=b
 . subst e;simp
 . have h:¬(YP a:Key)=YP b:=λq=>e (Sum.inl.inj q)
   rw[decide_eq_false h];exact(beq_eq_false_iff_ne.mpr e).symm
def MI (a b:Str):decide ((Z0 a:Key)=Z0 b)=decide (a=b):=by
 by_cases e:a=b
 . subst e;simp
 . have h:¬(Z0 a:Key)=Z0 b:=λq=>e (Sum.inr.inj q)
   rw[decide_eq_false h,decide_eq_false e]
def MJ (a:Int)(b:Str):decide ((YP a:Key)=Z0 b)=false:=decide_eq_false (λq=>nomatch q)
def MK (a:Str)(b:Int):decide ((Z0 a:Key)=YP b)=false:=decide_eq_false (λq=>nomatch q)
def fE (prog:uV)(w:World):PySem.KeyKind prog w Key where
 is:=vQ
 hash:=WD w
 inj:=λv a b f d=>by
  rcases dH f with⟨i,t,rfl,rfl⟩|⟨x,t,rfl,rfl⟩
  . rcases dH d with⟨j,u,rfl,e⟩|⟨y,u,rfl,e⟩
    . injection e with e1 _;rw[e1]
    . exact nomatch e
  . rcases dH d with⟨j,u,rfl,e⟩|⟨y,u,rfl,e⟩
    . exact nomatch e
    . injection e with e1 _;rw[e1]
 byValue:=λk v h=>by rcases dH h with⟨i,t,rfl,rfl⟩|⟨x,t,rfl,rfl⟩<;>rfl
 pyHash:=λc h=>by
  rcases dH c with⟨i,t,rfl,rfl⟩|⟨x,t,rfl,rfl⟩
  . exact wpAny_pyHash_int h
  . exact wpAny_pyHash_str h
 eqBool:=λhu c h=>by
  rcases dH hu with⟨i,t,rfl,rfl⟩|⟨x,t,rfl,rfl⟩
  . rcases dH c with⟨j,u,rfl,rfl⟩|⟨y,u,rfl,rfl⟩
    . rw[MH]at h;exact wpAny_eqBool_int h
    . rw[MJ]at h;exact ahj i t y u _ _ _ _ h
  . rcases dH c with⟨j,u,rfl,rfl⟩|⟨y,u,rfl,rfl⟩
    . rw[MK]at h;exact ahk x t j u _ _ _ _ h
    . rw[MI]at h;exact wpAny_eqBool_str h
 «strs»:=λk x t v h=>by
  rcases dH h with⟨i,u,rfl,e⟩|⟨y,u,rfl,e⟩
  . exact nomatch e
  . injection e with e1 _
    subst e1;cases v<;>rfl
def qp (prog:uV)(w:World)(x:Str)(t:Tok):(fE prog w).is (.inr x) (.str x t)=true:=CT x t
set_option genInjectivity true in
inductive V where
 |aB|bl (b:Bool)|int (i:Int)|str (x:Str)|CU (b:Array UInt8)|iM (b:UInt64)|ref (a:Addr)|ty (n:String)
 deriving DecidableEq
noncomputable def m5:V->Value->Prop
 |.aB,u=>u=AR|.bl b,u=>u=afZ b|.int i,u=>∃t,u=afv i t|.str x,u=>∃t,u=Value.str x t|.CU b,u=>∃t,u=Value.bytes b t|.iM b,u=>∃t,u=Value.float b t|.ref a,u=>u=FY a|.ty n,u=>u=wz n
abbrev Vals:List V->List Value->Prop:=Paired m5
theorem Vals.length {c:List V}(r:Vals c M):c.length=M.length:=Paired.length r
theorem Vals.get:∀{c:List V} {g:List Value} {i:Nat} {x:V},Vals c g->c[i]? = some x->∃u,g[i]? = some u/\m5 x u
 |_,_,_,_,.nil,e=>by simp at e|_,_,0,_,.cons r _,e=>by simp at e;subst e;exact⟨_,rfl,r⟩|_,_,i+1,x,.cons _ t,e=>by obtain⟨u,b,a⟩:=Vals.get (i:=i) (x:=x) t (by simpa using e);exact⟨u,by simpa using b,a⟩
theorem Vals.set {x:V}{u:Value}(r:m5 x u):∀{c:List V} {g:List Value} (i:Nat),Vals c g->Vals (c.set i x) (g.set i u)
 |_,_,_,.nil=>.nil|_,_,0,.cons _ t=>.cons r t|_,_,i+1,.cons q t=>.cons q (Vals.set r i t)
def Vals.append {c g:List V}{a:List Value}(h:Vals c M)(s:Vals g a):Vals (c++g) (M++a):=by
 induction h with
 |nil=>exact s|cons r _ i=>exact .cons r i
theorem Vals.take:∀{c:List V} {g:List Value} (n:Nat),Vals c g->Vals (c.take n) (g.take n)
 |_,_,0,_=>.nil|_,_,_+1,.nil=>.nil|_,_,n+1,.cons r t=>.cons r (Vals.take n t)
theorem Vals.drop:∀{c:List V} {g:List Value} (n:Nat),Vals c g->Vals (c.drop n) (g.drop n)
 |_,_,0,r=>r|_,_,_+1,.nil=>.nil|_,_,n+1,.cons _ t=>Vals.drop n t
def ML:Option V->Option Value->Prop
 |some v,some u=>m5 v u|none,none=>True|_,_=>False
def KV {a:Type}:List (a×V)->List (a×Value)->Prop:=Paired λ(p:a×V) (q:a×Value)=>p.1=q.1/\m5 p.2 q.2
noncomputable def kV:Key->V
 |.inl i=>.int i|.inr x=>.str x
def fY (h:Heap)(a:Addr)(c:Array Value):Prop:=∃o,h.get? a=some o/\o.cls = .type "tuple" /\ (∃n,o.data = .seq c n)/\o.dict=none
def fY.t (p:fY z f r):IsTup z f r:=by obtain⟨o,c,d,b,_⟩:=p;exact⟨o,c,d,b⟩
def fY.new (h:Heap)(c:Array Value):fY (h.push { cls:=.type "tuple",data:=.seq c }) h.objs.size c:=⟨_,qt _ rfl,rfl,⟨_,rfl⟩,rfl⟩
inductive HO where
 |lst (xs:List V)
 |tup (xs:List V)
 |dK (eO:List (Key×V))|dT (eO:List (List Key×V))
 |set (S:Int->Bool) (n:Nat)
 |ins (C dx:Addr) (fs:List (Str×V))
 |own (x:Addr)
 |xd (fs:List (Str×V))
 |met (f x:Addr)
 |fT (lo hi:Int)
 |nX (o:Obj) (u:HO)
 |cz (p:Pos) (q:Str)
 |jg (q:Str)
 |ext (φ:Heap->Prop)
abbrev Hp:=Addr->Option HO
noncomputable def upd (H:Hp)(a:Addr)(o:HO):Hp:=λb=>if b=a then some o else H b
def aQ {H:Hp}{o:HO}:upd H f o f=some o:=by unfold upd;rw[if_pos rfl]
def aG {H:Hp}{o:HO}(h:m≠f):upd H f o m=H m:=by unfold upd;rw[if_neg h]
def rT {H:Hp}{o u:HO}(h:H f=some o)(c:H m=some u)(d:o≠u):f≠m:=by intro e;subst e;rw[h]at c;exact d (DK c)
def aN {H:Hp}{o:HO}(h:H f=some o)(c:H m=none):f≠m:=by intro e;subst e;rw[h]at c;cases c
section
variable (P:uV)(w:World)
def dX (H:Hp)(h:Heap)(a:Addr):HO->Prop
 |.lst g=>g.length<=nE /\ ∃(r:List Value) (n:Nat),Vals g r/\h.get? a=some { cls:=.type "list",data:=.seq r.toArray n }|.tup g=>g.length<=nE /\ ∃r:List Value,Vals g r/\fY h a r.toArray|.dK y=>y.length<=nE/\(a == O2)=false /\ ∃I,KV y I/\h.DictOf (fE P w) a I
 |.dT y=>y.length<=nE/\(a == O2)=false /\ ∃g:List (List Key×Addr×Value),
  Paired (λ(p:List Key×V) (q:List Key×Addr×Value)=>p.1=q.1/\H q.2.1=some (.tup (p.1.map kV))/\m5 p.2 q.2.2) y g /\
  ∃o J M,h.get? a=some o/\o.ExactDict/\o.data = .dict J M/\J.toList=g.map (entryOfKey (tupleKind (fE P w)))/\(g.map (·.1)).Nodup
 |.set S n=>h.SetOf (Ob P w) a S n
 |.ins C B fs=>H B=some (.own a)/\fs.length<=1000/\B≠a/\h.get? a=some (PySem.W.instObj C B) /\
  ∃i,h.Ns1 B i/\(∀f,ML (fs.lookup f) (i f))/\PySem.Within i (fs.map (·.1))
 |.own _=>∃o,h.get? a=some o|.xd fs=>∃i,h.Ns1 a i /\ ∀f,ML (fs.lookup f) (i f)|.fT O Q=>∃t u v,h.get? a=some { cls:=.type "range",data:=.fields #[.int O t,.int Q u,.int 1 v] }|.nX o u=>h.get? a=some o/\dX H h a u|.cz p q=>∃ps:Array Value,h.get? a=some (VG ps)/\TriplesOk ps.toList/\(codeAmong p ps.toList=none \/ ∃c,codeAmong p ps.toList=some (.ref c)/\H c=some (.jg q))|.jg q=>h.CodeRec (.ref a) q|.met f x=>h.get? a=some (afR (.ref f) (.ref x))|.ext E=>E h/\(∃o,h.get? a=some o) /\ ∀h1 h2:Heap,E h1->(∀o,h1.get? a=some o->h2.get? a=some o)->E h2
def eQ (H:Hp)(h:Heap):Prop:=∀a o,H a=some o->dX P w H h a o
end
section
variable {H:Hp}{o:HO}
theorem dX.lt (x:dX q u H z f o):f<z.objs.size:=by
 cases o with
 |lst c=>obtain⟨_,_,_,_,e⟩:=x;exact n7 e
 |tup c=>obtain⟨_,_,_,p⟩:=x;exact p.t.lt
 |dK g=>obtain⟨_,_,_,_,o,_,_,e,_⟩:=x;exact n7 e
 |dT g=>obtain⟨_,_,_,_,o,_,_,e,_⟩:=x;exact n7 e
 |set S n=>obtain⟨o,_,_,_,e,_⟩:=x;exact n7 e
 |ins C i fs=>obtain⟨_,_,_,e,_⟩:=x;exact n7 e
 |own y=>obtain⟨_,e⟩:=x;exact n7 e
 |xd fs=>obtain⟨_,⟨_,_,_,e,_⟩,_⟩:=x;exact n7 e
 |fT r v=>obtain⟨_,_,_,e⟩:=x;exact n7 e
 |nX B h=>obtain⟨e,_⟩:=x;exact n7 e
 |cz p w=>obtain⟨_,e,_⟩:=x;exact n7 e
 |jg w=>obtain⟨_,_,_,_,b,e,_⟩:=x;cases b;exact n7 e
 |met P y=>exact n7 (show z.get? f=some _ from x)|ext E=>obtain⟨_,⟨_,e⟩,_⟩:=x;exact n7 e
end
theorem Paired.MM {d c:Type}{F G:d->c->Prop}:∀{l₁:List d} {l₂:List c},Paired F l₁ l₂->(∀a b,F a b->G a b)->Paired G l₁ l₂
 |_,_,.nil,_=>.nil|_,_,.cons r t,f=>.cons (f _ _ r) (Paired.MM t f)
def dX.dn {H:Hp}{J:Hp}{o:HO}(x:dX q u H z f o)(k:∀b w,(b=f\/H b=some (.own f))->z.get? b=some w->X.get? b=some w)(B:∀b,H b=some (.own f)->J b=some (.own f))(A:∀b I,H b=some (.tup I)->J b=some (.tup I))(E:∀b P,H b=some (.jg P)->J b=some (.jg P)):dX q u J X f o:=by
 induction o with
 |lst I=>obtain⟨g,M,n,r,e⟩:=x;exact⟨g,M,n,r,k _ _ (.inl rfl) e⟩
 |tup I=>obtain⟨g,M,r,i,e,c⟩:=x;exact⟨g,M,r,i,k _ _ (.inl rfl) e,c⟩
 |dK Y=>obtain⟨g,y,O,r,i,l,j,e,c⟩:=x;exact⟨g,y,O,r,i,l,j,k _ _ (.inl rfl) e,c⟩
 |dT Y =>
  obtain⟨g,y,I,r,i,l,j,e,c⟩:=x;exact⟨g,y,I,Paired.MM r λp P g=>⟨g.1,A _ _ g.2.1,g.2.2⟩,i,l,j,k _ _ (.inl rfl) e,c⟩
 |set S n=>obtain⟨i,l,j,t,e,c⟩:=x;exact⟨i,l,j,t,k _ _ (.inl rfl) e,c⟩
 |ins C dx fs =>
  obtain⟨d,g,ne,e,Q,⟨s,l,j,R,c⟩,r⟩:=x;exact⟨B _ d,g,ne,k _ _ (.inl rfl) e,Q,⟨s,l,j,k _ _ (.inr d) R,c⟩,r⟩
 |own y=>obtain⟨i,e⟩:=x;exact⟨i,k _ _ (.inl rfl) e⟩
 |xd fs=>obtain⟨Q,⟨s,l,j,e,c⟩,r⟩:=x;exact⟨Q,⟨s,l,j,k _ _ (.inl rfl) e,c⟩,r⟩
 |fT lo hi=>obtain⟨t,w,v,e⟩:=x;exact⟨t,w,v,k _ _ (.inl rfl) e⟩
 |nX i w Z=>obtain⟨e,P⟩:=x;exact⟨k _ _ (.inl rfl) e,Z P⟩
 |cz p P=>obtain⟨ps,e,t,r⟩:=x;exact⟨ps,k _ _ (.inl rfl) e,t,r.imp id λ⟨c,U,R⟩=>⟨c,U,E _ _ R⟩⟩
 |jg P=>obtain⟨c,i,O,t,U,e,r⟩:=x;cases U;exact⟨_,i,O,t,rfl,k _ _ (.inl rfl) e,r⟩
 |met h y =>
  have e:z.get? f=some (afR (.ref h) (.ref y)):=x;show X.get? f=some (afR (.ref h) (.ref y));exact k f _ (.inl rfl) e
 |ext φ=>obtain⟨p,⟨o,e⟩,st⟩:=x;exact⟨st _ _ p λo P=>k _ _ (.inl rfl) P,⟨o,k _ _ (.inl rfl) e⟩,st⟩
theorem eQ.lt {H:Hp}{o:HO}(x:eQ q u H z)(e:H f=some o):f<z.objs.size:=(x f o e).lt
def eQ.fresh {H:Hp}(x:eQ q u H z)(e:z.objs.size<=f):H f=none:=by
 cases P:H f with
 |none=>rfl|some w=>exact absurd (wh (x.lt P) e) (D7 _)
def eQ.kept {H:Hp}{h':Heap}(x:eQ q u H z)(k:∀b w,z.get? b=some w->h'.get? b=some w):eQ q u H h':=λa o e =>
 (x a o e).dn (λb w _ P=>k b w P) (λ_ P=>P) (λ_ _ P=>P) λ_ _ P=>P
def eQ.laid {H:Hp}{o:HO}(x:eQ q u H z)(k:∀b w,z.get? b=some w->X.get? b=some w)(h:z.objs.size<=f)(new:dX q u (upd H f o) X f o):eQ q u (upd H f o) X:=λb w e=>by
 have d:=x.fresh h;by_cases hb:b=f
 . subst hb;rw[aQ]at e;cases e;exact new
 . rw[aG hb]at e
   exact(x b w e).dn (λc v _ P=>k c v P) (λc P=>by rw[aG (aN P d)];exact P) (λc g P=>by rw[aG (aN P d)];exact P) λc g P=>by rw[aG (aN P d)];exact P
def Rd (H:Hp)(a:Addr)(u:HO):Prop:=H a=some u \/ ∃o,H a=some (.nX o u)
def Rd.ok {H:Hp}{w:HO}(r:Rd H f w)(x:eQ q u H z):dX q u H z f w:=by
 rcases r with r|⟨o,r⟩
 . exact x f w r
 . obtain⟨_,P⟩:=x f _ r
   exact P
noncomputable def Ij:Option HO->Prop
 |some (.lst _)=>True|some (.dK _)=>True|some (.dT _)=>True|some (.set _ _)=>True|some (.ins _ _ _)=>True|some (.ext _)=>True|_=>False
def eQ.write {H:Hp}{x:Addr}{e:Addr}{C:HO}(ok:eQ q u H z)(n:Ij (H x))(o:e=x\/H e=some (.own x))(k:∀b w,b≠e->z.get? b=some w->X.get? b=some w)(p:∃w,X.get? e=some w)(new:dX q u (upd H x C) X x C):eQ q u (upd H x C) X:=λb w P=>by
 have f:∀c y,H c=some (.own y)->c≠x:=λc y r h=>by subst h;rw[r]at n;exact n
 have l:∀c g,H c=some (.tup g)->c≠x:=λc g r h=>by subst h;rw[r]at n;exact n
 have i:∀c P,H c=some (.jg P)->c≠x:=λc g r h=>by subst h;rw[r]at n;exact n
 by_cases hb:b=x
 . subst hb;rw[aQ]at P;cases P;exact new
 . rw[aG hb]at P
   by_cases B:b=e
   . have d:H b=some (.own x):=by
       rcases o with h|h
       . exact absurd (B.trans h) hb
       . rw[B];exact h
     rw[P]at d;cases d;obtain⟨v,j⟩:=p;exact⟨v,by rw[B];exact j⟩
   . refine(ok b w P).dn (λc v a r=>k c v ?_ r) (λc r=>by rw[aG (f c b r)];exact r) (λc g r=>by rw[aG (l c g r)];exact r) λc P r=>by rw[aG (i c P r)];exact r
     rcases a with rfl|a
     . exact B
     . rintro rfl
       rcases o with h|h
       . exact f c b a h
       . rw[a]at h;cases h;exact hb rfl
noncomputable def MO:HO->Bool
 |.cz _ _=>true|.jg _=>true|_=>false
structure Un (fs ex:List Addr)(H H':Hp)(h h':Heap):Prop where
 keep:∀b o,h.get? b=some o->H b=none->b ∉ fs->b ∉ ex->h'.get? b=some o
 slot:∀b o,h.get? b=some o->H b=none->b∈fs->b ∉ ex->∃sl,h'.get? b=some { o with slots:=sl }
 free:∀b o,h.get? b=some o->H b=none->b ∉ ex->H' b=none
 there:∀b o,h.get? b=some o->b ∉ ex->∃o',h'.get? b=some o'
 l5:∀b xs,H b=some (.tup xs)->H' b=some (.tup xs)
 kK:∀b o u,H b=some (.nX o u)->H' b=some (.nX o u)
 kL:∀b u,MO u=true->H b=some u->H' b=some u
def Un.any {H:Hp}{c:Hp}(u:Un O U H c z X)(q:z.get? f=some o)(n:H f=none)(d:f ∉ U):∃sl,X.get? f=some { o with slots:=sl }:=by
 by_cases hb:f∈O
 . exact u.slot f o q n hb d
 . exact⟨o.slots,u.keep f o q n hb d⟩
def Un.kept {H:Hp}{h':Heap}(k:∀b u,z.get? b=some u->h'.get? b=some u):Un O U H H z h' :=
 ⟨λb a q _ _ _=>k b a q,λb a q _ _ _=>⟨a.slots,k b a q⟩,λ_ _ _ n _=>n,λb a q _=>⟨a,k b a q⟩,λ_ _ q=>q,λ_ _ _ q=>q,λ_ _ _ q=>q⟩
def Un.refl {H:Hp}:Un O U H H z z:=Un.kept λ_ _ q=>q
def Un.laid {H:Hp}{o:HO}(k:∀b u,z.get? b=some u->X.get? b=some u)(d:z.objs.size<=f)(c:H f=none):Un O U H (upd H f o) z X where
 keep:=λb u q _ _ _=>k b u q
 slot:=λb u q _ _ _=>⟨u.slots,k b u q⟩
 free:=λb u q n _=>by rw[aG (sI (wh (n7 q) d))];exact n
 there:=λb u q _=>⟨u,k b u q⟩
 l5:=λb xs q=>by rw[aG (aN q c)];exact q
 kK:=λb u xs q=>by rw[aG (aN q c)];exact q
 kL:=λb u _ q=>by rw[aG (aN q c)];exact q
def Un.write {H:Hp}{x:Addr}{e:Addr}{o:HO}(d:Ij (H x))(f:e=x\/H e=some (.own x))(k:∀b u,b≠e->z.get? b=some u->X.get? b=some u)(i:∃u,X.get? e=some u):Un O U H (upd H x o) z X:=by
 have a:∀b,H b=none->b≠x:=λb n fs=>by subst fs;rw[n]at d;exact d
 have c:∀b,H b=none->b≠e:=λb n fs=>by
   subst fs;rcases f with r|r
   . exact a b n r
   . rw[n]at r;cases r
 have hm:∀b u,H b=some u->¬Ij (some u)->b≠x:=λb u q nm fs=>by subst fs;rw[q]at d;exact nm d
 refine⟨λb u q n _ _=>k b u (c b n) q,λb u q n _ _=>⟨u.slots,k b u (c b n) q⟩,λb u q n _=>by rw[aG (a b n)];exact n,λb u q _=>?_,
   λb h q=>by rw[aG (hm b _ q λfs=>fs)];exact q,λb u h q=>by rw[aG (hm b _ q λfs=>fs)];exact q,λb v t q=>by rw[aG (hm b _ q λfs=>by cases v<;>first|exact fs|cases t)];exact q⟩
 by_cases g:b=e
 . subst g;exact i
 . exact⟨u,k b u g q⟩
noncomputable def lE (h:Heap)(H:Hp):List Addr:=(sv h.objs.size).filter λa=>(H a).isSome
def nq (h:Heap)(H:Hp):Heap:=PySem.W.hideAll h (lE h H)
def CV (h:Heap)(H:Hp):(nq h H).objs.size=h.objs.size:=PySem.W.hideAll_size _ _
def F5 {H:Hp}(e:z.get? f=some o)(n:H f=none):(nq z H).get? f=some o :=
 PySem.W.hideAll_get _ e λhm=>by have q:(H f).isSome=true:=(Fp.mp hm).2;rw[n]at q;simp at q
def J7 {H:Hp}(e:(nq z H).get? f=some o):z.get? f=some o/\H f=none:=by
 have a:z.get? f=some o:=PySem.W.of_hideAll (lE z H) e;refine⟨a,?_⟩;cases q:H f with
 |none=>rfl
 |some x =>
  have hm:f∈lE z H:=Fp.mpr ⟨aet.mpr (n7 a),by simp[q]⟩;have h:(nq z H).get? f=none:=PySem.W.hideAll_none (lE z H) hm;rw[h]at e;cases e
noncomputable def J8 (g h:Heap)(L:Addr):List (Addr×Obj):=(sv h.objs.size).filterMap λa=>if a=L\/(g.get? a).isSome=true then none else(h.get? a).map λo=>(a,o)
def rest (g h:Heap)(L d:Addr):List (Addr×Obj):=(J8 g h L).filter λp=>decide (p.1≠d)
structure bab (K:o3)(mg:Str->Option Value)(base:Heap):Prop where
 rV:K.In base
 glob:base.Ns uP mg
 blt:∃mb,base.Ns af0 mb /\ ∀x:Str,x ≠ "__name__"->mb x=NW x
 nolimit:base.NoLimit
 bm:∃bm ob,BMod base uP mg bm ob
structure eA where
 ar:Vm
 bd:Expr
 sc:Scope
 qual:Str
 fv:List Str
 ps:List Str
structure Lx where
 tb:List (Addr×Pos×Str)
 lm:Str->Option eA
structure Cx where
 prog:uV
 w:World
 K:o3
 mg:Str->Option Value
 base:Heap
 A:qr
 N:List Str
 s₀:mJ
 H₀:Hp
 env:Env
 outer:List Env
 stack:List Env
 ex:List Addr
 fn:Str->Bool
 calm:Bool
 pn:List (Addr×Obj)
 xe:Value->mJ->Prop
 lx:Lx
noncomputable def lF (l:List Env):List Addr:=l.filterMap (·.frame)
abbrev Cx.fs (X:Cx):List Addr:=lF X.outer
def CW (sc:Scope)(x:Str):Prop:=sc.names.lookup x=some .local\/sc.names.lookup x=some .cell\/sc.names.lookup x=some .free
def Ee (sc:Scope)(x:Str):Prop:=sc.names.lookup x=some .local\/sc.names.lookup x=some .cell
noncomputable def bae (env:Env)(h:Heap)(m:Str->Option Value)(x:Str)(u:Value):Prop :=
 (env.kindOf x=some .local/\m x=some u)\/((env.kindOf x=some .cell\/env.kindOf x=some .free) /\ ∃c,env.cells.lookup x=some c/\h.IsCell c (some u))
structure Cx.Ok (X:Cx):Prop where
 mod:bab X.K X.mg X.base
 kind:X.env.scope.kind = .function
 glob:X.env.globals=uP
 blt:X.env.builtins=af0
 above:X.s₀.heap.objs.size<=X.env.locals
 inj:∀x y c,X.env.cells.lookup x=some c->X.env.cells.lookup y=some c->x=y
 has:∀x,(X.env.kindOf x=some .cell\/X.env.kindOf x=some .free)->∃c,X.env.cells.lookup x=some c
 zB:∀x c,X.fn x=true->X.env.cells.lookup x=some c->X.s₀.heap.objs.size<=c
 hd:X.calm=true->X.A.handled=none
 frames:X.A.frames=some X.stack
 wA:X.stack=X.outer\/(X.stack=X.env::X.outer/\X.env.frame=some X.env.locals)
 MP:∀b∈X.ex,b≠X.env.locals /\ ∀x c,X.env.cells.lookup x=some c->c≠b
 bs:∀b o,X.base.get? b=some o->X.s₀.heap.get? b=some o/\X.H₀ b=none
 oF:X.base.objs.size<=X.s₀.heap.objs.size
 qP:∀b o,X.base.get? b=some o->b ∉ X.ex
 wB:∀b∈X.ex,b ∉ X.fs
 iO:X.s₀.heap.FunFrames X.base X.outer
 rW:∀b∈X.fs,X.H₀ b=none
structure mH (X:Cx)(cv:List (Addr×Obj))(σ:List (Option V))(H:Hp)(s:mJ):Prop where
 ok:X.Ok
 os:s.os=X.s₀.os
 bare:SJ s.gens
 base:Un X.fs X.ex X.H₀ H X.s₀.heap s.heap
 loc:∃m,s.heap.Ns X.env.locals m /\ ∀(i:Nat) (x:Str) (v:V),X.N[i]? = some x->σ[i]? = some (some v)->CW X.env.scope x->∃u,m5 v u/\bae X.env s.heap m x u
 cell:∀x c,X.env.cells.lookup x=some c->∃v,s.heap.IsCell c v
 free:H X.env.locals=none
 ik:∀x c,X.env.cells.lookup x=some c->H c=none
 pin:∀p∈X.pn++cv,s.heap.get? p.1=some p.2/\H p.1=none/\p.1≠X.env.locals/\p.1 ∉ X.fs /\ ∀v,p.2.data ≠ .cell v
 aW:eQ X.prog X.w H s.heap
 len:σ.length=X.N.length
def Cx.Ok.WH {X:Cx}(ok:X.Ok)(e:X.base.get? f=some o):f ∉ X.fs:=λa=>by have:=(ok.iO.mem a).1;rw[e]at this;cases this
theorem mH.bs {X:Cx}{g:List (Option V)}{H:Hp}(I:mH X cv g H c):∀b o,X.base.get? b=some o->c.heap.get? b=some o/\H b=none:=λb o e =>
 ⟨I.base.keep b o (I.ok.bs b o e).1 (I.ok.bs b o e).2 (I.ok.WH e) (I.ok.qP b o e),I.base.free b o (I.ok.bs b o e).1 (I.ok.bs b o e).2 (I.ok.qP b o e)⟩
def mH.bk {X:Cx}{g:List (Option V)}{H:Hp}(I:mH X cv g H c):∀b o,X.base.get? b=some o->c.heap.get? b=some o:=λb o e=>(I.bs b o e).1
theorem mH.mod {X:Cx}{g:List (Option V)}{H:Hp}(I:mH X cv g H c):bab X.K X.mg X.base:=I.ok.mod
def mH.g_ {X:Cx}{g:List (Option V)}{H:Hp}(I:mH X cv g H c):X.K.In c.heap:=I.ok.mod.rV.keeps I.bk
theorem mH.lt {X:Cx}{g:List (Option V)}{H:Hp}(I:mH X cv g H c):X.env.locals<c.heap.objs.size:=by obtain⟨_,a,_⟩:=I.loc;exact a.lt
def mH.sz {X:Cx}{g:List (Option V)}{H:Hp}(I:mH X cv g H c):X.s₀.heap.objs.size<=c.heap.objs.size:=qJ I.ok.above (ZQ I.lt)
def mH.WI {X:Cx}{g:List (Option V)}{H:Hp}(I:mH X cv g H c)(h:c.heap.objs.size<=f):f ∉ X.fs:=λb=>by obtain⟨_,o,a,_⟩:=I.ok.iO.mem b;exact absurd (wh (n7 a) (qJ I.sz h)) (D7 _)
def mH.uL {X:Cx}{g:List (Option V)}{H:Hp}(I:mH X cv g H c):∀x s,X.env.cells.lookup x=some s->s≠X.env.locals:=λx s e z=>by obtain⟨v,o,a,hd⟩:=I.cell x s e;obtain⟨m,⟨i,h,f,d,b,_⟩,_⟩:=I.loc;rw[z,d]at a;cases a;rw[b]at hd;cases hd
theorem mH.iO {X:Cx}{g:List (Option V)}{H:Hp}(I:mH X cv g H c):c.heap.FunFrames X.base X.outer:=by
 have all:∀(l:List Env),(∀b∈lF l,b∈X.fs)->X.s₀.heap.FunFrames X.base l->c.heap.FunFrames X.base l:=by
  intro l;induction l with
  |nil=>intro _ _;trivial
  |cons env r q =>
   intro d i;obtain⟨n,⟨L,o,hf,f,j,hd⟩,h⟩:=i;have s:L∈X.fs:=d L (by unfold lF;rw[H9,hf];exact tc);obtain⟨p,e⟩:=I.base.slot L o j (I.ok.rW L s) s λz=>I.ok.wB L z s;exact⟨n,⟨L,_,hf,f,e,hd⟩,q (λb a=>d b (by unfold lF;rw[H9,hf];exact qz _ a)) h⟩
 exact all X.outer (λ_ a=>a) I.ok.iO
theorem mH.stack {X:Cx}{g:List (Option V)}{H:Hp}(I:mH X cv g H c):c.heap.FunFrames X.base X.stack:=by
 rcases I.ok.wA with e|⟨e,hf⟩
 . rw[e];exact I.iO
 . rw[e]
   obtain⟨m,a,_⟩:=I.loc;refine .cons (by rw[I.ok.kind];decide) hf a ?_ I.iO;exact Heap.get?_none_of_le (qJ I.ok.oF I.ok.above)
def mH.rX {X:Cx}{g:List (Option V)}{H:Hp}(I:mH X cv g H c):∀b∈lF X.stack,b∈X.env.locals::X.fs:=λb a=>by
 rcases I.ok.wA with e|⟨e,hf⟩
 . rw[e]at a;exact qz _ a
 . rw[e]at a
   unfold lF at a;rw[H9,hf]at a;exact a
def mH.zC {X:Cx}{g:List (Option V)}{H:Hp}(I:mH X cv g H c):∀b∈lF X.stack,H b=none:=λb a=>by
 rcases nQ.mp (I.rX b a)with e|a
 . rw[e];exact I.free
 . obtain⟨_,o,s,_⟩:=I.ok.iO.mem a
   exact I.base.free b o s (I.ok.rW b a) λz=>I.ok.wB b z a
def mH.step {O:Cx}{σ:List (Option V)}{H:Hp}{R:Hp}{g':Array agc}{d':Drawn}{ch:List Addr}(I:mH O cv σ H c)(E:∀b∈ch,(b∈O.ex\/O.s₀.heap.objs.size<=b)/\b≠O.env.locals/\(∀x g,O.env.cells.lookup x=some g->g≠b) /\ ∀p∈O.pn++cv,p.1≠b)(B:∀b o,b≠O.env.locals->b ∉ O.fs->b ∉ ch->c.heap.get? b=some o->H b=none->X.get? b=some o)(slot:∀b o,b≠O.env.locals->b∈O.fs->b ∉ ch->c.heap.get? b=some o->H b=none->∃sl,X.get? b=some { o with slots:=sl })(A:∀b o,b ∉ ch->c.heap.get? b=some o->H b=none->R b=none)(C:∀b o,b ∉ ch->c.heap.get? b=some o->∃U,X.get? b=some U)(J:∀b Q,H b=some (.tup Q)->R b=some (.tup Q))(L:∀b o u,H b=some (.nX o u)->R b=some (.nX o u))(M:∀b u,MO u=true->H b=some u->R b=some u)(ns:∀m,c.heap.Ns O.env.locals m->X.Ns O.env.locals m)(K:eQ O.prog O.w R X)(N:SJ g'):
   mH O cv σ R { c with heap:=X,gens:=g',drawn:=d',toks:=n }:=by
 have Ut:∀b o,O.s₀.heap.get? b=some o->b≠O.env.locals:=λb o e=>sI (wh (n7 e) I.ok.above);have Y:∀b o,O.s₀.heap.get? b=some o->b ∉ O.ex->b ∉ ch:=λb o e a f=>by
   rcases (E b f).1 with z|z
   . exact a z
   . exact absurd (wh (n7 e) z) (D7 _)
 have cellK:∀x g,O.env.cells.lookup x=some g->∀v,c.heap.IsCell g v->X.IsCell g v:=λx g e v ⟨o,j,hd⟩=>by
   have y:g ∉ ch:=λz=>(E g z).2.2.1 x g e rfl;by_cases hc:g∈O.fs
   . obtain⟨sl,q⟩:=slot g o (I.uL x g e) hc y j (I.ik x g e)
     exact⟨_,q,hd⟩
   . exact⟨o,B g o (I.uL x g e) hc y j (I.ik x g e),hd⟩
 refine⟨I.ok,I.os,N,⟨λb o e s f a=>?_,λb o e s f a=>?_,λb o e s a=>?_,λb o e a=>?_,λb Q e=>J b Q (I.base.l5 b Q e),λb o Q e=>L b o Q (I.base.kK b o Q e),λb u t e=>M b u t (I.base.kL b u t e)⟩,?_,λx g e=>?_,?_,λx g e=>?_,λp hp=>?_,K,I.len⟩
 . exact B b o (Ut b o e) f (Y b o e a) (I.base.keep b o e s f a) (I.base.free b o e s a)
 . obtain⟨sl,h⟩:=I.base.slot b o e s f a
   obtain⟨oG,Z⟩:=slot b _ (Ut b o e) f (Y b o e a) h (I.base.free b o e s a);exact⟨oG,Z⟩
 . obtain⟨U,h⟩:=I.base.there b o e a
   exact A b U (Y b o e a) h (I.base.free b o e s a)
 . obtain⟨U,h⟩:=I.base.there b o e a
   exact C b U (Y b o e a) h
 . obtain⟨m,hn,hl⟩:=I.loc
   refine⟨m,ns m hn,λi x v h Z e3=>?_⟩;obtain⟨u,r,l⟩:=hl i x v h Z e3;refine⟨u,r,?_⟩;rcases l with l|⟨k,g,e,z⟩
   . exact .inl l
   . exact .inr ⟨k,g,e,cellK x g e _ z⟩
 . obtain⟨v,z⟩:=I.cell x g e
   exact⟨v,cellK x g e v z⟩
 . obtain⟨m,⟨o,_,_,j,_⟩,_⟩:=I.loc
   exact A _ o (λz=>(E _ z).2.1 rfl) j I.free
 . obtain⟨v,o,j,hd⟩:=I.cell x g e
   exact A g o (λz=>(E g z).2.2.1 x g e rfl) j (I.ik x g e)
 . obtain⟨e,s,ne,nf,d⟩:=I.pin p hp
   have y:p.1 ∉ ch:=λz=>(E p.1 z).2.2.2 p hp rfl;exact⟨B p.1 p.2 ne nf y e s,A p.1 p.2 y e s,ne,nf,d⟩
def mH.un {X:Cx}{B:List (Option V)}{H:Hp}{g:Hp}{h':Heap}{t':Nat}(I:mH X cv B H c)(u:Un X.fs [] H g c.heap h')(y:eQ X.prog X.w g h'):mH X cv B g { c with heap:=h',toks:=t' }:=by
 obtain⟨m,⟨o,p,l,s,r⟩,_⟩:=id I.loc;obtain⟨x,f⟩:=u.any s I.free (by simp);exact I.step (g':=c.gens) (d':=c.drawn) (ch:=[]) (λ_ z=>nomatch z) (λb o _ a _ e n=>u.keep b o e n a (by simp)) (λb o _ a _ e n=>u.slot b o e n a (by simp)) (λb o _ e n=>u.free b o e n (by simp)) (λb o _ e=>u.there b o e (by simp)) u.l5 u.kK u.kL (λv hm=>by obtain⟨q,i,j,d,h⟩:=hm;rw[s]at d;cases d;exact⟨_,i,j,f,h⟩) y I.bare
def mH.call {X:Cx}{E:List (Option V)}{H:Hp}{g:Hp}{h':Heap}{g':Array agc}{t':Nat}{d':Drawn}{ch:List Addr}(I:mH X cv E H c)(u:Un (lF X.stack) ch H g c.heap h')(B:eQ X.prog X.w g h')(C:SJ g')(A:∀b∈ch,(b∈X.ex\/X.s₀.heap.objs.size<=b)/\b≠X.env.locals/\(∀x s,X.env.cells.lookup x=some s->s≠b) /\ ∀p∈X.pn++cv,p.1≠b):
  mH X cv E g { c with heap:=h',gens:=g',drawn:=d',toks:=t' }:=by
 obtain⟨m,⟨o,y,v,f,r⟩,_⟩:=id I.loc;obtain⟨sl,d⟩:=u.any f I.free λz=>(A _ z).2.1 rfl;exact I.step (ch:=ch) A (λb o d i a e n=>u.keep b o e n (λz=>(nQ.mp (I.rX b z)).elim d i) a) (λb o _ _ a e n=>u.any e n a) (λb o a e n=>u.free b o e n a) (λb o a e=>u.there b o e a) u.l5 u.kK u.kL (λJ hm=>by obtain⟨M,l,q,h,j⟩:=hm;rw[f]at h;cases h;exact⟨_,l,q,d,j⟩) B C
def mH.turned {X:Cx}{E:List (Option V)}{H:Hp}{t':Nat}(I:mH X cv E H c)(k:∀b o,b≠f->c.heap.get? b=some o->z.get? b=some o)(A:H f=none)(l:f≠X.env.locals)(y:f∈X.ex\/X.s₀.heap.objs.size<=f)(C:∀x s,X.env.cells.lookup x=some s->s≠f)(B:∀p∈X.pn++cv,p.1≠f):mH X cv E H { c with heap:=z,toks:=t' }:=by
 have d:∀b u,H b=some u->b≠f:=λb u e g=>by rw[g,A]at e;cases e
 refine I.step (g':=c.gens) (d':=c.drawn) (ch:=[f]) (λb h=>?_) (λb o _ _ a e _=>k b o (λg=>a (by simp[g])) e) (λb o _ _ a e _=>⟨o.slots,k b o (λg=>a (by simp[g])) e⟩) (λ_ _ _ _ n=>n)
   (λb o a e=>⟨o,k b o (λg=>a (by simp[g])) e⟩) (λ_ _ e=>e) (λ_ _ _ e=>e) (λ_ _ _ e=>e) (λm hm=>?_) (λb u e=>?_) I.bare
 . have e:b=f:=by simpa using h
   subst e;exact⟨y,l,C,B⟩
 . obtain⟨o,i,it,j,r⟩:=hm
   exact⟨o,i,it,k _ o (om l) j,r⟩
 . refine(I.aW b u e).dn (λs v a q=>k s v ?_ q) (λ_ q=>q) (λ_ _ q=>q) λ_ _ q=>q
   rcases a with g|g
   . rw[g];exact d b u e
   . exact d s _ g
def mH.tok {X:Cx}{g:List (Option V)}{H:Hp}(I:mH X cv g H c)(t:Nat):mH X cv g H { c with toks:=t }:=I.un (h':=c.heap) (t':=t) Un.refl I.aW
theorem mH.kept {X:Cx}{g:List (Option V)}{H:Hp}{h':Heap}{t':Nat}(I:mH X cv g H c)(k:∀b u,c.heap.get? b=some u->h'.get? b=some u):mH X cv g H { c with heap:=h',toks:=t' }:=I.un (Un.kept k) (I.aW.kept k)
theorem mH.laid {X:Cx}{g:List (Option V)}{H:Hp}{o:HO}{t':Nat}(I:mH X cv g H c)(k:∀b u,c.heap.get? b=some u->z.get? b=some u)(a:c.heap.objs.size<=f)(new:dX X.prog X.w (upd H f o) z f o):
 mH X cv g (upd H f o) { c with heap:=z,toks:=t' }:=I.un (Un.laid k a (I.aW.fresh a)) (I.aW.laid k a new)
theorem mH.write {X:Cx}{g:List (Option V)}{H:Hp}{x e:Addr}{o:HO}{t':Nat}(I:mH X cv g H c)(s:Ij (H x))(d:e=x\/H e=some (.own x))(k:∀b u,b≠e->c.heap.get? b=some u->z.get? b=some u)(a:∃u,z.get? e=some u)(new:dX X.prog X.w (upd H x o) z x o):mH X cv g (upd H x o) { c with heap:=z,toks:=t' }:=I.un (Un.write s d k a) (I.aW.write s d k a new)
def mH.zD {X:Cx}{g:List (Option V)}{H:Hp}(I:mH X cv g H c)(h:∀p∈b,c.heap.get? p.1=some p.2/\H p.1=none/\p.1≠X.env.locals/\p.1 ∉ X.fs /\ ∀v,p.2.data ≠ .cell v):mH X b g H c :=
 ⟨I.ok,I.os,I.bare,I.base,I.loc,I.cell,I.free,I.ik,λp a=>(nY.mp a).elim (λz=>I.pin p (ads _ z)) (h p),I.aW,I.len⟩
def wC (h:R.Nodup)(a:R[n]? = some x)(b:R[p]? = some x):n=p:=by obtain⟨f,c⟩:=nz.mp a;obtain⟨e,d⟩:=nz.mp b;exact(agd h).mp (c.trans d.symm)
def uM {X:Cx}{Z:List (Option V)}{H:Hp}{M:Model}{v:V}(I:mH X cv Z H c)(Q:X.N.Nodup)(C:X.N[n]? = some x)(B:Ee X.env.scope x)(r:m5 v T)(h:∀s',mH X cv (Z.set n (some v)) H s'->(∃a,NR a c.heap s'.heap/\(a=X.env.locals\/X.env.cells.lookup x=some a))->A () s')(K:X.fn x=true\/X.env.scope.names.lookup x=some .local):wpAny M J (storeName X.env x T) A E c:=by
 obtain⟨m,hn,hl⟩:=id I.loc;have WJ:(X.env.scope.kind == .class||(X.env.scope.kind == .module&&X.env.locals != X.env.globals))=false:=by rw[I.ok.kind];rfl
 have ab:n < Z.length:=by rw[I.len];exact(nz.mp C).1
 have uL:=I.uL;have tracked:∀{a:Addr} {R:Heap},(∃o,c.heap.get? a=some o/\H a=none)->NR a c.heap R->eQ X.prog X.w H R:=fun {a R} ha f b ob e=>by
   obtain⟨_,_,rY⟩:=ha;refine(I.aW b ob e).dn (λi U hc q=>(f.2 i ?_).trans q) (λ_ q=>q) (λ_ _ q=>q) λ_ _ q=>q;rintro rfl;rcases hc with rfl|hc
   . rw[rY]at e;cases e
   . rw[rY]at hc;cases hc
 rcases B with hk|hk
 . refine wpAny_storeName_local hk hn (λR ZN f=>?_) WJ
   obtain⟨oL,_,_,C0,_⟩:=id hn;refine h _ ⟨I.ok,I.os,I.bare,⟨λb o e u hb B=>?_,λb o e u hb B=>?_,I.base.free,λb o e B=>?_,I.base.l5,I.base.kK,I.base.kL⟩,⟨_,ZN,λj y v' l g e3=>?_⟩,λy i e=>?_,I.free,I.ik,λp hp=>?_,tracked ⟨oL,C0,I.free⟩ f,by simpa using I.len⟩ ⟨_,f,.inl rfl⟩
   . exact(f.2 b (sI (wh (n7 e) I.ok.above))).trans (I.base.keep b o e u hb B)
   . obtain⟨sl,l⟩:=I.base.slot b o e u hb B
     exact⟨sl,(f.2 b (sI (wh (n7 e) I.ok.above))).trans l⟩
   . obtain⟨o',l⟩:=I.base.there b o e B
     exact⟨o',(f.2 b (sI (wh (n7 e) I.ok.above))).trans l⟩
   . by_cases O:j=n
     . subst O
       rw[C]at l;cases l;rw[tv ab]at g;cases g;exact⟨T,r,.inl ⟨hk,by simp⟩⟩
     . rw[p9 (om O)]at g
       obtain⟨u',r',q⟩:=hl j y v' l g e3;refine⟨u',r',?_⟩;rcases q with⟨k,e⟩|⟨k,i,e,z⟩
       . refine .inl ⟨k,?_⟩
         have:y≠x:=λe=>O (wC Q l (e ▸ C));simp[this,e]
       . exact .inr ⟨k,i,e,z.sameBut f (uL y i e)⟩
   . obtain⟨U,z⟩:=I.cell y i e
     exact⟨U,z.sameBut f (uL y i e)⟩
   . obtain⟨e,u,ne,nf,d⟩:=I.pin p hp
     exact⟨(f.2 p.1 ne).trans e,u,ne,nf,d⟩
 . have qu:X.fn x=true:=by
     rcases K with z|z
     . exact z
     . rw[z]at hk;cases hk
   obtain⟨i,hc⟩:=I.ok.has x (.inl hk);obtain⟨U,z⟩:=I.cell x i hc;refine wpAny_storeName_cell I.ok.kind hk hc z (λR uN f=>?_);obtain⟨oc,Uu,WK⟩:=id z;refine h { c with heap:=R } ⟨I.ok,I.os,I.bare,⟨λb o e u hb B=>?_,λb o e u hb B=>?_,I.base.free,λb o e B=>?_,I.base.l5,I.base.kK,I.base.kL⟩,⟨m,hn.sameBut f (om (uL x i hc)),λj y v' l g e3=>?_⟩,λy Y e=>?_,I.free,I.ik,λp hp=>?_,tracked ⟨oc,Uu,I.ik x i hc⟩ f,by simpa using I.len⟩ ⟨i,f,.inr hc⟩
   . exact(f.2 b (sI (wh (n7 e) (I.ok.zB x i qu hc)))).trans (I.base.keep b o e u hb B)
   . obtain⟨sl,l⟩:=I.base.slot b o e u hb B
     exact⟨sl,(f.2 b (sI (wh (n7 e) (I.ok.zB x i qu hc)))).trans l⟩
   . obtain⟨o',l⟩:=I.base.there b o e B
     exact⟨o',(f.2 b (sI (wh (n7 e) (I.ok.zB x i qu hc)))).trans l⟩
   . by_cases O:j=n
     . subst O
       rw[C]at l;cases l;rw[tv ab]at g;cases g;exact⟨T,r,.inr ⟨.inl hk,i,hc,uN⟩⟩
     . rw[p9 (om O)]at g
       obtain⟨u',r',q⟩:=hl j y v' l g e3;refine⟨u',r',?_⟩;rcases q with q|⟨k,Y,e,z'⟩
       . exact .inl q
       . refine .inr ⟨k,Y,e,z'.sameBut f ?_⟩
         rintro rfl;exact O (wC Q l (I.ok.inj _ _ _ e hc ▸ C))
   . by_cases Uv:Y=i
     . subst Uv;exact⟨_,uN⟩
     . obtain⟨w2,z2⟩:=I.cell y Y e
       exact⟨w2,z2.sameBut f Uv⟩
   . obtain⟨e,u,ne,nf,d⟩:=I.pin p hp
     refine⟨(f.2 p.1 ?_).trans e,u,ne,nf,d⟩;intro q;rw[q,Uu]at e;have q':oc=p.2:=DK e;exact d U (by rw[<- q'];exact WK)
def fZ {X:Cx}{p:List (Option V)}{H:Hp}{i:V}(I:mH X cv p H c)(M:X.N.Nodup)(b:X.N[n]? = some x)(d:Ee X.env.scope x)(r:m5 i T)(h:∀g,mH X cv (p.set n (some i)) H g->A () g)(e:X.fn x=true\/X.env.scope.names.lookup x=some .local):wpAny v J (storeName X.env x T) A E c :=
 uM I M b d r (λg a _=>h g a) e
def mH.RW {X:Cx}{n:List (Option V)}{H:Hp}{g:Hp}{ch:List Addr}(I:mH X cv n H j)(q:c.os=j.os)(u:Un (lF X.stack) ch H g j.heap c.heap)(f:eQ X.prog X.w g c.heap)(h:SJ c.gens)(i:∀b∈ch,(b∈X.ex\/X.s₀.heap.objs.size<=b)/\b≠X.env.locals/\(∀x s,X.env.cells.lookup x=some s->s≠b) /\ ∀p∈X.pn++cv,p.1≠b):mH X cv n g c:=by
 obtain⟨d,g',d',t',a⟩:=c;have e:a=j.os:=q;subst e;exact I.call (g':=g') (t':=t') (d':=d') u f h i
abbrev XK:=Value->Option Addr->Hp->Prop
abbrev m6:=List (Option V)
abbrev VK:=V->Hp->Prop
abbrev TE:=m6->Hp->VK->Prop
abbrev TT:=m6->Hp->(Bool->Hp->Prop)->Prop
abbrev TA:=m6->Hp->(List V->Hp->Prop)->Prop
structure Ends where
 nx:m6->Hp->Prop
 rt:VK
 bk:m6->Hp->Prop:=λ_ _=>False
 ct:m6->Hp->Prop:=λ_ _=>False
abbrev TS:=Ends->m6->Hp->Prop
def EP (X:Cx)(cv:List (Addr×Obj))(g:m6)(Q:VK)(u:Value)(a:mJ):Prop:=∃v c,mH X cv g c a/\m5 v u/\Q v c
def TP (X:Cx)(cv:List (Addr×Obj))(g:m6)(Q:Bool->Hp->Prop)(b:Bool)(a:mJ):Prop:=∃c,mH X cv g c a/\Q b c
def AP (X:Cx)(cv:List (Addr×Obj))(h:m6)(Q:List V->Hp->Prop)(i:List Value)(a:mJ):Prop:=∃c g,mH X cv h g a/\Vals c i/\Q c g
def SP (X:Cx)(cv:List (Addr×Obj))(D:Ends)(f:Flow)(a:mJ):Prop :=
 match f with
 |.next=>∃c g,mH X cv c g a/\D.nx c g|.brk=>∃c g,mH X cv c g a/\D.bk c g|.cont=>∃c g,mH X cv c g a/\D.ct c g|.ret u=>∃v c g,mH X cv c g a/\m5 v u/\D.rt v g
noncomputable def PE (X:Cx)(e:Expr)(t:TE):Prop :=
 ∀(cv:List (Addr×Obj)) (s:mJ) (c:m6) (H:Hp) (Q:VK),mH X cv c H s->t c H Q->wpAny (model X.prog X.w) X.A (eval e X.env) (EP X cv c Q) X.xe s
noncomputable def PT (X:Cx)(e:Expr)(t:TT):Prop :=
 ∀(cv:List (Addr×Obj)) (s:mJ) (c:m6) (H:Hp) (Q:Bool->Hp->Prop),mH X cv c H s->t c H Q->wpAny (model X.prog X.w) X.A (isTrue e X.env (eval e X.env)) (TP X cv c Q) X.xe s
noncomputable def PW (X:Cx)(e:Expr)(t:TT):Prop :=
 ∀(whole:Sem Value) (cv:List (Addr×Obj)) (s:mJ) (c:m6) (H:Hp) (Q:Bool->Hp->Prop),mH X cv c H s->t c H Q->wpAny (model X.prog X.w) X.A (isTrue e X.env whole) (TP X cv c Q) X.xe s
def PW.pt {X:Cx}{t:TT}(h:PW X e t):PT X e t:=h _
noncomputable def PA (X:Cx)(g:List Expr)(t:TA):Prop :=
 ∀(pos:Pos) (cv:List (Addr×Obj)) (s:mJ) (c:m6) (H:Hp) (Q:List V->Hp->Prop),mH X cv c H s->t c H Q->wpAny (model X.prog X.w) X.A (spliced (vE pos (nN g X.env))) (AP X cv c Q) X.xe s
def PS (X:Cx)(a:Stmt)(t:TS):Prop :=
 ∀(cv:List (Addr×Obj)) (s:mJ) (c:m6) (H:Hp) (D:Ends),mH X cv c H s->t D c H->wpAny (model X.prog X.w) X.A (exec a X.env) (SP X cv D) X.xe s
def iP (X:Cx)(a:List Stmt)(t:TS):Prop :=
 ∀(cv:List (Addr×Obj)) (s:mJ) (c:m6) (H:Hp) (D:Ends),mH X cv c H s->t D c H->wpAny (model X.prog X.w) X.A (execs a X.env) (SP X cv D) X.xe s
def aX {b:Type}{t:Sem b}{Q M:b->mJ->Prop}(h:wpAny v J t Q E c)(d:∀a c,Q a c->M a c):wpAny v J t M E c:=ae0 h d λ_ _ x=>x
noncomputable def WL (i:Nat):TE:=λc H Q=>∃v,c[i]? = some (some v)/\Q v H
noncomputable def tC (v:V):TE:=λ_ H Q=>Q v H
def MS {X:Cx}(i:X.N[n]? = some x)(o:CW X.env.scope x)(d:(x == ("__debug__":Str))=false)(j:(x == ("__classdict__":Str))=false):PE X (.Name x B) (WL n):=by
 intro cv s g H Q I h;obtain⟨v,e,h⟩:=h;obtain⟨m,a,b⟩:=I.loc;obtain⟨u,r,l⟩:=b n x v i e o;have fin:EP X cv g Q u s:=⟨v,H,I,r,h⟩
 rcases l with⟨hk,hm⟩|⟨hk,c,hc,gB⟩
 . exact ae1 (ae2 I.ok.kind hk a hm fin) d
 . rcases hk with hk|hk
   . exact ae1 (afd I.ok.kind hk hc gB fin) d
   . exact ae1 (ahc I.ok.kind hk hc gB fin j) d
def MT {X:Cx}{i j a}:PE X (.Constant (.int i) j a) (tC (.int i)):=λ_ _ _ H _ I h=>wpAny_Constant_int ⟨.int i,H,I.tok _,⟨_,rfl⟩,h⟩
def RX {X:Cx}{b j a}:PE X (.Constant (.bool b) j a) (tC (.bl b)):=λ_ _ _ H _ I h=>Constant_bool ⟨.bl b,H,I,rfl,h⟩
def MU {X:Cx}{j a}:PE X (.Constant .none j a) (tC .aB):=λ_ _ _ H _ I h=>Constant_none ⟨.aB,H,I,rfl,h⟩
def MV {X:Cx}{x j a}:PE X (.Constant (.str x) j a) (tC (.str x)):=λ_ _ _ H _ I h=>ahm ⟨.str x,H,I.tok _,⟨_,rfl⟩,h⟩
def Gl (X:Cx)(x:Str):Prop:=X.env.kindOf x=some .globalImplicit
def pO {X:Cx}{g:m6}{H:Hp}(I:mH X cv g H c)(b:Gl X x)(d:X.mg x=some T)(h:Q T c)(s:(x == ("__debug__":Str))=false):wpAny (model X.prog X.w) X.A (eval (.Name x B) X.env) Q E c :=
 afJ I.ok.kind b (Calls.loadGlobal_global (by rw[I.ok.glob];exact I.mod.glob.keeps I.bk) d h) s
def iQ {X:Cx}{g:m6}{H:Hp}{u:Value}(I:mH X cv g H c)(e:Gl X x)(i:X.mg x=none)(l:NW x=some u)(h:Q u c)(j:x ≠ "__name__")(f:(x == ("__debug__":Str))=false):wpAny (model X.prog X.w) X.A (eval (.Name x B) X.env) Q E c:=by
 obtain⟨s,b,a⟩:=I.mod.blt;exact afJ I.ok.kind e (Calls.loadGlobal_builtin (by rw[I.ok.glob];exact I.mod.glob.keeps I.bk) i (by rw[I.ok.blt];exact b.keeps I.bk) ((a x j).trans l) h) f
def t7 {X:Cx}{v:V}(b:Gl X x)(d:X.mg x=some T)(r:m5 v T)(c:(x == ("__debug__":Str))=false):PE X (.Name x B) (tC v):=
 λ_ _ _ H _ I h=>pO I b d ⟨v,H,I,r,h⟩ c
def J9 {X:Cx}{v:V}(b:Gl X x)(d:X.mg x=none)(f:NW x=some T)(r:m5 v T)(e:x ≠ "__name__")(c:(x == ("__debug__":Str))=false):PE X (.Name x B) (tC v):=
 λ_ _ _ H _ I h=>iQ I b d f ⟨v,H,I,r,h⟩ e c
noncomputable def tB (t:TE):TT:=λg H Q=>t g H λx h=>∃c,x = .bl c/\Q c h
noncomputable def WM (t u:TT):TT:=λg H Q=>t g H λc h=>if c=true then u g h Q else Q false h
noncomputable def ZO (t u:TT):TT:=λg H Q=>t g H λc h=>if c=true then Q true h else u g h Q
noncomputable def WN (t:TT):TT:=λg H Q=>t g H λc h=>Q (!c) h
def J_ {X:Cx}{g:TT}(d:PT X e g):PW X (.BoolOp .And [e] pos) g:=by
 intro b cv s i H Q I h;refine isTrue_and (aX (d cv s i H Q I h) λc n a=>?_);cases c with
 |true=>exact isTrue_and_nil a|false=>exact a
def MW {X:Cx}{g:TT}(d:PT X e g):PW X (.BoolOp .Or [e] pos) g:=by
 intro b cv s i H Q I h;refine isTrue_or (aX (d cv s i H Q I h) λc n a=>?_);cases c with
 |false=>exact isTrue_or_nil a|true=>exact a
def MX {X:Cx}{g:TT}{n:TT}(l:PT X e g)(j:PW X (.BoolOp .And (C::d) pos) n):PW X (.BoolOp .And (e::C::d) pos) (WM g n):=by
 intro i cv s p H Q I h;refine isTrue_and (aX (l cv s p H _ I h) λc r f=>?_);obtain⟨q,a,b⟩:=f;cases c with
 |true=>exact j i cv r p q Q a b|false=>exact⟨q,a,b⟩
def RY {X:Cx}{g:TT}{n:TT}(l:PT X e g)(j:PW X (.BoolOp .Or (C::d) pos) n):PW X (.BoolOp .Or (e::C::d) pos) (ZO g n):=by
 intro i cv s p H Q I h;refine isTrue_or (aX (l cv s p H _ I h) λc r f=>?_);obtain⟨q,a,b⟩:=f;cases c with
 |true=>exact⟨q,a,b⟩|false=>exact j i cv r p q Q a b
def MY {X:Cx}{g:TT}(d:PT X e g):PT X (.UnaryOp .Not e pos) (WN g):=by intro cv s i H Q I h;exact isTrue_not (d cv s i H (λc n=>Q (!c) n) I h)
noncomputable def RZ (i tb:TE):TE:=λg H Q=>i g H λx h=>∃c,x = .bl c/\if c=true then tb g h Q else Q (.bl false) h
def MZ {X:Cx}{op}{t:TE}(h:PE X e t):PE X (.BoolOp op [e] pos) t:=λcv s c H Q I hw=>BoolOp_one (h cv s c H Q I hw)
def M0 {X:Cx}{g:TE}{tb:TE}(l:PE X e g)(j:PE X (.BoolOp .And (C::d) pos) tb):PE X (.BoolOp .And (e::C::d) pos) (RZ g tb):=by
 intro cv s n H Q I h;refine BoolOp_and (aX (l cv s n H _ I h) λv q i=>?_);obtain⟨x,p,a,f,b⟩:=i;obtain⟨c,rfl,b⟩:=b;cases f;refine adp ?_;cases c with
 |true=>exact j cv q n p Q a b|false=>exact⟨.bl false,p,a,rfl,b⟩
noncomputable def ZP (t:TT)(i tb:TE):TE:=λg H Q=>t g H λc h=>if c=true then i g h Q else tb g h Q
def F6 {X:Cx}{b:Expr}{p:TE}{tb:TE}{q:TT}(n:PT X e q)(l:PE X C p)(j:PE X b tb):PE X (.IfExp e C b pos) (ZP q p tb):=by
 intro cv s g H Q I h;refine wpAny_IfExp (aX (n cv s g H _ I h) λd r i=>?_);obtain⟨u,f,c⟩:=i;cases d with
 |true=>exact l cv r g u Q f c|false=>exact j cv r g u Q f c
def dQ (K:o3)(H:Hp)(a:Addr)(g:List V):Prop :=
 Rd H a (.lst g) \/
  ∃(o:Obj) (c:Array Value) (n:Nat),K.lookup a=some o/\o.cls = .type "list" /\ o.dict=none/\o.data = .seq c n/\c.size<=nE/\Vals g c.toList
def fJ (K:o3)(H:Hp)(a:Addr)(g:List V):Prop :=
 Rd H a (.tup g) \/
  ∃(o:Obj) (c:Array Value) (n:Nat),K.lookup a=some o/\o.cls = .type "tuple" /\ o.dict=none/\o.data = .seq c n/\c.size<=nE/\Vals g c.toList
noncomputable def WO:Value->Option V
 |.none=>some .aB|.bool b=>some (.bl b)|.int i _=>some (.int i)|.str x _=>some (.str x)|.bytes b _=>some (.CU b)|.float b _=>some (.iM b)|.ref a=>some (.ref a)|.type n=>some (.ty n)|_=>none
def m5.abs {x:V}(r:m5 x T):WO T=some x:=by
 cases x with
 |aB=>cases r;rfl|bl _=>cases r;rfl|int _=>obtain⟨t,rfl⟩:=r;rfl
 |str _=>obtain⟨t,rfl⟩:=r;rfl
 |CU _=>obtain⟨t,rfl⟩:=r;rfl
 |iM _=>obtain⟨t,rfl⟩:=r;rfl
 |ref _=>cases r;rfl|ty _=>cases r;rfl
def m5.inj {x y:V}(r:m5 x T)(q:m5 y T):x=y:=DK (r.abs.symm.trans q.abs)
theorem Vals.inj {g c:List V}{i:List Value}(h:Vals g i)(n:Vals c i):g=c:=by
 induction h generalizing c with
 |nil=>cases n;rfl
 |cons r _ p=>cases n with
  |cons q u=>rw[r.inj q,p u]
def dQ.of {H:Hp}{c:List V}(h:H f=some (.lst c)):dQ K H f c:=.inl (.inl h)
def mH.list {X:Cx}{p:m6}{H:Hp}{i:List V}(I:mH X cv p H c)(h:dQ X.K H f i):∃g:List Value,Vals i g/\PlainL c.heap f g.toArray/\i.length<=nE:=by
 rcases h with h|⟨o,g,n,hk,hc,hd,hs,hz,r⟩
 . obtain⟨z,g,n,r,e⟩:=h.ok I.aW
   exact⟨g,r,⟨_,n,e,rfl,rfl,rfl⟩,z⟩
 . refine⟨g.toList,r,⟨o,n,I.g_ f o hk,hc,hd,by simpa using hs⟩,?_⟩
   have e:=r.length;simp only[aef]at e;lia
def mH.M1 {X:Cx}{q:m6}{H:Hp}{i:List V}(I:mH X cv q H c)(h:fJ X.K H f i):∃g:List Value,Vals i g/\fY c.heap f g.toArray/\i.length<=nE:=by
 rcases h with h|⟨o,g,n,hk,hc,hd,hs,hz,r⟩
 . obtain⟨z,g,r,p⟩:=h.ok I.aW
   exact⟨g,r,p,z⟩
 . refine⟨g.toList,r,⟨o,I.g_ f o hk,hc,⟨n,by simpa using hs⟩,hd⟩,?_⟩
   have e:=r.length;simp only[aef]at e;lia
def mH.tuple {X:Cx}{n:m6}{H:Hp}{i:List V}(I:mH X cv n H c)(h:fJ X.K H f i):∃g:List Value,Vals i g/\IsTup c.heap f g.toArray/\i.length<=nE :=
 let⟨g,r,p,z⟩:=I.M1 h
 ⟨g,r,p.t,z⟩
def mH.qQ {X:Cx}{q:m6}{H:Hp}{g:List V}{p:List V}(I:mH X cv q H c)(h:dQ X.K H f g)(u:dQ X.K H f p):g=p:=by
 obtain⟨i,r,⟨o,n,e,_,_,d⟩,_⟩:=I.list h;obtain⟨its',s,⟨l,j,a,_,_,b⟩,_⟩:=I.list u;rw[e]at a;cases a;rw[d]at b;injection b with d1 _
 have:i=its':=by simpa using congrArg ahn d1
 subst this;exact r.inj s
def mH.oH {X:Cx}{q:m6}{H:Hp}{g:List V}{p:List V}(I:mH X cv q H c)(h:fJ X.K H f g)(u:fJ X.K H f p):g=p:=by
 obtain⟨i,r,⟨o,e,_,n,d⟩,_⟩:=I.tuple h;obtain⟨its',s,⟨l,a,_,j,b⟩,_⟩:=I.tuple u;rw[e]at a;cases a;rw[d]at b;injection b with d1 _
 have:i=its':=by simpa using congrArg ahn d1
 subst this;exact r.inj s
noncomputable abbrev Cx.l7 (X:Cx)(E:Value->mJ->Prop):Cx:={ X with xe:=E }
noncomputable abbrev Cx.wD (X:Cx):Cx:=X.l7 λ_ _=>False
theorem Cx.Ok.l7 {X:Cx}(ok:X.Ok)(E:Value->mJ->Prop):(X.l7 E).Ok :=
 ⟨ok.mod,ok.kind,ok.glob,ok.blt,ok.above,ok.inj,ok.has,ok.zB,ok.hd,ok.frames,ok.wA,ok.MP,ok.bs,ok.oF,ok.qP,ok.wB,ok.iO,ok.rW⟩
def Cx.Ok.jQ {X:Cx}(ok:(X.l7 E).Ok):X.Ok :=
 ⟨ok.mod,ok.kind,ok.glob,ok.blt,ok.above,ok.inj,ok.has,ok.zB,ok.hd,ok.frames,ok.wA,ok.MP,ok.bs,ok.oF,ok.qP,ok.wB,ok.iO,ok.rW⟩
theorem mH.l7 {X:Cx}{g:m6}{H:Hp}(I:mH X cv g H c)(E:Value->mJ->Prop):mH (X.l7 E) cv g H c:=⟨I.ok.l7 E,I.os,I.bare,I.base,I.loc,I.cell,I.free,I.ik,I.pin,I.aW,I.len⟩
theorem mH.jQ {X:Cx}{g:m6}{H:Hp}(I:mH (X.l7 E) cv g H c):mH X cv g H c:=⟨I.ok.jQ,I.os,I.bare,I.base,I.loc,I.cell,I.free,I.ik,I.pin,I.aW,I.len⟩
section
variable {X:Cx}
theorem SP.jQ {D:Ends}{f:Flow}{c:mJ}(h:SP (X.l7 E) cv D f c):SP X cv D f c:=by
 cases f with
 |next=>obtain⟨a,b,I,q⟩:=h;exact⟨a,b,I.jQ,q⟩
 |brk=>obtain⟨a,b,I,q⟩:=h;exact⟨a,b,I.jQ,q⟩
 |cont=>obtain⟨a,b,I,q⟩:=h;exact⟨a,b,I.jQ,q⟩
 |ret u=>obtain⟨v,a,b,I,r,q⟩:=h;exact⟨v,a,b,I.jQ,r,q⟩
end
theorem iP.wD {X:Cx}{t:TS}(h:iP X.wD a t):iP X a t:=λcv s c H D I hw =>
 ae0 (h cv s c H D (I.l7 _) hw) (λ_ _ q=>q.jQ) λ_ _ z=>CZ z
noncomputable def Bv:TS:=λD c H=>D.nx c H
noncomputable def WQ (t u:TS):TS:=λD c H=>t { D with nx:=u D } c H
def Ka {X:Cx}:iP X [] Bv:=λ_ _ c H _ I h=>ae3 ⟨c,H,I,h⟩
def F7 {X:Cx}{t:TS}{u:TS}(d:PS X st t)(i:iP X a u):iP X (st::a) (WQ t u):=by
 intro cv s g H D I h;refine wpAny_execs_cons (aX (d cv s g H { D with nx:=u D } I h) λf n q=>?_);cases f with
 |next =>
  obtain⟨rest,b,c,q⟩:=q;exact i cv n rest b D c q
 |ret v=>exact q|brk=>exact q|cont=>exact q
def Kb {X:Cx}{t:TS}(a:PS X st t):iP X [st] t:=by
 intro cv s c H D I h;refine wpAny_execs_cons (aX (a cv s c H D I h) λf g q=>?_);cases f with
 |next=>exact ae3 q|ret v=>exact q|brk=>exact q|cont=>exact q
def Kc {X:Cx}:PS X (.Pass pos) Bv:=λ_ _ c H _ I h=>wpAny_Pass ⟨c,H,I,h⟩
def mH.quiet {X:Cx}{g:m6}{H:Hp}(I:mH X cv g H c):interactive X.env=false:=by simp[interactive,I.ok.kind]
def M3 {X:Cx}{x j pos a}:PS X (.Expr (.Constant (.str x) j pos) a) Bv:=λ_ s c H _ I h=>wpAny_Expr (ahm (show SP X _ _ .next { s with toks:=s.toks+1 } from⟨c,H,I.tok _,h⟩)) I.quiet
noncomputable def R0 (g:TE):TS:=λD c H=>g c H λ_ h=>D.nx c h
def Ke {X:Cx}{g:TE}(f:PE X e g)(d:OJ e none pos.line X.env=pure false):PS X (.Expr e pos) (R0 g):=by intro cv s i H D I h;exact wpAny_Expr_any (aX (f cv s i H _ I h) λv p ⟨x,n,b,c,a⟩=>⟨i,n,b,a⟩) I.quiet d
noncomputable def WR (c:TE):TS:=λD g H=>c g H D.rt
def M4 {X:Cx}{g:TE}(d:PE X e g):PS X (.Return (some e) pos) (WR g):=by intro cv s i H D I h;exact wpAny_Return_some (aX (d cv s i H _ I h) λv p ⟨x,n,c,a,b⟩=>⟨x,i,n,c,a,b⟩)
noncomputable def WS (c:TT)(t u:TS):TS:=λD g H=>c g H λb h=>if b=true then t D g h else u D g h
def R5 {X:Cx}{t:TS}{u:TS}{b:List Stmt}{j:TT}(l:PT X e j)(n:iP X a t)(o:iP X b u):PS X (.If e a b pos) (WS j t u):=by
 intro cv s g H D I h;refine wpAny_If (aX (l cv s g H _ I h) λd p i=>?_);obtain⟨q,f,c⟩:=i;cases d with
 |true=>exact n cv p g q D f c|false=>exact o cv p g q D f c
abbrev TG:=V->m6->Hp->(m6->Hp->Prop)->Prop
abbrev uO:=List V->m6->Hp->(m6->Hp->Prop)->Prop
def PG (X:Cx)(b:Expr)(t:TG):Prop :=
 ∀(cv:List (Addr×Obj)) (s:mJ) (g:m6) (H:Hp) (v:V) (u:Value) (Q:m6->Hp->Prop),mH X cv g H s->m5 v u->t v g H Q ->
  wpAny (model X.prog X.w) X.A (Hv b X.env u) (λ_ a=>∃c h,mH X cv c h a/\Q c h) X.xe s
def qv (X:Cx)(b:List Expr)(t:uO):Prop :=
 ∀(cv:List (Addr×Obj)) (s:mJ) (g:m6) (H:Hp) (h:List V) (i:List Value) (Q:m6->Hp->Prop),mH X cv g H s->Vals h i->t h g H Q ->
  wpAny (model X.prog X.w) X.A (aeK ((Dc b X.env).map (·.2)) i) (λ_ a=>∃c n,mH X cv c n a/\Q c n) X.xe s
abbrev F8:=V->V->V->Hp->(Hp->Prop)->Prop
def F9 (X:Cx)(t:F8):Prop :=
 ∀(cv:List (Addr×Obj)) (s:mJ) (c:m6) (H:Hp) (o i v:V) (g iv u:Value) (Q:Hp->Prop),mH X cv c H s->m5 o g->m5 i iv->m5 v u->t o i v H Q ->
  wpAny (model X.prog X.w) X.A (ahz g iv u) (λ_ a=>∃h,mH X cv c h a/\Q h) X.xe s
abbrev Io:=V->V->Hp->VK->Prop
def Ip (X:Cx)(op:Wm)(t:Io):Prop :=
 ∀(cv:List (Addr×Obj)) (s:mJ) (c:m6) (H:Hp) (x y:V) (v u:Value) (Q:VK),mH X cv c H s->m5 x v->m5 y u->t x y H Q ->
  wpAny (model X.prog X.w) X.A (inplaceOp op v u) (EP X cv c Q) X.xe s
noncomputable def Iq (i:Nat):TG:=λv c H Q=>Q (c.set i (some v)) H
def Kf {X:Cx}(d:X.N.Nodup)(c:X.N[n]? = some x)(e:Ee X.env.scope x)(f:X.fn x=true\/X.env.scope.names.lookup x=some .local):PG X (.Name x pos) (Iq n):=by intro cv s g H v u Q I r h;exact wpAny_assign_Name (fZ I d c e r (λb a=>⟨_,H,a,h⟩) f)
noncomputable def WT:uO:=λa c H Q=>a = []/\Q c H
noncomputable def R6 (t:TG)(u:uO):uO:=λc g H Q=>∃v r,c=v::r/\t v g H λa b=>u r a b Q
def Kg {X:Cx}:qv X [] WT:=by intro cv s c H a g Q I r h;obtain⟨e,h⟩:=h;subst e;cases r;exact afS ⟨c,H,I,h⟩
def F_ {X:Cx}{t:TG}{u:uO}(l:PG X e t)(o:qv X d u)(n:(Dc (e::d) X.env).map (·.2)=Hv e X.env::(Dc d X.env).map (·.2)):qv X (e::d) (R6 t u):=by
 intro cv s g H j B Q I r h;obtain⟨v,i,p,h⟩:=h;subst p;cases r with
 |cons r q =>
  rw[n];refine adi (aX (l cv s g H _ _ _ I r h) λ_ x b=>?_);obtain⟨f,y,a,c⟩:=b;exact o cv x f y _ _ Q a q c
def WU (K:o3)(n:Nat)(t:uO):TG:=λv g H Q=>∃a c,v = .ref a/\fJ K H a c/\c.length=n/\t c g H Q
def M5 {X:Cx}{t:uO}(A:X.calm=true)(h:qv X d t)(B:(Dc d X.env).length=n)(z:(Dc d X.env).findIdx? (·.1)=none):PG X (.Tuple d p pos) (WU X.K n t):=by
 intro cv s g H v u Q I r hw;obtain⟨a,C,k,q,f,hw⟩:=hw;subst k;cases r;obtain⟨y,c,E,x⟩:=I.tuple q;refine assign_Tuple_tuple (I.ok.hd A) E (by simp[B,<- f,c.length]) z λl j=>?_;have i:mH X cv g H { s with heap:=l }:=I.kept (t':=s.toks) λb o e=>j b o (sI (n7 e)) e;exact h cv _ g H C _ Q i (by simpa using c) hw
noncomputable def WV (d c:TE)(t:F8):TG:=λv g H Q=>d g H λo h=>c g h λi b=>t o i v b λa=>Q g a
def M6 {X:Cx}{z A:TE}{t:F8}(i:PE X e z)(B:PE X C A)(J:F9 X t)(E:∀v,Hv (.Subscript e C pos) X.env v=(do
   let g <- HX [v] (eval e X.env);let iv <- HX [v,g] (eval C X.env)
   agG pos
   HX [v,g,iv] (ahz g iv v)
   release [v,g,iv] [])):PG X (.Subscript e C pos) (WV z A t):=by
 intro cv s M H v u Q I r h;rw[E];refine mA (v3 (aX (i cv s M H _ I h) λg O a=>?_));obtain⟨x,R,d,o,f⟩:=a;refine mA (v3 (aX (B cv O M R _ d f) λiv U a=>?_));obtain⟨y,p,c,j,l⟩:=a;refine mA (ad9 (mA (v3 (aX (J cv U M p x y v g iv u _ c o j r l) λ_ Y a=>?_))));obtain⟨n,q,b⟩:=a;exact wpAny_release ⟨M,n,q,b⟩
noncomputable def Ga (a:TE)(g:TG):TS:=λD c H=>a c H λx h=>g x c h D.nx
def M7 {X:Cx}{f:TE}{g:TG}(l:PE X e f)(i:PG X C g)(n:VH [C] e pos.line X.env=pure false)(hw:TL [C] e X.env=pure none)(j:(Dc [C] X.env).map (·.2)= [Hv C X.env]):PS X (.Assign [C] e pos) (Ga f g):=by
 intro cv s p H D I h;refine wpAny_Assign_stores (aX (l cv s p H _ I h) λv r c=>?_) n hw;obtain⟨x,u,d,a,b⟩:=c;rw[j];exact aX (i cv r p u x v _ d a b) λ_ y q=>q
def M8 {X:Cx}{l:TE}(o:X.N.Nodup)(i:X.N[n]? = some x)(p:Ee X.env.scope x)(r:PE X e l)(u:OJ e (some (.Name x B)) pos.line X.env=pure false)(q:X.fn x=true\/X.env.scope.names.lookup x=some .local):
  PS X (.Assign [.Name x B] e pos) (Ga l (Iq n)):=by
 intro cv s g H D I h;refine wpAny_Assign_Name (aX (r cv s g H _ I h) λv E d=>?_) u;obtain⟨y,C,f,a,b⟩:=d;exact fZ f o i p a (λJ c=>⟨_,C,c,b⟩) q
noncomputable def WW (i j:Nat)(b:TA):TS:=λD c H=>b c H λa g=>∃v w,a = [v,w]/\D.nx ((c.set i (some v)).set j (some w)) g
def M9 {X:Cx}{b:Str}{J:TA}{pt:Pos}{kt k2 pt2}(P:X.calm=true)(K:X.N.Nodup)(O:X.N[n]? = some x)(Q:X.N[p]? = some b)(R:n≠p)(Y:X.env.scope.names.lookup x=some .local)(E:X.env.scope.names.lookup b=some .local)(L:PA X [e,C] J)(hw:TL [.Tuple [.Name x y,.Name b B] kt pt] (.Tuple [e,C] k2 pt2) X.env=pure (some [x,b]))(M:VH [.Tuple [.Name x y,.Name b B] kt pt] (.Tuple [e,C] k2 pt2) pos.line X.env=pure false):
  PS X (.Assign [.Tuple [.Name x y,.Name b B] kt pt] (.Tuple [e,C] k2 pt2) pos) (WW n p J):=by
 intro cv s Z H D I h;rw[exec_Assign_arm];refine mA (ad9 ?_);rw[M];refine mA (mT ?_);rw[if_neg (by decide)];refine mA (Tuple_ (aX (L _ cv s Z H _ I h) λus g aS=>?_));obtain⟨vs,H1,u,z,d⟩:=aS;obtain⟨v,w,e1,d⟩:=d;subst e1;obtain⟨c,U,rfl,l,wF⟩:∃c U,us = [c,U]/\m5 v c/\m5 w U:=by
  cases z with
  |cons a q =>
   cases q with
   |cons p' q' =>
    cases q';exact⟨_,_,rfl,a,p'⟩
 refine AF ?_ (by show 2<=nE;decide);have j:mH X cv Z H1 { g with heap:=g.heap.push { cls:=.type "tuple",data:=.seq [c,U].toArray } }:=u.kept (t':=g.toks) λC o i=>nU _ i;rw[hw];refine mA (mT ?_);show wpAny (model X.prog X.w) X.A (do rule "assign.swapped-stores";let items <- unpackItems (.ref g.heap.objs.size) 2 none;aeK [λv=>Pj X.env b v,λv=>Pj X.env x v] items.reverse;pure aho) _ _ _;refine mA (DF (mA (unpackItems_tuple (items:=#[c,U]) (I.ok.hd P) (IsTup.new g.heap _) λh' qw=>?_)));have r:=j.kept (h':=h') (t':=g.toks) λC o i=>qw C o (sI (n7 i)) i;show wpAny _ _ (aeK [λv=>Pj X.env b v,λv=>Pj X.env x v] [U,c] >>= λ_=>pure aho) _ _ _;refine mA (adi (aeu (fZ r K Q (.inl E) wF (λs2 I4=>?_) (.inr E))));refine adi (aeu (fZ I4 K O (.inl Y) l (λs3 f=>afS (mT ?_)) (.inr Y)));rw[afK _ _ (om R)]at f;exact⟨_,H1,f,d⟩
noncomputable def WX (i:Nat)(b:TE)(c:Io):TS:=λD g H=>∃x,g[i]? = some (some x)/\b g H λy h=>c x y h λz a=>D.nx (g.set i (some z)) a
def M_ {X:Cx}{J:TE}{K:Io}(L:X.N.Nodup)(E:X.N[n]? = some x)(C:Ee X.env.scope x)(P:PE X e J)(M:Ip X op K)(O:X.fn x=true\/X.env.scope.names.lookup x=some .local):
   PS X (.AugAssign (.Name x B) op e pos) (WX n J K):=by
 intro cv s g H D I h;obtain⟨v,Q,h⟩:=h;obtain⟨m,b,d⟩:=I.loc;have R:CW X.env.scope x:=by rcases C with k|k;exact .inl k;exact .inr (.inl k)
 obtain⟨u,r,l⟩:=d n x v E Q R;refine wpAny_AugAssign_Name ?_;have go:wpAny (model X.prog X.w) X.A (eval e X.env) (λw j=>wpAny (model X.prog X.w) X.A (inplaceOp op u w) (λr s₃=>wpAny (model X.prog X.w) X.A (storeName X.env x r) (λ_=>SP X cv D .next) X.xe s₃) X.xe j) X.xe s:=by refine aX (P cv s g H _ I h) λw U a=>?_;obtain⟨y,Y,i,o,p⟩:=a;refine aX (M cv U g Y v y u w _ i r o p) λz s2 a=>?_;obtain⟨zv,Z,f,q,q2⟩:=a;exact fZ f L E C q (λs3 I3=>⟨_,Z,I3,q2⟩) O
 rcases l with⟨hk,hm⟩|⟨hk,c,hc,gB⟩
 . exact ae2 I.ok.kind hk b hm go
 . rcases hk with hk|hk
   . exact afd I.ok.kind hk hc gB go
   . rcases C with k|k
     . have:X.env.scope.names.lookup x=some .free:=hk
       rw[k]at this;cases this
     . have:X.env.scope.names.lookup x=some .free:=hk
       rw[k]at this;cases this
noncomputable def Na (f:Int->Int->Int):Io:=λx y H Q=>∃i j,x = .int i/\y = .int j/\Q (.int (f i j)) H
def Nb {X:Cx}:Ip X .Add (Na λi j=>i+j):=by intro cv s g H x y v u Q I a c h;obtain⟨i,j,d,b,q⟩:=h;subst d;subst b;obtain⟨t,rfl⟩:=a;obtain⟨e,rfl⟩:=c;exact iadd_int ⟨.int _,H,I.tok _,⟨_,rfl⟩,q⟩
def Nc {X:Cx}:Ip X .Sub (Na λi j=>i-j):=by intro cv s g H x y v u Q I a c h;obtain⟨i,j,d,b,q⟩:=h;subst d;subst b;obtain⟨t,rfl⟩:=a;obtain⟨e,rfl⟩:=c;exact isub_int ⟨.int _,H,I.tok _,⟨_,rfl⟩,q⟩
noncomputable def Nd (c:TT)(tb:TS):TS:=λD g H=>∃W:Nat->m6->Hp->Prop,(∃m,W m g H) /\ ∀m g H,W m g H ->
 c g H λb i=>if b=true then ∃N:m6->Hp->Prop,(∀h n,N h n->∃p,p < m/\W p h n)/\tb { D with nx:=N,ct:=N,bk:=D.nx } g i else D.nx g i
def Gb {X:Cx}{B:TT}{tb:TS}(C:Z9 (model X.prog X.w) X.A X.env X.xe)(E:PT X e B)(J:iP X a tb):PS X (.While e a [] pos) (Nd B tb):=by
 intro cv s Q H D I h;obtain⟨W,⟨R,U⟩,turn⟩:=h;refine wpAny_While (codeAny_whileLoop (λn Y=>∃g M,mH X cv g M Y/\W n g M) ?_ R ⟨Q,H,I,U⟩);rintro n Z ⟨j,O,y,w1⟩;refine Wl C (aX (E cv Z j O _ y (turn n j O w1)) λb s2 z=>?_);obtain⟨u,r,i⟩:=z;cases b with
 |true =>
  obtain⟨N,x,i⟩:=i;rw[if_pos rfl];refine Wl C (aX (J cv s2 j u _ r i) λf s3 c=>?_);cases f with
  |next =>
   obtain⟨d,body,l,p⟩:=c;obtain⟨o,hm,q⟩:=x d body p;exact⟨o,hm,d,body,l,q⟩
  |cont =>
   obtain⟨d,body,l,p⟩:=c;obtain⟨o,hm,q⟩:=x d body p;exact⟨o,hm,d,body,l,q⟩
  |brk=>exact c|ret v=>exact c
 |false =>
  rw[if_neg Lo];exact ae3 ⟨j,u,r,i⟩
structure It where
 go:Nat->Hp->Prop
 C2:Nat->Hp->V->Hp->Prop
 stop:Nat->Hp->Prop
noncomputable def gU (X:Cx)(cv:List (Addr×Obj))(H:Hp)(b:Addr):Prop :=
 H b=none/\b≠X.env.locals/\b ∉ X.fs/\(b∈X.ex\/X.s₀.heap.objs.size<=b)/\(∀x c,X.env.cells.lookup x=some c->c≠b) /\ ∀p∈X.pn++cv,p.1≠b
def mH.t8 {X:Cx}{g:m6}{H H':Hp}{b:Addr}(I:mH X cv g H c)(d:c.heap.objs.size<=b)(f:H' b=none):gU X cv H' b:=by
 refine⟨f,ae4 (wh I.lt d),I.WI d,.inr (qJ I.sz d),λx s e z=>?_,λp a z=>?_⟩
 . obtain⟨v,q⟩:=I.cell x s e
   exact absurd (wh q.lt (by rw[z];exact d)) (D7 _)
 . exact absurd (wh (n7 (I.pin p a).1) (by rw[z];exact d)) (D7 _)
structure Turn (P:uV)(w:World)(K:o3)(tg:Expr)(J:It)(fp:List Addr)(it:Addr)(tn:Nat->Heap->Prop):Prop where
 mem:it∈fp
 obj:∀i h,tn i h->∀b∈fp,∃o,h.get? b=some o /\ ∀v,o.data ≠ .cell v
 keep:∀i h h',tn i h->(∀b∈fp,∀o,h.get? b=some o->h'.get? b=some o)->tn i h'
 item:∀(X:Cx),X.prog=P->X.w=w->X.K=K->X.calm=true->∀(i:Nat) (cv:List (Addr×Obj)) (s:mJ) (σ:m6) (H:Hp) (E:Value->mJ->Prop),mH X cv σ H s->(∀b∈fp,gU X cv H b)->tn i s.heap->J.go i H ->
  wpAny (model P w) X.A (EM (.ref it)) (λr s1=>∃u,r=some u /\
   wpAny (model P w) X.A (ags tg (.ref it) u) (λ_ s2=>∃x H',mH X cv σ H' s2/\m5 x u/\J.C2 i H x H'/\tn (i+1) s2.heap /\ ∀b∈fp,H' b=none) E s1) E s
 done:∀(X:Cx),X.prog=P->X.w=w->X.K=K->X.calm=true->∀(i:Nat) (cv:List (Addr×Obj)) (s:mJ) (σ:m6) (H:Hp) (E:Value->mJ->Prop),mH X cv σ H s->(∀b∈fp,gU X cv H b)->tn i s.heap->J.stop i H ->
  wpAny (model P w) X.A (EM (.ref it)) (λr s1=>r=none/\mH X cv σ H s1) E s
 self:∀(A:qr) (i:Nat) (s:mJ) (Q:Value->mJ->Prop) (E:Value->mJ->Prop),tn i s.heap->Q (.ref it) s->wpAny (model P w) A (Ux (.ref it)) Q E s
abbrev TI:=m6->Hp->(It->Hp->Prop)->Prop
def Nf (X:Cx)(cv:List (Addr×Obj))(n:m6)(p:Expr)(R:It->Hp->Prop)(c:Value)(a:mJ):Prop :=
 ∃(it:Addr) (h:List Addr) (i:Nat->Heap->Prop) (J:It) (g:Hp),c = .ref it/\mH X cv n g a/\Turn X.prog X.w X.K p J h it i/\i 0 a.heap/\(∀b∈h,gU X cv g b)/\R J g
def PI (X:Cx)(h c:Expr)(a:TI):Prop :=
 ∀(cv:List (Addr×Obj)) (s:mJ) (g:m6) (H:Hp) (R:It->Hp->Prop),mH X cv g H s->a g H R ->
  wpAny (model X.prog X.w) X.A (eval c X.env) (λv i=>wpAny (model X.prog X.w) X.A (Ux v) (Nf X cv g h R) X.xe i) X.xe s
def vR {s : mJ}{n : String}(d : s.heap.get? f = some o)(M : o.cls = .type n)(c : o.data = .fields r)(g : ["enumerate", "zip", "dict_itemiterator", "dict_reverseitemiterator", "odict_iterator", "itertools.zip_longest", "itertools.pairwise"].contains n = false)(a : A () s): wpAny v J (ags e (.ref f) T) A E s := by
 unfold ags;cases e <;> first
   |exact mT a
   | (cases T <;> first
       |exact mT a
       | (refine mA (wpAny_load d ?_)
          rw[M, c];show wpAny v J (if (["enumerate", "zip", "dict_itemiterator", "dict_reverseitemiterator", "odict_iterator", "itertools.zip_longest", "itertools.pairwise"].contains n && r[0]? == some (xm _))= true then _ else _) A E s;rw[if_neg (by intro h; rw[g, agH]at h; cases h)];exact mT a))
noncomputable def Nh (K:o3)(a:Addr):It :=
 ⟨λi H=>∃c x,dQ K H a c/\c[i]? = some x,λi H x b=>b=H /\ ∀c,dQ K H a c->c[i]? = some x,λi H=>∃c,dQ K H a c/\c.length<=i⟩
noncomputable def Ni (K:o3)(a:Addr):It :=
 ⟨λi H=>∃c x,fJ K H a c/\c[i]? = some x,λi H x b=>b=H /\ ∀c,fJ K H a c->c[i]? = some x,λi H=>∃c,fJ K H a c/\c.length<=i⟩
noncomputable def C3 (b:Int)(n:Nat):It:=⟨λi _=>i<n,λi H x a=>a=H/\x = .int (b+i),λi _=>n<=i⟩
def C4 (a it:Addr):Turn q u K e (Nh K a) [it] it (λi h=>h.IsListIter it a i) where
 mem:=by simp
 obj:=λi h st b f=>by
  have P:b=it:=by simpa using f
  subst P;obtain⟨o,P,c,d⟩:=st;exact⟨o,P,λv z=>by rw[d]at z;cases z⟩
 keep:=λi h j st k=>st.at λo P=>k it (by simp) o P
 item:=by intro X w hw hK hc i cv s σ H E I hf st hg;subst w hw hK;obtain⟨xs,x,l,y⟩:=hg;obtain⟨aq,n,p,hz⟩:=I.list l;obtain⟨tg,hu,ru⟩:=n.get y;obtain⟨f0,f1,f2,f3,f4,r⟩:=hf it (by simp);refine wpAny_pyNext_list_item st p.isList (x:=tg) (by simpa using hu) λj hJ sb=>?_;have I1:mH X cv σ H { s with heap:=j }:=I.turned (t':=s.toks) (λb o f P=>(sb.2 b f).trans P) f0 f1 f3 f4 r;obtain⟨o,P,c,d⟩:=id hJ;exact⟨tg,rfl,vR (s:={ s with heap:=j }) P c d (by decide) ⟨x,H,I1,ru,⟨rfl,λys hy=>by rw[I.qQ hy l];exact y⟩,hJ,λb f=>(hf b f).1⟩⟩
 done:=by intro X w hw hK hc i cv s σ H E I hf st hg;subst w hw hK;obtain⟨xs,l,y⟩:=hg;obtain⟨aq,n,p,hz⟩:=I.list l;obtain⟨f0,f1,f2,f3,f4,r⟩:=hf it (by simp);have hl:=n.length;exact wpAny_pyNext_list_end (I.ok.hd hc) st p.isList (by simp;lia) λj eb=>⟨rfl,I.turned (t':=s.toks) (λb o f P=>eb b o f P) f0 f1 f3 f4 r⟩
 self:=λ_ _ _ _ _ st h=>wpAny_pyIter_listiter st h
def Bw (a it:Addr):Turn q u K e (Ni K a) [it] it (λi h=>h.IsTupleIter it a i) where
 mem:=by simp
 obj:=λi h st b f=>by
  have P:b=it:=by simpa using f
  subst P;obtain⟨o,P,c,d⟩:=st;exact⟨o,P,λv z=>by rw[d]at z;cases z⟩
 keep:=λi h j st k=>st.at λo P=>k it (by simp) o P
 item:=by intro X w hw hK hc i cv s σ H E I hf st hg;subst w hw hK;obtain⟨xs,x,l,y⟩:=hg;obtain⟨aq,n,p,hz⟩:=I.tuple l;obtain⟨tg,hu,ru⟩:=n.get y;obtain⟨f0,f1,f2,f3,f4,r⟩:=hf it (by simp);refine wpAny_pyNext_tuple_item st (show s.heap.IsTuple a aq.toArray from p) (x:=tg) (by simpa using hu) λj hJ sb=>?_;have I1:mH X cv σ H { s with heap:=j }:=I.turned (t':=s.toks) (λb o f P=>(sb.2 b f).trans P) f0 f1 f3 f4 r;obtain⟨o,P,c,d⟩:=id hJ;exact⟨tg,rfl,vR (s:={ s with heap:=j }) P c d (by decide) ⟨x,H,I1,ru,⟨rfl,λys hy=>by rw[I.oH hy l];exact y⟩,hJ,λb f=>(hf b f).1⟩⟩
 done:=by intro X w hw hK hc i cv s σ H E I hf st hg;subst w hw hK;obtain⟨xs,l,y⟩:=hg;obtain⟨aq,n,p,hz⟩:=I.tuple l;obtain⟨f0,f1,f2,f3,f4,r⟩:=hf it (by simp);have hl:=n.length;exact wpAny_pyNext_tuple_end (I.ok.hd hc) st (show s.heap.IsTuple a aq.toArray from p) (by simp;lia) λj eb=>⟨rfl,I.turned (t':=s.toks) (λb o f P=>eb b o f P) f0 f1 f3 f4 r⟩
 self:=λ_ _ _ _ _ st h=>wpAny_pyIter_tupleiter st h
def Bx {w:World}(it:Addr)(A:Int)(n:Nat):Turn q w K e (C3 A n) [it] it (λi h=>IsRangeIter h it (A+(i:Nat)*1) ((n:Int)-(i:Nat)) 1) where
 mem:=by simp
 obj:=λi h st b a=>by
  have P:b=it:=by simpa using a
  subst P;exact⟨_,st,λv z=>by have y:Data.fields _=afy v:=z;cases y⟩
 keep:=λi h c st k=>k it (by simp) _ st
 item:=by intro X f hw tg d i cv s σ H E I hf st p;subst f hw tg;obtain⟨f0,f1,f2,l,f4,j⟩:=hf it (by simp);have W:=Walks.range (prog:=X.prog) (w:=X.w) (I.ok.hd d) it A 1 n;refine W.item i s _ _ p st λv c r hv u kk=>?_;obtain⟨t,rfl⟩:=hv;have x:mH X cv σ H { s with heap:=c,toks:=r }:=I.turned (λb o a P=>kk b o (by simpa using a) P) f0 f1 l f4 j;refine⟨_,rfl,vR (s:={ s with heap:=c,toks:=r }) (n:="range_iterator") u rfl rfl (by decide) ⟨.int (A+i),H,x,⟨t,?_⟩,⟨rfl,rfl⟩,u,λb a=>(hf b a).1⟩⟩;rw[Int.mul_one]
 done:=by intro X f hw tg d i cv s σ H E I hf st p;subst f hw tg;obtain⟨f0,f1,f2,l,f4,j⟩:=hf it (by simp);exact wpAny_pyNext_range_end (I.ok.hd d) st (by have:n<=i:=p;lia) λc eb=>⟨rfl,I.turned (t':=s.toks) (λb o a P=>eb b o a P) f0 f1 l f4 j⟩
 self:=λ_ _ _ _ _ st h=>wpAny_pyIter_rangeiter st h
def R7 (K:o3)(b:TE):TI:=λg H R=>b g H λx c=>∃a,x = .ref a/\(∃h,dQ K c a h)/\R (Nh K a) c
def WY (K:o3)(b:TE):TI:=λg H R=>b g H λx c=>∃a,x = .ref a/\(∃h,fJ K c a h)/\R (Ni K a) c
def Kh {X:Cx}{z:TE}(A:PE X e z):PI X C e (R7 X.K z):=by
 intro cv s B H R I h;refine aX (A cv s B H _ I h) λv g i=>?_;obtain⟨x,E,c,f,j⟩:=i;obtain⟨a,l,⟨J,n⟩,q⟩:=j;subst l;cases f;obtain⟨y,r,p,u⟩:=c.list n;refine afT p.isList ?_;refine⟨g.heap.objs.size,[g.heap.objs.size],_,_,E,rfl,c.kept (t':=g.toks) λb o l=>nU _ l,C4 a _,⟨_,qt _ rfl,rfl,rfl⟩,λb d=>?_,q⟩;have l:b=g.heap.objs.size:=by simpa using d
 subst l;exact c.t8 (nA _) (c.aW.fresh (nA _))
def Nj {X:Cx}{z:TE}(A:PE X e z):PI X C e (WY X.K z):=by
 intro cv s B H R I h;refine aX (A cv s B H _ I h) λv g i=>?_;obtain⟨x,E,c,f,j⟩:=i;obtain⟨a,l,⟨J,n⟩,q⟩:=j;subst l;cases f;obtain⟨r,u,p,y⟩:=c.tuple n;refine wpAny_pyIter_tuple (show g.heap.IsTuple a r.toArray from p) ?_;refine⟨g.heap.objs.size,[g.heap.objs.size],_,_,E,rfl,c.kept (t':=g.toks) λb o l=>nU _ l,Bw a _,⟨_,qt _ rfl,rfl,rfl⟩,λb d=>?_,q⟩;have l:b=g.heap.objs.size:=by simpa using d
 subst l;exact c.t8 (nA _) (c.aW.fresh (nA _))
def wG {X:Cx}{g:m6}{H:Hp}{R:It->Hp->Prop}{h:Int}{t u v:Tok}(I:mH X cv g H c)(j:-(2 ^ 62)<=i)(p:i<2 ^ 62)(l:-(2 ^ 62)<=h)(r:h<2 ^ 62)(q:R (C3 i (h-i).toNat) H):wpAny (model X.prog X.w) X.A (Ux (.ref c.heap.objs.size)) (Nf X cv g e R) E { c with heap:=c.heap.push { cls:=.type "range",data:=.fields #[.int i t,.int h u,.int 1 v] },toks:=n }:=by
 refine wpAny_pyIter_range (IsRange.new ..) (small_one j p l r) ?_;have a:mH X cv g H { c with heap:=c.heap.push { cls:=.type "range",data:=.fields #[.int i t,.int h u,.int 1 v] },toks:=n }:=I.kept λb o s=>nU _ s;refine⟨(c.heap.push { cls:=.type "range",data:=.fields #[.int i t,.int h u,.int 1 v] }).objs.size,[(c.heap.push { cls:=.type "range",data:=.fields #[.int i t,.int h u,.int 1 v] }).objs.size],_,_,H,rfl,
   a.kept (t':=n) λb o s=>nU _ s,Bx _ i (h-i).toNat,?_,λb f=>?_,q⟩
 . have d:i+((0:Nat):Int)*1=i:=by simp
   have x:(((h-i).toNat:Nat):Int)-((0:Nat):Int)=Builtin.Range.rangeSize i h 1:=by rw[rangeSize_one];split<;>lia
   show IsRangeIter _ _ (i+((0:Nat):Int)*1) ((((h-i).toNat:Nat):Int)-((0:Nat):Int)) 1;rw[d,x];exact qt _ rfl
 . have s:b=(c.heap.push { cls:=.type "range",data:=.fields #[.int i t,.int h u,.int 1 v] }).objs.size:=by simpa using f
   subst s;exact a.t8 (nA _) (a.aW.fresh (nA _))
def R8 (b:TA):TI:=λc H R=>b c H λa g=>∃j:Int,a = [.int j] /\ -(2 ^ 62)<=j/\j<2 ^ 62/\R (C3 0 j.toNat) g
def R9 (b:TA):TI:=λc H R=>b c H λa g=>∃i j:Int,a = [.int i,.int j]/\(-(2 ^ 62)<=i/\i<2 ^ 62 /\ -(2 ^ 62)<=j/\j<2 ^ 62)/\R (C3 i (j-i).toNat) g
def C5 {X:Cx}{o:TA}(u:Gl X "range")(v:X.mg "range" = none)(x:PA X [e] o)(p:nN [e] X.env = [(false,eval e X.env)]):PI X C (.Call (.Name "range" B) [e] [] y) (R8 o):=by
 intro cv s g H R I h;refine Call_ (iQ I u v boot_range (ab9 (aX (x y cv s g H _ I h) λE J f=>?_) p rfl) (by decide) (by decide));obtain⟨l,M,c,d,b⟩:=f;obtain⟨j,a,b,i,q⟩:=b;subst a;cases d with
 |cons r n =>
  cases n;obtain⟨t,rfl⟩:=r;exact call_range_1 (wG c (by lia) (by lia) b i (by simpa using q))
def C6 {X:Cx}{M:Expr}{A:TA}(p:Gl X "range")(b:X.mg "range" = none)(E:PA X [e,C] A)(J:nN [e,C] X.env = [(false,eval e X.env),(false,eval C X.env)])(z:nN [C] X.env = [(false,eval C X.env)]):
  PI X M (.Call (.Name "range" B) [e,C] [] y) (R9 A):=by
 intro cv s O H R I h;refine Call_ (iQ I p b boot_range (ab9 (aX (E y cv s O H _ I h) λU Y o=>?_) (by rw[J,z]) (by rw[z];rfl)) (by decide) (by decide));obtain⟨x,Z,l,n,c⟩:=o;obtain⟨i,j,a,⟨c,u,d,f⟩,q⟩:=c;subst a;cases n with
 |cons r g =>
  cases g with
  |cons Q g =>
   cases g;obtain⟨t,rfl⟩:=r;obtain⟨v,rfl⟩:=Q;exact call_range_2 (wG l c u d f q)
noncomputable def WZ (c:TI)(g:TG)(tb:TS):TS:=λD h H=>c h H λJ r=>∃W:Nat->Nat->m6->Hp->Prop,(∃m,W 0 m h r) /\ ∀i m h H,W i m h H ->
 (J.stop i H/\D.nx h H)\/(J.go i H /\ ∃N:m6->Hp->Prop,(∀n p,N n p->∃q,q < m/\W (i+1) q n p) /\ ∀x p,J.C2 i H x p->g x h p λa b=>tb { D with nx:=N,ct:=N,bk:=D.nx } a b)
noncomputable def oI (c:List Addr)(h:Heap):List (Addr×Obj):=c.filterMap λb=>(h.get? b).map λo=>(b,o)
def kg (a:f∈O)(e:z.get? f=some o):(f,o)∈oI O z:=RI.mpr ⟨f,a,by rw[e];rfl⟩
def C7 {p:Addr×Obj}(d:p∈oI O z):p.1∈O/\z.get? p.1=some p.2:=by
 obtain⟨b,c,e⟩:=RI.mp d;cases q:z.get? b with
 |none=>rw[q]at e;cases e
 |some o =>
  rw[q]at e;have a:(b,o)=p:=DK e;subst a;exact⟨c,q⟩
def mH.pinned {X:Cx}{g:m6}{H:Hp}(I:mH X cv g H c)(h:∀b∈O,gU X cv H b)(i:∀b∈O,∃o,c.heap.get? b=some o /\ ∀v,o.data ≠ .cell v):mH X (cv++oI O c.heap) g H c :=
 I.zD λp f=>(nY.mp f).elim (λz=>I.pin p (N1 _ z)) λz=>by obtain⟨s,e⟩:=C7 z;obtain⟨n,q,r,_⟩:=h p.1 s;obtain⟨o,a,d⟩:=i p.1 s;rw[e]at a;cases a;exact⟨e,n,q,r,d⟩
def mH.nt {X:Cx}{g:m6}{H:Hp}(I:mH X (cv++b) g H c):mH X cv g H c:=I.zD λp a=>I.pin p (N1 _ (ads _ a))
def Nk {X:Cx}{L:TI}{g:TG}{tb:TS}(E:Z9 (model X.prog X.w) X.A X.env X.xe)(K:X.calm=true)(O:PI X C e L)(M:PG X C g)(R:iP X a tb)(P:∀x,FV e X.env x=pure x):PS X (.For C e a [] B) (WZ L g tb):=by
 intro cv s σ H D I h;refine wpAny_For (aX (O cv s σ H _ I h) λv s1 h1=>aX h1 λNg s2 h2=>?_) P;obtain⟨it,q,tn,J,H2,Q,I2,T,ZR,f2,W,⟨m0,w0⟩,turn⟩:=h2;subst Q;have qR:∀{Y:Hp},(∀b∈q,Y b=none)->∀b∈q,gU X cv Y b:=λhn b R=>⟨hn b R,(f2 b R).2⟩
 refine codeAny_forLoop_any (λn s'=>∃i U Y,mH X cv U Y s'/\tn i s'.heap/\(∀b∈q,Y b=none)/\W i n U Y) ?_ m0 ⟨0,σ,H2,I2,ZR,λb R=>(f2 b R).1,w0⟩;rintro n s3 ⟨i,y,Z,I3,Uw,Ir,w3⟩;rcases turn i n y Z w3 with⟨stop,qn⟩|⟨go,N,hN,step⟩
 . refine Wl E (aX (T.done X rfl rfl rfl K i cv s3 y Z X.xe I3 (qR Ir) Uw stop) λr s4 p=>?_)
   obtain⟨hr,I4⟩:=p;subst hr;exact ae3 ⟨y,Z,I4,qn⟩
 . refine Wl E (aX (T.item X rfl rfl rfl K i cv s3 y Z X.xe I3 (qR Ir) Uw go) λr s4 p=>?_)
   obtain⟨u,hr,h4⟩:=p;subst hr;refine Wl E (aX h4 λ_ s5 p=>?_);obtain⟨x,H5,I5,r5,y5,Nl,C8⟩:=p;have ab:=I5.pinned (qR C8) (T.obj _ _ Nl);refine Wl E (aX (M _ s5 y H5 x u _ ab r5 (step x H5 y5)) λ_ s6 p=>?_);obtain⟨σ6,H6,I6,q6⟩:=p;refine Wl E (aX (R _ s6 σ6 H6 _ I6 q6) λf s7 l=>?_);have again:∀{j:m6} {body:Hp},mH X (cv++oI q s5.heap) j body s7->N j body->∃m,m<n /\ ∃i U Y,mH X cv U Y s7/\tn i s7.heap/\(∀b∈q,Y b=none)/\W i m U Y:=fun {j body} c z=>by obtain⟨m',hm,w7⟩:=hN j body z;refine⟨m',hm,i+1,j,body,c.nt,T.keep _ _ _ Nl λb R o Q=>(c.pin (b,o) (N1 _ (N1 _ (kg R Q)))).1,λb R=>?_,w7⟩;obtain⟨o,Q,d⟩:=T.obj _ _ Nl b R;exact(c.pin (b,o) (N1 _ (N1 _ (kg R Q)))).2.1
   cases f with
   |next=>obtain⟨j,body,c,z⟩:=l;exact again c z
   |cont=>obtain⟨j,body,c,z⟩:=l;exact again c z
   |brk=>obtain⟨j,body,c,l⟩:=l;exact⟨j,body,c.nt,l⟩
   |ret v=>obtain⟨x7,j,body,c,r7,l⟩:=l;exact⟨x7,j,body,c.nt,r7,l⟩
abbrev R2:=V->V->Hp->VK->Prop
def bO (X:Cx)(f:Value->Value->Sem Value)(r:R2):Prop :=
 ∀(cv:List (Addr×Obj)) (s:mJ) (c:m6) (H:Hp) (x y:V) (v u:Value) (Q:VK),mH X cv c H s->m5 x v->m5 y u->r x y H Q ->
  wpAny (model X.prog X.w) X.A (f v u) (EP X cv c Q) X.xe s
def C9 (X:Cx)(f:Value->Sem Value)(r:V->Hp->VK->Prop):Prop :=
 ∀(cv:List (Addr×Obj)) (s:mJ) (c:m6) (H:Hp) (x:V) (v:Value) (Q:VK),mH X cv c H s->m5 x v->r x H Q ->
  wpAny (model X.prog X.w) X.A (f v) (EP X cv c Q) X.xe s
def dY (X:Cx)(f:Value)(r:List V->Hp->VK->Prop):Prop :=
 ∀(cv:List (Addr×Obj)) (s:mJ) (c:m6) (H:Hp) (g:List V) (h:List Value) (Q:VK),mH X cv c H s->Vals g h->r g H Q ->
  wpAny (model X.prog X.w) X.A (call f h) (EP X cv c Q) X.xe s
def W5 (X:Cx)(r:V->Hp->(Bool->Hp->Prop)->Prop):Prop :=
 ∀(cv:List (Addr×Obj)) (s:mJ) (c:m6) (H:Hp) (x:V) (v:Value) (Q:Bool->Hp->Prop),mH X cv c H s->m5 x v->r x H Q ->
  wpAny (model X.prog X.w) X.A (truthy v) (TP X cv c Q) X.xe s
noncomputable def C_ (r:R2)(b tb:TE):TE:=λc H Q=>b c H λx g=>tb c g λy a=>r x y a Q
noncomputable def ZS (r:V->Hp->VK->Prop)(a:TE):TE:=λc H Q=>a c H λx g=>r x g Q
noncomputable def rI (C:Int->Int->Prop)(g:Int->Int->V):R2:=λx y H Q=>∃i j,x = .int i/\y = .int j/\C i j/\Q (g i j) H
noncomputable def qx (g:Int->Int->V):R2:=λx y H Q=>∃i j,x = .int i/\y = .int j/\Q (g i j) H
noncomputable def rU (g:Int->V):V->Hp->VK->Prop:=λx H Q=>∃i,x = .int i/\Q (g i) H
def Gf {X:Cx}{J:TE}{tb:TE}(p:PE X e J)(q:PE X C tb){g:m6}{H:Hp}{R:V->V->Hp->Prop}(I:mH X cv g H c)(h:J g H λx E=>tb g E λy r=>R x y r)(o:∀v u B x y r,mH X cv g r B->m5 x v->m5 y u->R x y r->wpAny (model X.prog X.w) X.A (Z v u) Q X.xe B):
  wpAny (model X.prog X.w) X.A (eval e X.env) (λv s₁=>wpAny (model X.prog X.w) X.A (eval C X.env) (λu s₂=>wpAny (model X.prog X.w) X.A (Z v u) Q X.xe s₂) X.xe s₁) X.xe c:=by
 refine aX (p cv c g H _ I h) λv M f=>?_;obtain⟨x,E,n,d,s⟩:=f;refine aX (q cv M g E _ n s) λu B f=>?_;obtain⟨y,r,i,j,l⟩:=f;exact o v u B x y r i d j l
def R_ {X:Cx}{g:TE}{tb:TE}{r:R2}(i:bO X (tA op) r)(j:PE X e g)(l:PE X C tb):PE X (.BinOp e op C pos) (C_ r g tb):=by intro cv s n H Q I h;exact wpAny_BinOp (Gf j l I h λv u p x y f a c d q=>i cv p n f x y v u Q a c d q)
def Sa {X:Cx}{g:TE}{op:UnaryOp}{r:V->Hp->VK->Prop}(a:C9 X (unaryOp op) r)(f:PE X e g):PE X (.UnaryOp op e pos) (ZS r g):=by intro cv s i H Q I h;exact UnaryOp_ (aX (f cv s i H _ I h) λv n ⟨x,p,d,b,c⟩=>a cv n i p x v Q d b c)
def Iu {X:Cx}{C:Int->Int->Prop}(e:∀(i j:Int) (t u:Tok) (s:mJ) (Q:Value->mJ->Prop) (E:Value->mJ->Prop),C i j->Q (.int (g i j) s.toks) { s with toks:=s.toks+1 }->wpAny (model X.prog X.w) X.A (Z (.int i t) (.int j u)) Q E s):
  bO X Z (rI C λi j=>.int (g i j)):=by
 intro cv s n H x y v u Q I a d h;obtain⟨i,j,rfl,rfl,c,q⟩:=h;obtain⟨t,rfl⟩:=a;obtain⟨b,rfl⟩:=d;exact e i j t b s _ _ c ⟨.int (g i j),H,I.tok _,⟨_,rfl⟩,q⟩
def Nm {X:Cx}(d:∀(i j:Int) (t u:Tok) (s:mJ) (Q:Value->mJ->Prop) (E:Value->mJ->Prop),Q (.int (g i j) s.toks) { s with toks:=s.toks+1 }->wpAny (model X.prog X.w) X.A (Z (.int i t) (.int j u)) Q E s):
  bO X Z (qx λi j=>.int (g i j)):=by
 intro cv s n H x y v u Q I a c h;obtain⟨i,j,rfl,rfl,q⟩:=h;obtain⟨t,rfl⟩:=a;obtain⟨b,rfl⟩:=c;exact d i j t b s _ _ ⟨.int (g i j),H,I.tok _,⟨_,rfl⟩,q⟩
def By {X:Cx}{g:Int->Int->Bool}(d:∀(i j:Int) (t u:Tok) (s:mJ) (Q:Value->mJ->Prop) (E:Value->mJ->Prop),Q (.bool (g i j)) s->wpAny (model X.prog X.w) X.A (Z (.int i t) (.int j u)) Q E s):
  bO X Z (qx λi j=>.bl (g i j)):=by
 intro cv s n H x y v u Q I a c h;obtain⟨i,j,rfl,rfl,q⟩:=h;obtain⟨t,rfl⟩:=a;obtain⟨b,rfl⟩:=c;exact d i j t b s _ _ ⟨.bl (g i j),H,I,rfl,q⟩
def W6 (i j:Int):Prop:=0<j/\j<1073741824
def W7 (i j:Int):Prop:=0<=j/\j<=1000000/\i.natAbs<2 ^ 64
def Gg (i j:Int):Prop:=(-(2 ^ 64)<i/\i<2 ^ 64)\/(-(2 ^ 64)<j/\j<2 ^ 64)
def Gg.ok {j:Int}(h:Gg i j):IntMulOk i j:=by
 rcases h with⟨h1,h2⟩|⟨h1,h2⟩
 . exact .of_left (intBits_le_64 h1 h2)
 . exact .of_right (intBits_le_64 h1 h2)
def Nn {X:Cx}:bO X (tA .Add) (qx λi j=>.int (i+j)):=Nm λ_ _ _ _ _ _ _ q=>add_int q
def Np {X:Cx}:bO X (tA .Sub) (qx λi j=>.int (i-j)):=Nm λ_ _ _ _ _ _ _ q=>sub_int q
def Nq {X:Cx}:bO X (tA .Mult) (rI Gg λi j=>.int (i*j)):=Iu λ_ _ _ _ _ _ _ a q=>mul_int q a.ok
def Ki {X:Cx}:bO X (tA .FloorDiv) (rI W6 λi j=>.int (i / j)):=Iu λi j _ _ _ _ _ a q=>by have b:(0:Int)<j:=a.1;have c:j<1073741824:=a.2;exact floordiv_int (by lia) (by rw[Int.fdiv_eq_ediv_of_nonneg i (by lia)];exact q) (.inl (PyProof.noPylong_small (by lia)))
def Nr {X:Cx}:bO X (tA .Mod) (rI (λ_ j=>0<j) λi j=>.int (i % j)):=Iu λi j _ _ _ _ _ a q=>by have b:(0:Int)<j:=a;exact mod_int' (by lia) (by rw[Int.fmod_eq_emod_of_nonneg i (by lia)];exact q)
def Nt {X:Cx}:bO X (tA .Pow) (rI W7 λi j=>.int (i ^ j.toNat)):=Iu λ_ _ _ _ _ _ _ a q=>pow_int_small a.1 a.2.1 a.2.2 q
def ZU {X:Cx}{f:Value->Sem Value}{g:Int->Int}(d:∀(i:Int) (t:Tok) (s:mJ) (Q:Value->mJ->Prop) (E:Value->mJ->Prop),Q (.int (g i) s.toks) { s with toks:=s.toks+1 }->wpAny (model X.prog X.w) X.A (f (.int i t)) Q E s):
  C9 X f (rU λi=>.int (g i)):=by
 intro cv s c H x v Q I a h;obtain⟨i,rfl,q⟩:=h;obtain⟨t,rfl⟩:=a;exact d i t s _ _ ⟨.int (g i),H,I.tok _,⟨_,rfl⟩,q⟩
def Nu {X:Cx}:C9 X (unaryOp .USub) (rU λi=>.int (-i)):=ZU λ_ _ _ _ _ q=>neg_int q
def Nv {X:Cx}{g:m6}{H:Hp}{Q:VK}{d:Bool}(I:mH X cv g H c)(q:Q (.bl Y) H)(e:Y=d):EP X cv g Q (.bool d) c:=by subst e;exact⟨.bl Y,H,I,rfl,q⟩
def Sb {X:Cx}:bO X (wR .Lt) (qx λi j=>.bl (decide (i<j))):=By λ_ _ _ _ _ _ _ q=>lt_int q
def Sd {X:Cx}:bO X (wR .LtE) (qx λi j=>.bl (decide (i<=j))):=By λ_ _ _ _ _ _ _ q=>le_int q
def Se {X:Cx}:bO X (wR .Gt) (qx λi j=>.bl (decide (j<i))):=By λ_ _ _ _ _ _ _ q=>gt_int q
def Sf {X:Cx}:bO X (wR .GtE) (qx λi j=>.bl (decide (j<=i))):=By λ_ _ _ _ _ _ _ q=>ge_int q
def Nw {X:Cx}:bO X (wR .Is) (λx y H Q=>y = .aB/\Q (.bl (decide (x = .aB))) H):=by
 intro cv s c H x y v u Q I a b h;obtain⟨rfl,q⟩:=h;cases b;refine is_none_gen (Nv I q ?_);cases x<;>first
  | (cases a;rfl)
  | (obtain⟨t,rfl⟩:=a;rfl)
def Kj {X:Cx}{g:TE}{tb:TE}{r:R2}(i:bO X (wR h) r)(l:PE X e g)(n:PE X C tb)(j:aeL h C=false):PE X (.Compare e [h] [C] pos) (C_ r g tb):=by intro cv s p H Q I op;exact wpAny_Compare1 (Gf l n I op λv u B x y f a c d q=>i cv B p f x y v u Q a c d q) j
noncomputable def vS (t:TE):TT:=λc H Q=>t c H λx a=>∃k,x = .bl k/\Q k a
def Kk {X:Cx}{J:TE}{tb:TE}{r:R2}(A:bO X (wR h) r)(a:PE X e J)(E:PE X C tb)(B:aeL h C=false):PT X (.Compare e [h] [C] pos) (vS (C_ r J tb)):=by
 intro cv s g H Q I op;refine wpAny_isTrue_Compare1 (aX (a cv s g H _ I op) λv M ⟨x,O,i,j,l⟩=>aX (E cv M g O _ i l) λu R ⟨y,U,f,n,o⟩=>
  aX (A cv R g U x y v u _ f j n o) λc Z ⟨z,p,Y,q,k,b,d⟩=>?_) B
 subst b;cases q;exact adp ⟨p,Y,d⟩
def Gh (K:o3)(x:V)(H:Hp)(k:Bool):Prop :=
 match x with
 |.aB=>k=false|.bl e=>k=e|.int i=>k=(i != 0)|.str y=>y.length<=nE/\k=((y.length:Int) != 0)|.CU y=>y.size<=nE/\k=((y.size:Int) != 0)|.ref p=>(∃c,dQ K H p c/\k = !c.isEmpty)\/(∃c,fJ K H p c/\k = !c.isEmpty) \/ ∃g,H p=some (.dK g)/\k = !g.isEmpty|_=>False
def Bz {d:Type}{e:List (d×V)}{c:List (d×Value)}(r:KV e c):(!c.isEmpty)= !e.isEmpty:=by cases r<;>rfl
def rZ {c:List V}(r:Vals c M):(!M.toArray.isEmpty)= !c.isEmpty:=by cases r<;>simp
def mw:(nE:Nat)<2 ^ 63:=by rw[L3];decide
def Nx {X:Cx}:W5 X (λx H Q=>∃k,Gh X.K x H k/\Q k H):=by
 intro cv s J H x v Q I c h;obtain⟨k,e,q⟩:=h;have u:=mw;have o:nE=16777216:=L3;cases x with
 |aB =>
  cases c;have a:k=false:=e;subst a;exact truthy_none ⟨H,I,q⟩
 |bl b =>
  cases c;have a:k=b:=e;subst a;exact adp ⟨H,I,q⟩
 |int i =>
  obtain⟨t,rfl⟩:=c;have a:k=(i != 0):=e;subst a;exact PySem.P.truthy_int ⟨H,I,q⟩
 |str y =>
  obtain⟨t,rfl⟩:=c;obtain⟨j,a⟩:y.length<=nE/\k=((y.length:Int) != 0):=e;subst a;exact PySem.P.truthy_str (by lia) ⟨H,I.tok _,q⟩
 |CU y =>
  obtain⟨t,rfl⟩:=c;obtain⟨j,a⟩:y.size<=nE/\k=((y.size:Int) != 0):=e;subst a;exact PySem.W.truthy_bytes (by lia) ⟨H,I.tok _,q⟩
 |ref p =>
  cases c;have a:(∃B,dQ X.K H p B/\k = !B.isEmpty)\/(∃B,fJ X.K H p B/\k = !B.isEmpty) \/ ∃C,H p=some (.dK C)/\k = !C.isEmpty:=e;rcases a with⟨B,hx,a⟩|⟨B,hx,a⟩|⟨C,hx,a⟩
  . subst a
    obtain⟨n,r,d,f⟩:=I.list hx;have g:=r.length;exact wpAny_truthy_list d.isList (by simp only[pd];lia) ⟨H,I.tok _,by rw[rZ r];exact q⟩
  . subst a
    obtain⟨n,r,d,f⟩:=I.tuple hx;have g:=r.length;exact truthy_tuple d (by simp only[pd];lia) ⟨H,I.tok _,by rw[rZ r];exact q⟩
  . subst a
    obtain⟨f,l,E,r,m⟩:C.length<=nE/\(p == O2)=false /\ ∃E,KV C E/\s.heap.DictOf (fE X.prog X.w) p E:=I.aW p _ hx;have g:C.length=E.length:=Paired.length r;exact wpAny_truthy_dict l m (by lia) ⟨H,I.tok _,by rw[Bz r];exact q⟩
 |_=>exact(show False from e).elim
def Gi {X:Cx}{n:TE}(f:PE X e n)(a:∀whole,isTrue e X.env whole=(do let g <- whole;agG e.pos;HX [g] (truthy g))):
  PT X e (λi H Q=>n i H λx p=>∃k,Gh X.K x p k/\Q k p):=by
 intro cv s i H Q I h;exact isTrue_plain (aX (f cv s i H _ I h) λg q ⟨x,r,d,b,c⟩=>Nx cv q i r x g Q d b c) (a _)
def BA {X:Cx}:bO X (tA .Add) (λx y H Q=>∃i j,x = .str i/\y = .str j/\i.length+j.length<=nE/\Q (.str (i++j)) H):=by intro cv s g H x y v u Q I a c h;obtain⟨i,j,rfl,rfl,d,q⟩:=h;obtain⟨t,rfl⟩:=a;obtain⟨b,rfl⟩:=c;exact add_str (λb e=>⟨.str (i++j),H,I.tok _,⟨_,rfl⟩,q⟩) d
def bai {x:V}(r:Vals [x] M):∃u,M = [u]/\m5 x u:=by
 cases r with
 |cons c g=>cases g;exact⟨_,rfl,c⟩
def baj {x y:V}(r:Vals [x,y] M):∃u c,M = [u,c]/\m5 x u/\m5 y c:=by
 cases r with
 |cons g h =>
  cases h with
  |cons i n=>cases n;exact⟨_,_,rfl,g,i⟩
def Dd {X:Cx}(e:X.calm=true):dY X (.builtin "min") (λn H Q=>∃i j,n = [.int i,.int j]/\Q (.int (if j<i then j else i)) H):=by
 intro cv s p H n v Q I r h;obtain⟨i,j,rfl,q⟩:=h;obtain⟨u,d,rfl,⟨t,rfl⟩,⟨b,rfl⟩⟩:=baj r;refine min_two_ints (I.ok.hd e) λc a k=>⟨_,H,I.kept k,?_,q⟩
 by_cases g:j<i
 . rw[if_pos g,if_pos g];exact⟨_,rfl⟩
 . rw[if_neg g,if_neg g];exact⟨_,rfl⟩
def uQ {X:Cx}:dY X (.type "int") (λc H Q=>(∃i,c = [.int i]/\Q (.int i) H) \/ ∃k,c = [.bl k]/\Q (.int (if k then 1 else 0)) H):=by
 intro cv s g H c n Q I r h;rcases h with⟨i,rfl,q⟩|⟨k,rfl,q⟩
 . obtain⟨u,rfl,t,rfl⟩:=bai r
   exact call_int_int ⟨.int i,H,I,⟨_,rfl⟩,q⟩
 . obtain⟨u,rfl,a⟩:=bai r
   cases a;exact call_int_bool ⟨.int (if k then 1 else 0),H,I.tok _,⟨_,rfl⟩,q⟩
structure dM (k:Nat)(A:qr):Prop where
 hd:A.handled=none
 dp:A.depth+3*k+5<recursionLimit
 un:A.units+16*k+200<cLine
 gd:A.guards=some []
theorem dM.deeper (r:dM (n+1) J)(env:Env):dM n (J.deeper env):=
 ⟨r.hd,by have:=r.dp;show J.depth+1+3*n+5<_;lia,by have:=r.un;show J.units+3+16*n+200<_;lia,by first|exact r.gd| (simp[Around.deeper];exact r.gd)⟩
theorem dM.depth (r:dM n J):J.depth<recursionLimit:=by have:=r.dp;lia
theorem dM.units (r:dM n J):J.units+64<cLine:=by have:=r.un;lia
noncomputable def Ny:TA:=λ_ H Q=>Q [] H
noncomputable def Si (b:TE)(tr:TA):TA:=λc H Q=>b c H λx g=>tr c g λh a=>Q (x::h) a
def my {X:Cx}:PA X [] Ny:=λ_ _ _ _ H Q I h=>ahD ⟨[],H,I,.nil,h⟩
def iD {X:Cx}{g:TE}{t:TA}(p:PE X e g)(o:PA X d t)(n:nN (e::d) X.env=(false,eval e X.env)::nN d X.env):PA X (e::d) (Si g t):=by intro pos cv s q H Q I h;rw[n];show wpAny _ _ (spliced ((false,eval e X.env)::vE pos (nN d X.env))) _ _ s;refine afz (aX (p cv s q H _ I h) λu r v=>?_);obtain⟨x,y,b,c,f⟩:=v;exact aX (o pos cv r q y _ b f) λC E ⟨B,l,a,i,j⟩=>⟨x::B,l,a,.cons c i,j⟩
def W8 (t:TA):TE:=λh H Q=>t h H λc g=>c.length<=nE /\ ∀p,g p=none->Q (.ref p) (upd g p (.tup c))
def W9 (t:TA):TE:=λh H Q=>t h H λc g=>c.length<=nE /\ ∀p,g p=none->Q (.ref p) (upd g p (.lst c))
def Nz {X:Cx}{t:TA}{es}(h:PA X d t):PE X (.Tuple d es pos) (W8 t):=by intro cv s n H Q I c;refine wpAny_Tuple_spliced (aX (h pos cv s n H _ I c) λp g ⟨v,i,a,r,z,q⟩=>⟨by rw[<- r.length];exact z,?_⟩);have hf:i g.heap.objs.size=none:=a.aW.fresh (nA _);refine⟨.ref g.heap.objs.size,upd i g.heap.objs.size (.tup v),a.laid (t':=g.toks) (λb u e=>nU _ e) (nA _) ?_,rfl,q _ hf⟩;exact⟨z,p,r,⟨_,qt _ rfl,rfl,⟨_,rfl⟩,rfl⟩⟩
def De {X:Cx}{t:TA}(h:PA X d t):PE X (.List d pos) (W9 t):=by intro cv s n H Q I c;refine wpAny_List_spliced (aX (h pos cv s n H _ I c) λp g ⟨v,i,a,r,z,q⟩=>⟨by rw[<- r.length];exact z,?_⟩);have hf:i g.heap.objs.size=none:=a.aW.fresh (nA _);refine⟨.ref g.heap.objs.size,upd i g.heap.objs.size (.lst v),a.laid (t':=g.toks) (λb u e=>nU _ e) (nA _) ?_,rfl,q _ hf⟩;exact⟨z,p,0,r,qt _ rfl⟩
abbrev Sp:=List V->Hp->VK->XK->Prop
abbrev oJ:=List Env->Hp->mJ->XK->Value->mJ->Prop
structure qS (P:uV)(w:World)(K:o3)(mg:Str->Option Value)(base:Heap)(A:qr)(outer:List Env)(s:mJ)(H:Hp):Prop where
 frames:A.frames=some outer
 mod:bab K mg base
 bs:∀b o,base.get? b=some o->s.heap.get? b=some o/\H b=none
 oF:base.objs.size<=s.heap.objs.size
 iO:s.heap.FunFrames base outer
 rW:∀b∈lF outer,H b=none
 aW:eQ P w H s.heap
 bare:SJ s.gens
def CE (a:List Env)(P:uV)(w:World)(H:Hp)(s:mJ)(Q:VK)(u:Value)(b:mJ):Prop :=
 ∃v c,b.os=s.os/\SJ b.gens/\Un (lF a) [] H c s.heap b.heap/\eQ P w c b.heap/\m5 v u/\Q v c
def CR (c:oJ)(a:List Env)(P:uV)(w:World)(H:Hp)(s:mJ)(Q:VK)(E:XK)(r:Result)(b:mJ):Prop :=
 match r with
 |.ok (.ret u)=>CE a P w H s Q u b|.ok _=>False|.error e=>c a H s E e b
structure eE (P:uV)(w:World)(K:o3)(mg:Str->Option Value)(base:Heap)(CX:oJ)(k:Nat)(f:Addr)(fd:yy)(ps:List Str)(sp:Sp):Prop where
 len:∀vs H Q E,sp vs H Q E->vs.length=ps.length
 run:∀(A:qr) (outer:List Env) (s:mJ) (H:Hp) (args:Args) (us:List Value) (vs:List V) (Q:VK) (E:XK),dM k A->qS P w K mg base A outer s H->ahA s fd args (ps.zip us)->Vals vs us->sp vs H Q E ->
  PM (model P w) A (.call (.ref f) args) (CR CX outer P w H s Q E) s
def eE.imp {i:oJ}{p r:Sp}(F:eE q u K H z i n f w R p)(h:∀g mg Q E,r g mg Q E->p g mg Q E):eE q u K H z i n f w R r :=
 ⟨λg mg Q E P=>F.len g mg Q E (h _ _ _ _ P),λA outer s mg args v g Q E c he d a b=>F.run A outer s mg args v g Q E c he d a (h _ _ _ _ b)⟩
def mH.Gj {X:Cx}{g:m6}{H:Hp}(I:mH X cv g H c):qS X.prog X.w X.K X.mg X.base X.A X.stack c H :=
 ⟨I.ok.frames,I.ok.mod,I.bs,qJ I.ok.oF I.sz,I.stack,I.zC,I.aW,I.bare⟩
def mH.after {X:Cx}{i:m6}{H:Hp}{Q:VK}(I:mH X cv i H c)(h:CE X.stack X.prog X.w H c Q T j):EP X cv i Q T j:=by obtain⟨v,a,os,bare,un,f,r,q⟩:=h;obtain⟨e,g,d,t,u⟩:=j;obtain rfl:u=c.os:=os;exact⟨v,a,I.call (h':=e) (g':=g) (d':=d) (t':=t) (ch:=[]) un f bare (λb z=>absurd z (by simp)),r,q⟩
noncomputable def vT (c:Sp)(b:List V)(E:XK)(t:TA):TE:=λg H Q=>t g H λa h=>c (a++b) h Q E
noncomputable def O_ (K:o3)(fd:yy)(ps:List Str)(ds:List Value):Prop :=
 ∀(s:mJ) (c:List Value),K.In s.heap->(c++ds).length=ps.length->ahA s fd ⟨c,[]⟩ (ps.zip (c++ds))
def O_.all (h:∀c:List Value,c.length=R.length->WE w ⟨c,[]⟩=pure (R.zip c)):O_ K w R []:=λs c _ a=>by rw[wQ]at a ⊢;exact .of_eq (h c a)
def Passes (g:oJ)(X:Cx)(E:XK):Prop:=∀(cv:List (Addr×Obj)) (h:m6) (H:Hp) (s:mJ) (e:Value) (c:mJ),mH X cv h H s->g X.stack H s E e c->X.xe e c
def wH {X:Cx}{v:oJ}{x:Sp}{g:List V}{E:XK}{q:m6}{H:Hp}{Q:VK}{us:List Value}{p:List V}(F:eE X.prog X.w X.K X.mg X.base v n f w R x)(j:dM n X.A)(k:O_ X.K w R M)(i:Vals g M)(l:Passes v X E)(I:mH X cv q H c)(r:Vals p us)(h:x (p++g) H Q E):wpAny (model X.prog X.w) X.A (call (.ref f) us) (EP X cv q Q) X.xe c:=by
 have b:Vals (p++g) (us++M):=r.append i;have s:(us++M).length=R.length:=by rw[<- b.length];exact F.len _ _ _ _ h
 refine agV (V8 (F.run X.A X.stack c H ⟨us,[]⟩ (us++M) (p++g) Q E j I.Gj (k c us I.g_ s) b h) λr d a=>?_);cases r with
 |error e=>exact l cv q H c e d I a
 |ok fl =>
  cases fl with
  |ret u=>exact I.after a|next=>exact CZ a|brk=>exact CZ a|cont=>exact CZ a
def Kl {X:Cx}{g:oJ}{p:Sp}{C:List V}{E:XK}{t:TA}(F:eE X.prog X.w X.K X.mg X.base g n f w R p)(i:dM n X.A)(c:Gl X x)(j:X.mg x=some (.ref f))(z:Pz X.K (.ref f)=true)(u:O_ X.K w R M)(ps:Vals C M)(l:Passes g X E)(k:PA X (e::d) t)(v:(x == ("__debug__":Str))=false)(y:nN (e::d) X.env=(false,eval e X.env)::nN d X.env)(fd:(vE pos (nN d X.env)).any (·.1)=false):
  PE X (.Call (.Name x B) (e::d) [] pos) (vT p C E t):=by
 intro cv s J H Q I h;refine Sw (pO I c j ?_ v);refine afA (h₀:=X.base) I.ok.mod.rV z (aX (k pos cv s J H _ I h) λO U ⟨b,Y,a,r,q⟩=>⟨a.g_,?_⟩) y fd;exact wH F i u ps l a r q
def Gk {X:Cx}{g:oJ}{p:Sp}{q:List V}{E:XK}(F:eE X.prog X.w X.K X.mg X.base g n f w R p)(c:dM n X.A)(a:Gl X x)(d:X.mg x=some (.ref f))(k:Pz X.K (.ref f)=true)(j:O_ X.K w R M)(b:Vals q M)(i:Passes g X E)(l:(x == ("__debug__":Str))=false):PE X (.Call (.Name x B) [] [] pos) (vT p q E Ny):=by
 intro cv s r H Q I h;refine Sw (pO I a d ?_ l);exact PySem.W.callWith_K0 I.g_ k (wH (us:=[]) F c j b i I .nil h)
structure kC (N P:List Str)(sc:Scope):Prop where
 kind:sc.kind = .function
 co:sc.isCoroutine=false
 gen:sc.isGenerator=false
 nd:N.Nodup
 pre:N.take P.length=P
 par:∀x∈P,sc.names.lookup x=some .local\/sc.names.lookup x=some .cell
 NA:∀y∈sc.names,y.2 ≠ .free
theorem uR {a:Str->Option BB}{x:Str}:∀{binds:List (Str×Value)} {m:Str->Option Value},(∀v,(x,v) ∉ binds)->bindL a binds m x=m x
 | [],_,_=>rfl
 | (n,v)::r,m,h=>by
  unfold bindL;rw[uR λw hw=>h w (qz _ hw)];split
  . have:x≠n:=by rintro rfl;exact h v tc
    simp[this]
  . rfl
theorem uS {a:Str->Option BB}{x:Str}:∀{binds:List (Str×Value)} {m:Str->Option Value},(∀v,(x,v) ∉ binds)->bindC a binds m x=m x
 | [],_,_=>rfl
 | (n,v)::r,m,h=>by
  unfold bindC;rw[uS λw hw=>h w (qz _ hw)];split
  . rfl
  . have:x≠n:=by rintro rfl;exact h v tc
    simp[this]
theorem uT {b:Str->Option BB}{x:Str}{v:Value}:∀{P:List Str} {c:List Value} {i:Nat} {m:Str->Option Value},P.Nodup->P[i]? = some x->c[i]? = some v->b x=some .local ->
  bindL b (P.zip c) m x=some v
 | [],_,_,_,_,h,_,_=>by simp at h|_::_,[],_,_,_,_,h,_=>by simp at h|p::P,w::c,0,m,nd,h1,h2,hk=>by simp at h1 h2;subst h1;subst h2;show bindL b ((p,w)::P.zip c) m p=_;unfold bindL;rw[uR λv a=>(D5.mp nd).1 (UO a).1,if_pos hk];simp|p::P,w::c,i+1,m,nd,h1,h2,hk=>by show bindL b ((p,w)::P.zip c) m x=_;unfold bindL;exact uT (i:=i) (D5.mp nd).2 (by simpa using h1) (by simpa using h2) hk
theorem uU {b:Str->Option BB}{x:Str}{v:Value}:∀{P:List Str} {c:List Value} {i:Nat} {m:Str->Option Value},P.Nodup->P[i]? = some x->c[i]? = some v->b x≠some .local ->
  bindC b (P.zip c) m x=some v
 | [],_,_,_,_,h,_,_=>by simp at h|_::_,[],_,_,_,_,h,_=>by simp at h|p::P,w::c,0,m,nd,h1,h2,hk=>by simp at h1 h2;subst h1;subst h2;show bindC b ((p,w)::P.zip c) m p=_;unfold bindC;rw[uS λv a=>(D5.mp nd).1 (UO a).1,if_neg hk];simp|p::P,w::c,i+1,m,nd,h1,h2,hk=>by show bindC b ((p,w)::P.zip c) m x=_;unfold bindC;exact uU (i:=i) (D5.mp nd).2 (by simpa using h1) (by simpa using h2) hk
noncomputable def wi (N:List Str)(c:List V):m6:=c.map some++nW (N.length-c.length) none
noncomputable def nu (lx:Lx)(CX:oJ)(P:uV)(w:World)(K:o3)(mg:Str->Option Value)(base:Heap)(N:List Str)(d:Str)(scope:Scope)(f:Addr)(h:Value)(A:qr)(outer:List Env)(s:mJ)(H:Hp)(E:XK):Cx where
 prog:=P
 w:=w
 K:=K
 mg:=mg
 base:=base
 A:=A.deeper (P0 d scope s.heap.objs.size f h)
 N:=N
 s₀:=s
 H₀:=H
 env:=P0 d scope s.heap.objs.size f h
 outer:=outer
 stack:=P0 d scope s.heap.objs.size f h::outer
 ex:=[]
 calm:=true
 fn:=λ_=>true
 pn:=[]
 lx:=lx
 xe:=λe b=>wpAny (model P w) (A.deeper (P0 d scope s.heap.objs.size f h)) (leaving (P0 d scope s.heap.objs.size f h) e) (λ_ a=>CX outer H s E e a) (λc a=>CX outer H s E c a) b
def wJ (h:I.names.lookup x=some .cell):∃c,(wW n I.names []).lookup x=some c:=by have q:=agy I.names n [] (.inl h);exact aej.mp q
def Dg {lx:Lx}{U:oJ}{ps:List Str}{B:List Env}{mg:Hp}{E:XK}{g:List V}(S:kC R ps I)(L:J.handled=none)(A:qS q u K H z J B c mg)(O:g.length=ps.length)(r:Vals g M)(C:InCallC c c.heap.objs.size (bindL (P0 x I c.heap.objs.size f T).kindOf (ps.zip M) λ_=>none) (wW (c.heap.objs.size+1) I.names []) (bindC (P0 x I c.heap.objs.size f T).kindOf (ps.zip M) λ_=>none) j):
   mH (nu lx U q u K H z R x I f T J B c mg E) [] (wi R g) mg j:=by
 have f_:ps.length<=R.length:=by have:=congrArg aft S.pre;rw[Aq]at this;lia
 obtain⟨h1,tk,rfl,hk⟩:=C.done;have Q:∀b:Addr,b ∉ (nu lx U q u K H z R x I f T J B c mg E).ex:=λb s=>absurd (show b∈([]:List Addr) from s) (by simp);refine⟨⟨A.mod,S.kind,rfl,rfl,nA _,λy s base h1 d=>?_,λy N=>?_,λy base _ h=>?_,λ_=>L,agW A.frames,.inr ⟨rfl,rfl⟩,λb s=>absurd s (Q b),A.bs,A.oF,λb _ _=>Q b,λb s=>absurd s (Q b),A.iO,A.rW⟩,
   rfl,A.bare,Un.kept hk,⟨_,C.toInCall.ns,λi y v h1 d h3=>?_⟩,λy base h=>⟨_,C.cell y base h⟩,A.aW.fresh (nA _),λy base h=>?_,λp l=>absurd (show p∈([]:List (Addr×Obj)) from l) (by simp),A.aW.kept hk,?_⟩
 . exact name_of_addr C.apart (z6 h1) (z6 d)
 . have N:I.names.lookup y=some .cell\/I.names.lookup y=some .free:=N
   rcases N with N|N
   . exact wJ N
   . exact absurd rfl (S.NA _ (z6 N))
 . exact ZQ (C.above y base (z6 h))
 . have o:i<g.length:=by
     unfold wi at d;by_cases o:i<g.length
     . exact o
     . rw[CY (by simpa using o)]at d
       rw[ago]at d;split at d<;>cases d
   have Y:g[i]? = some v:=by
     unfold wi at d;rw[r_ (by simpa using o),qy]at d;cases e:g[i]? with
     |none=>rw[e]at d;cases d|some a=>rw[e]at d;cases d;rfl
   obtain⟨w,hu,Z⟩:=r.get Y;have l:ps[i]? = some y:=by rw[<- S.pre,B0 (by lia)];exact h1
   have X:ps.Nodup:=by rw[<- S.pre];exact S.nd.sublist (afU _ _)
   refine⟨w,Z,?_⟩;rcases S.par y (ta l)with k|k
   . exact .inl ⟨k,uT X l hu k⟩
   . obtain⟨base,e⟩:=wJ (n:=c.heap.objs.size+1) k
     refine .inr ⟨.inl k,base,e,?_⟩;have P:=C.cell y base e;rw[uU X l hu (by show I.names.lookup y≠_;rw[k];decide)]at P;exact P
 . exact A.aW.fresh (ZQ (C.above y base (z6 h)))
 . unfold wi
   show _=R.length;rw[nh,ro,List.length_replicate];lia
def Sj {lx:Lx}{CX:oJ}{w:World}{B:Str}{C:Vm}{kV M O L ct oc:Value}{P Z:Option Addr}{wK:Array (Option Value)}{ps:List Str}{sp:Sp}(Y:K.lookup f=some ⟨oc,Z,.func (OK x B C a I T kV M O P L ct),wK⟩)(U:aew K L B=true)(S:kC R ps I)(len:∀g base Q E,sp g base Q E->g.length=ps.length)(X:∀(A:qr) (outer:List Env) (s:mJ) (base:Hp) (g:List V) (Q:VK) (E:XK),dM n (A.deeper (P0 B I s.heap.objs.size f L))->sp g base Q E ->
    ∃t,iP (nu lx CX q w K H z R B I f L A outer s base E) a t/\t { nx:=λ_ H'=>Q .aB H',rt:=Q } (wi R g) base):
  eE q w K H z CX (n+1) f (OK x B C a I T kV M O P L ct) ps sp:=by
 refine⟨len,λA outer s base args us g Q E h c hb r l=>?_⟩;have hl:=len _ _ _ _ l;have j:K.In s.heap:=c.mod.rV.keeps λb o e=>(c.bs b o e).1;have lim:s.heap.NoLimit:=c.mod.nolimit.keeps λb o e=>(c.bs b o e).1;have vU:∀y∈ps.zip us,I.names.lookup y.1=some .local\/(I.names.lookup y.1=some .cell/\((wW (s.heap.objs.size+1) I.names []).lookup y.1).isSome=true):=λ⟨k,v⟩ hy=>by
  rcases S.par k (UO hy).1 with mg|mg
  . exact .inl mg
  . exact .inr ⟨mg,agy _ _ _ (.inl mg)⟩
 refine codeAny_call_function h.depth (j _ _ Y) rfl S.co S.gen rfl (PySem.W.codeRec_of j U) (hb _ _ _ _ ?_);refine wpAny_newFunctionEnv_cells S.kind vU λenv he s1 body=>?_;subst he;refine⟨lim.keeps body.toInCall.keep,codeAny_func ?_⟩;obtain⟨t,p,hq⟩:=X A outer s base g Q E (h.deeper _) l;have scope:mH (nu lx CX q w K H z R B I f L A outer s base E) [] (wi R g) base s1:=Dg S h.hd c hl r body;refine ae0 (p [] s1 (wi R g) base _ scope hq) (λN s' name=>?_) λe s' name=>name;have fin:∀{d:m6} {H':Hp} {v:V} {u:Value},mH (nu lx CX q w K H z R B I f L A outer s base E) [] d H' s'->m5 v u->Q v H'->CE outer q w base s Q u s' :=
  fun {d H' v u} J i mg=>⟨v,H',J.os,J.bare,J.base,J.aW,i,mg⟩
 cases N with
 |ret u =>
  obtain⟨v,d,H',J,i,mg⟩:=name;exact fin J i mg
 |next =>
  obtain⟨d,H',J,mg⟩:=name;exact fin (v:=V.aB) (u:=AR) J rfl mg
 |brk =>
  obtain⟨_,_,_,mg⟩:=name;exact CZ mg
 |cont =>
  obtain⟨_,_,_,mg⟩:=name;exact CZ mg
noncomputable def Uz (r:List V->Hp->VK->Prop)(t:TA):TE:=λc H Q=>t c H λa g=>r a g Q
def wL {X:Cx}{t:TA}{r:List V->Hp->VK->Prop}(l:dY X (.builtin s) r)(f:Gl X x)(i:X.mg x=none)(v:NW x=some (.builtin s))(j:PA X (e::d) t)(n:x ≠ "__name__":=by decide)(o:(x == ("__debug__":Str))=false:=by decide)(q:nN (e::d) X.env=(false,eval e X.env)::nN d X.env:=by rfl)(u:(vE pos (nN d X.env)).any (·.1)=false:=by rfl):PE X (.Call (.Name x B) (e::d) [] pos) (Uz r t):=by
 intro cv p g H Q I h;refine Sw (iQ I f i v ?_ n o);exact ae6 (aX (j pos cv p g H _ I h) λy C ⟨a,E,J,b,c⟩=>l cv C g E a y Q J b c) q u
def Dh {X:Cx}{t:TA}{r:List V->Hp->VK->Prop}(l:dY X (.type s) r)(f:Gl X x)(i:X.mg x=none)(v:NW x=some (.type s))(j:PA X (e::d) t)(n:x ≠ "__name__":=by decide)(o:(x == ("__debug__":Str))=false:=by decide)(q:nN (e::d) X.env=(false,eval e X.env)::nN d X.env:=by rfl)(u:(vE pos (nN d X.env)).any (·.1)=false:=by rfl):PE X (.Call (.Name x B) (e::d) [] pos) (Uz r t):=by
 intro cv p g H Q I h;refine Sw (iQ I f i v ?_ n o);exact ab9 (aX (j pos cv p g H _ I h) λy C ⟨a,E,J,b,c⟩=>l cv C g E a y Q J b c) q u
end
variable {X:Cx}{H:Hp}{y:m6}{U:List V}
section
open PyProof.Rows
variable {Z A:TE}{Y:Option Expr}{R O:String}{K:Pos}{I t:V}{o v:Option Int}{z:Array Value}{w:List V}{r:V->Option Int->Option Int->Hp->VK->Prop}{s:R2}
section
open PySem.SeqAt
open PySem.AutoSeq1 (wpAny_loadPart')
open PySem.MeetsSeq PySem.MeetsSeq2 PySem.MeetsSeq3
end
def Km {b:Addr}{t:List Value}(B:IsTup c.heap f M.toArray)(y:IsTup c.heap b t.toArray)(r:M ≠ [])(v:t = []->Q (.ref f) c)(z:t ≠ []->Q (.ref c.heap.objs.size) { c with heap:=c.heap.push { cls:=.type "tuple",data:=.seq (M++t).toArray } })(x:M.length+t.length<=nE):wpAny (model q u) J (tA .Add (.ref f) (.ref b)) Q E c:=by
 obtain⟨⟨cls,l,data,o⟩,prog,w,n,hd⟩:=id B;obtain⟨⟨p,d,data2,h⟩,a,i,j,g⟩:=id y;simp only at w hd i g;subst w hd i g;have e:M.toArray++t.toArray=(M++t).toArray:=by simp
 by_cases hw:t = []
 . exact age ⟨_,prog,rfl⟩ ⟨_,a,rfl⟩ agf ag7 aeF aeC (aek _ _)
    (tuple_addW1 f b M.toArray t.toArray n j l d o h (by simpa using r) (by simp[hw])) ⟨prog,a,v hw⟩
 . refine age ⟨_,prog,rfl⟩ ⟨_,a,rfl⟩ agf ag7 aeF aeC (aek _ _)
    (tuple_addW2 f b M.toArray t.toArray n j l d o h (by simpa using r) (by simpa using hw) (by rw[pd,pd];exact x)) ⟨prog,a,?_⟩
   rw[e];exact z hw
noncomputable def bw (n d:Nat):Option Int->Nat
 |none=>d|some v=>if v<0 then(v+(n:Int)).toNat else min v.toNat n
def ny (n d:Nat):bw n d none=d:=rfl
def zE (n d k:Nat):bw n d (some (k:Int))=min k n:=by show(if(k:Int)<0 then((k:Int)+(n:Int)).toNat else min (k:Int).toNat n)=min k n;rw[if_neg (by lia),Im]
def NB (n d:Nat)(a:d<=n)(o:Option Int):bw n d o<=n:=by
 cases o with
 |none=>exact a
 |some v =>
  show(if v<0 then(v+(n:Int)).toNat else min v.toNat n)<=n;by_cases c:v<0
  . rw[if_pos c];lia
  . rw[if_neg c];exact Nat.min_le_right _ _
def zF (v:Int)(n d:Nat):(if v<0 then max (v+(n:Int)) 0 else min v (n:Int))=((bw n d (some v):Nat):Int):=by
 show(if v<0 then max (v+(n:Int)) 0 else min v (n:Int))=(((if v<0 then(v+(n:Int)).toNat else min v.toNat n):Nat):Int);by_cases c:v<0
 . simp only[if_pos c];lia
 . simp only[if_neg c];lia
def BD (b c:Option Int)(n:Nat):Vd b c 1 (n:Int)=(((bw n 0 b:Nat):Int),((bw n n c:Nat):Int)):=by
 have a:¬((1:Int)<0):=by lia
 unfold Vd;simp only[a,if_false];refine Prod.ext ?_ ?_
 . cases b with
   |none=>rfl|some v=>exact zF v n 0
 . cases c with
   |none=>rfl|some v=>exact zF v n n
def BE (i j:Nat):YL (i:Int) (j:Int) 1=j-i:=by
 unfold YL;have a:(1:Int)>0:=by lia
 simp only[a,if_true,Int.ediv_one];split<;>lia
def iS {Q:Option Int->mJ->Prop}(p:Bs T o)(h:Q o c):wpAny (model q u) J (Builtin.Slice.slicePartIndex T) Q E c:=by
 cases p with
 |none=>exact slicePart_none h|int i t=>exact slicePart_int h
def kM {i:Value}{Q:Int×Int×Nat->mJ->Prop}(p:c.heap.IsSliceOf f T i .none)(l:Bs T o)(d:Bs i v)(h:Q (((bw n 0 o:Nat):Int),1,bw n n v-bw n 0 o) c):wpAny (model q u) J (adl (.ref f) (pure (n:Int))) Q E c:=by
 obtain⟨os,a,j,b⟩:=id p;unfold adl af1;refine mA (mA (FC a b (x:=T) rfl (mA (FC a b (x:=i) rfl (mA (FC a b (x:=.none) rfl (mT ?_)))))));refine mA (slicePart_none ?_);show wpAny _ _ (if((1:Int)== 0)=true then _ else _) _ _ c;rw[if_neg (by decide)];refine mA (iS l (mA (iS d (mA (mT ?_)))));show wpAny _ _ (match Vd o v 1 (n:Int)with| (o,v)=>pure (o,(1:Int),YL o v 1)) _ _ c;rw[BD o v n];show wpAny _ _ (pure (((bw n 0 o:Nat):Int),(1:Int),YL ((bw n 0 o:Nat):Int) ((bw n n v:Nat):Int) 1)) _ _ c;rw[BE];exact mT h
def Gn (c:Array Value)(i k:Nat):((sv k).filterMap λ(m:Nat)=>c[((i:Int)+(m:Int)*1).toNat]?).toArray=((c.toList.drop i).take k).toArray:=by
 have e:(λ(m:Nat)=>c[((i:Int)+(m:Int)*1).toNat]?)=λm=>c[i+m]?:=by
  funext m;have:((i:Int)+(m:Int)*1).toNat=i+m:=by lia
  rw[this]
 rw[e];have:=pick_run c i k;rw[ahq]at this;have a:((λx=>c[x]?) ∘ λx=>i+x)=λm=>c[i+m]?:=rfl;rw[a]at this;rw[this]
def qo {r:Addr}{g:Value}(p:IsTup c.heap f z)(n:c.heap.IsSliceOf r T g .none)(y:Bs T v)(w:Bs g o)(hw:¬(bw z.size 0 v=0/\bw z.size z.size o=z.size))(h:Q (.ref c.heap.objs.size) { c with heap:=c.heap.push { cls:=.type "tuple",data:=.seq ((z.toList.drop (bw z.size 0 v)).take (bw z.size z.size o-bw z.size 0 v)).toArray } })(B:z.size<=nE):wpAny (model q u) J (Q2 (.ref f) (.ref r)) Q E c:=by
 have a:sizeOk (.seq ((z.toList.drop (bw z.size 0 v)).take (bw z.size z.size o-bw z.size 0 v)).toArray):=by show((z.toList.drop (bw z.size 0 v)).take (bw z.size z.size o-bw z.size 0 v)).toArray.size<=nE;rw[pd,Aq,aeO,aef];lia
 have l:bw z.size z.size o<=z.size:=NB _ _ (nA _) o;obtain⟨os,b,e,j⟩:=id n;have x:c.TypeIs (.ref r) "slice":=⟨os,b,e⟩
 unfold Q2;try with_reducible refine v3 ?_
 first|refine mA (mT ?_)|skip
 refine mA (adO p.typeIs (by decide) ?_);refine mA (IF (name:=th "__getitem__") p.typeIs Pl
  (x9 Pl p.typeIs afe ?_ (afB _ _)))
 show wpAny _ _ (adm (.ref f) >>= _) _ _ c;refine mA (ag8 p ?_);refine mA (ael x ?_);rw[if_pos (by decide)];refine mA (kM n y w ?_);have d:¬((((bw z.size 0 v:Nat):Int)== 0&&(1:Int)== 1&&(bw z.size z.size o-bw z.size 0 v)== z.size)=true):=by intro t;rw[nc,nc]at t;have prog:((bw z.size 0 v:Nat):Int)=0:=eq_of_beq t.1.1;have i:bw z.size z.size o-bw z.size 0 v=z.size:=eq_of_beq t.2;exact hw ⟨by lia,by lia⟩
 show wpAny _ _ (if(((bw z.size 0 v:Nat):Int)== 0&&(1:Int)== 1&&(bw z.size z.size o-bw z.size 0 v)== z.size)=true then _ else _) _ _ c;rw[if_neg d,Gn];first
  |exact mA (m:=VO _) (AF (mT ⟨_,rfl,mT h⟩) a)
  |exact mA (m:=VO _) (AF (mA (mT (mT ⟨_,rfl,mT h⟩))) a)
  |exact mA (mA (m:=VO _) (AF (mT (mT ⟨_,rfl,mT h⟩)) a))
  |exact mA (mA (m:=VO _) (AF (mT ⟨_,rfl,mT h⟩) a))
abbrev TO:=m6->Hp->(Option Int->Hp->Prop)->Prop
noncomputable def PO (X:Cx)(e:Option Expr)(t:TO):Prop :=
 ∀(g:List (Addr×Obj)) (s:mJ) (c:m6) (H:Hp) (Q:Option Int->Hp->Prop),mH X g c H s->t c H Q ->
  wpAny (model X.prog X.w) X.A (evalPart e X.env) (λu a=>∃o h,mH X g c h a/\Bs u o/\Q o h) X.xe s
noncomputable def Kn:TO:=λ_ H Q=>Q none H
noncomputable def Sk (t:TE):TO:=λc H Q=>t c H λx g=>∃i,x = .int i/\Q (some i) g
def Ko:PO X none Kn:=by intro c s g H Q I h;rw[evalPart_none];exact mT ⟨none,H,I,.none,h⟩
def Kp (h:PE X e Z):PO X (some e) (Sk Z):=by intro g s n H Q I hw;rw[evalPart_some];refine aX (h g s n H _ I hw) λu r c=>?_;obtain⟨x,p,a,b,d⟩:=c;obtain⟨i,rfl,q⟩:=d;obtain⟨t,rfl⟩:=b;exact⟨some i,p,a,.int i t,q⟩
def qA (X:Cx)(r:V->Option Int->Option Int->Hp->VK->Prop):Prop :=
 ∀(c:List (Addr×Obj)) (s:mJ) (g:m6) (H:Hp) (x:V) (v h i:Value) (n p:Option Int) (sl:Addr) (Q:VK),mH X c g H s->m5 x v->s.heap.IsSliceOf sl h i .none->Bs h n->Bs i p->r x n p H Q ->
  ∃T id,typeLookup (.type T) "__getitem__" = pure (some (.builtin id))/\s.TypeIs v T/\wpAny (model X.prog X.w) X.A (Q2 v (.ref sl)) (EP X c g Q) X.xe s
def qA.or {i:V->Option Int->Option Int->Hp->VK->Prop}(h:qA X r)(y:qA X i):qA X (λx g n H Q=>r x g n H Q\/i x g n H Q):=by
 intro p s u H x v b e g n f Q I a c d pu q;rcases q with q|q
 . exact h p s u H x v b e g n f Q I a c d pu q
 . exact y p s u H x v b e g n f Q I a c d pu q
noncomputable def ZV (r:V->Option Int->Option Int->Hp->VK->Prop)(g:TE)(h i:TO):TE:=λc H Q=>g c H λx n=>h c n λl b=>i c b λu a=>r x l u a Q
def Gp {O:Option Expr}{R:TO}{U:TO}(C:qA X r)(E:PE X e Z)(te:PO X Y R)(hu:PO X O U):PE X (.Subscript e (.Slice Y O none K) B) (ZV r Z R U):=by intro J s M H Q I h;refine Subscript_ (aX (E J s M H _ I h) λv s1 d=>?_);obtain⟨x,H1,o,p,q1⟩:=d;refine wpAny_Slice (aX (te J s1 M H1 _ o q1) λa s2 ⟨l,H2,n,y,q2⟩=>aX (hu J s2 M H2 _ n q2) λc g d=>?_);obtain⟨u,f,I3,pu,j⟩:=d;rw[evalPart_none];refine mT ?_;have z:mH X J M f { g with heap:=g.heap.push { cls:=.type "slice",data:=.fields #[a,c,.none] } }:=I3.kept (t':=g.toks) λb ob q=>nU _ q;obtain⟨T,id,hT,i,hg⟩:=C J { g with heap:=g.heap.push { cls:=.type "slice",data:=.fields #[a,c,.none] } } M f x v a c l u g.heap.objs.size Q z p (ahr ..) y pu j;show wpAny (model X.prog X.w) X.A (ag9 e (.Slice Y O none K) v (.ref g.heap.objs.size)) (EP X J M Q) X.xe { g with heap:=g.heap.push { cls:=.type "slice",data:=.fields #[a,c,.none] } };exact tail_any (ops:=[.ref g.heap.objs.size,v]) i hT hg (by with_unfolding_all rfl)
noncomputable def oM (c:List V)(g h:Option Int):List V:=(c.drop (bw c.length 0 g)).take (bw c.length c.length h-bw c.length 0 g)
def qB (c:List V)(g h:Option Int):(oM c g h).length<=c.length:=by unfold oM;rw[Aq,aeO];lia
def ND (K:o3):V->Option Int->Option Int->Hp->VK->Prop:=λx g b H Q=>∃a c,x = .ref a/\fJ K H a c /\
 ¬(bw c.length 0 g=0/\bw c.length c.length b=c.length) /\ ∀p,H p=none->Q (.ref p) (upd H p (.tup (oM c g b)))
def NF:qA X (ND X.K):=by
 intro E s J H x v u y C c z Q I f i j pu h;obtain⟨a,B,rfl,l,hw,q⟩:=h;cases f;obtain⟨n,r,d,e⟩:=I.tuple l;have g:n.toArray.size=B.length:=by rw[pd];exact r.length.symm
 refine⟨"tuple",_,Pl.lookup,d.typeIs,?_⟩;refine qo d i j pu (by rw[g];exact hw) ?_ (by rw[g];exact e);rw[g];refine⟨.ref s.heap.objs.size,_,I.laid (t':=s.toks) (o:=.tup (oM B C c)) (λb p q=>nU _ q) (nA _) ?_,rfl,q _ (I.aW.fresh (nA _))⟩;exact⟨qJ (qB B C c) e,_,(r.drop (bw B.length 0 C)).take (bw B.length B.length c-bw B.length 0 C),fY.new _ _⟩
def Sl (K:o3):R2:=λx y H Q=>∃a b g c,x = .ref a/\y = .ref b/\fJ K H a g/\fJ K H b c/\g ≠ []/\g.length+c.length<=nE /\
 (c = []->Q (.ref a) H)/\(c ≠ []->∀p,H p=none->Q (.ref p) (upd H p (.tup (g++c))))
def Vals.t9 (r:Vals U M):M = []↔ U = []:=by
 cases r with
 |nil=>simp|cons _ _=>simp
def Kq:bO X (tA .Add) (Sl X.K):=by intro J s M H x y v u Q I f g h;obtain⟨a,b,B,i,rfl,rfl,C,n,p,e,r,E⟩:=h;cases f;cases g;obtain⟨O,d,l,_⟩:=I.tuple C;obtain⟨R,c,j,_⟩:=I.tuple n;refine Km l j (λz=>p (d.t9.mp z)) (λz=>⟨.ref a,H,I,rfl,r (c.t9.mp z)⟩) (λz=>?_) (by rw[<- d.length,<- c.length];exact e);refine⟨.ref s.heap.objs.size,_,I.laid (t':=s.toks) (o:=.tup (B++i)) (λb U q=>nU _ q) (nA _) ?_,rfl,E (λw=>z (c.t9.mpr w)) _ (I.aW.fresh (nA _))⟩;exact⟨by rw[nh];exact e,_,d.append c,fY.new _ _⟩
noncomputable def lH (n:Nat)(i:Int):Option Nat:=if 0<=i then(if i<n then some i.toNat else none)else if -(n:Int)<=i then some (i+n).toNat else none
def cJ {c:Type}(g:List c)(i:Int):Option c:=(lH g.length i).bind λj=>g[j]?
def zG (h:lH n i=some p):seqIndex? i n=some p/\p<n /\ -(n:Int)<=i/\i<n:=by
 unfold lH at h;by_cases c:0<=i
 . rw[if_pos c]at h
   by_cases h1:i<n
   . rw[if_pos h1]at h
     have e:i.toNat=p:=DK h;exact⟨by rw[ahN c h1,e],by lia,by lia,h1⟩
   . rw[if_neg h1]at h;cases h
 . rw[if_neg c]at h
   by_cases h1:-(n:Int)<=i
   . rw[if_pos h1]at h
     have e:(i+n).toNat=p:=DK h;exact⟨by rw[seqIndex_neg (by lia) h1,e],by lia,h1,by lia⟩
   . rw[if_neg h1]at h;cases h
def t_ {f:Type}{g:List f}{v:f}(h:cJ g i=some v):∃j,seqIndex? i g.length=some j/\g[j]? = some v/\j<g.length /\ -(g.length:Int)<=i/\i<g.length:=by
 unfold cJ at h;cases e:lH g.length i with
 |none=>rw[e]at h;cases h
 |some j =>
  rw[e]at h;obtain⟨c,a,b,d⟩:=zG e;exact⟨j,c,h,a,b,d⟩
def gC {b:Type}{c:List b}{v:b}(h:c[n]? = some v):cJ c (n:Int)=some v:=by
 have a:n<c.length:=(nz.mp h).1;have e:lH c.length (n:Int)=some n:=by unfold lH;rw[if_pos (by lia),if_pos (by lia)];simp
 unfold cJ;rw[e];exact h
def Gq {b:Type}(c:List b)(v:b):cJ (c ++ [v]) (-1)=some v:=by
 have a:(c ++ [v]).length=c.length+1:=by simp
 have e:lH (c ++ [v]).length (-1)=some c.length:=by unfold lH;rw[a,if_neg (by decide),if_pos (by lia)];congr 1;lia
 unfold cJ;rw[e];show(c ++ [v])[c.length]? = some v;simp
def pP (b:Expr):Prop:=∀o i,subscripted b false o i=operate [o,i] (Q2 o i)
def n6 (X:Cx)(r:R2):Prop :=
 ∀(value slice:Expr) (c:List (Addr×Obj)) (s:mJ) (g:m6) (H:Hp) (x y:V) (v u:Value) (Q:VK),mH X c g H s->m5 x v->m5 y u->r x y H Q ->
  subscripted slice false v u=operate [v,u] (Q2 v u)->wpAny (model X.prog X.w) X.A (ag9 value slice v u) (EP X c g Q) X.xe s
def NG (X:Cx)(id:String)(r:V->List V->Hp->VK->Prop):Prop :=
 ∀(c:List (Addr×Obj)) (s:mJ) (g:m6) (H:Hp) (x:V) (h:List V) (v:Value) (i:List Value) (Q:VK),mH X c g H s->m5 x v->Vals h i->r x h H Q ->
  wpAny (model X.prog X.w) X.A (call (.builtin id) (v::i)) (EP X c g Q) X.xe s
def n6.or {d:R2}(h:n6 X s)(n:n6 X d):n6 X (λx y H Q=>s x y H Q\/d x y H Q):=by
 intro value slice g r i H x y v u Q I a c q b;rcases q with q|q
 . exact h value slice g r i H x y v u Q I a c q b
 . exact n value slice g r i H x y v u Q I a c q b
def Iw (i:n6 X s)(j:PE X e Z)(l:PE X C A)(n:pP C):PE X (.Subscript e C B) (C_ s Z A):=by intro g a p H Q I h;exact Subscript_ (Gf j l I h λv u E x y f r c d q=>i e C g E p f x y v u Q r c d q (n _ _))
def NH (K:o3):R2:=λx y H Q=>∃p c i v,x = .ref p/\y = .int i/\dQ K H p c/\cJ c i=some v/\Q v H
def NI (K:o3):R2:=λx y H Q=>∃p c i v,x = .ref p/\y = .int i/\fJ K H p c/\cJ c i=some v/\Q v H
def NJ:R2:=λx y H Q=>∃z i c,x = .str z/\y = .int i/\z.length<=nE/\cJ z.cps.toList i=some c/\Q (.str ⟨#[c]⟩) H
def Kr:n6 X (NH X.K):=by
 intro value slice g s B H x y v u Q I f E h d;obtain⟨p,U,i,z,rfl,rfl,hq,he,q⟩:=h;cases f;obtain⟨t,rfl⟩:=E;obtain⟨J,r,b,hz⟩:=I.list hq;obtain⟨j,a,o,Y,n,M⟩:=t_ he;obtain⟨w,e,O⟩:=r.get o;have l:=r.length;have Z:=mw;have fin:EP X g B Q w s:=⟨z,H,I,O,q⟩
 by_cases C:0<=i
 . have c:i.toNat=j:=by
    rw[ahN C M]at a;exact DK a
   exact item_listR b.isList C (by lia) (by rw[c];simpa using e) fin d
 . have c:(i+(J.toArray.size:Int)).toNat=j:=by
    rw[seqIndex_neg (by lia) n]at a;rw[pd,<- l];exact DK a
   exact adL (x:=w) b.isList.typeIs slot_list_getitem.lookup
    (wpAny_getItem_list_neg (Q:=λr R=>r=w/\EP X g B Q r R) b.isList (by lia) (by rw[pd]<;>lia) (by lia) (by rw[c];simpa using e) ⟨rfl,fin⟩) d
def NK:n6 X (NI X.K):=by
 intro value slice g s B H x y v u Q I b C h c;obtain⟨p,E,i,z,rfl,rfl,hq,he,q⟩:=h;cases b;obtain⟨t,rfl⟩:=C;obtain⟨J,r,a,hz⟩:=I.tuple hq;obtain⟨j,l,e,M,O,R⟩:=t_ he;obtain⟨w,f,n⟩:=r.get e;have d:=r.length;have U:=mw;have fin:EP X g B Q w s:=⟨z,H,I,n,q⟩
 exact adL (x:=w) a.typeIs Pl.lookup
  (getItem_tuple (j:=j) (Q:=λr o=>r=w/\EP X g B Q r o) a (by lia) (by lia) (by rw[pd,<- d];exact l) (by simpa using f) ⟨rfl,fin⟩) c
def NL:n6 X NJ:=by
 intro value slice g s B H x y v u Q I b r h d;obtain⟨z,i,c,rfl,rfl,hz,he,q⟩:=h;obtain⟨t,rfl⟩:=b;obtain⟨C,rfl⟩:=r;obtain⟨j,a,l,E,f,o⟩:=t_ he;have e:z.cps.toList.length=z.length:=by simp[Str.length]
 rw[e]at a f o;have J:=mw;exact tail_any (typeIs_str s z t) slot_str_getitem.lookup (getItem_str (c:=c) (by have p:decide (i < -(2 ^ 63:Int))=false:=decide_eq_false (by lia);have n:decide (i>=2 ^ 63)=false:=decide_eq_false (by lia);rw[p,n,afL]) (by rw[a];simpa using l) ⟨.str ⟨#[c]⟩,H,I.tok _,⟨_,rfl⟩,q⟩) d
def ZW (K:o3):R2:=λx y H Q=>NH K x y H Q\/NI K x y H Q\/NJ x y H Q
def Dj:n6 X (ZW X.K):=Kr.or (NK.or NL)
def BF (c:List Value)(n j:Nat)(u:Value):Gx (·.setIfInBounds j u) { cls:=.type "list",data:=.seq c.toArray n }={ cls:=.type "list",data:=.seq (c.set j u).toArray n }:=by simp[Gx]
theorem mH.lst (I:mH X b y H c)(h:H f=some (.lst U)):
  ∃(g:List Value) (n:Nat),Vals U g/\c.heap.get? f=some { cls:=.type "list",data:=.seq g.toArray n }/\U.length<=nE:=by
 obtain⟨z,g,n,r,e⟩:=I.aW f _ h;exact⟨g,n,r,e,z⟩
def mH.NM {its':List Value}{g:Obj->Obj}(I:mH X b y H c)(h:H f=some (.lst U))(j:c.heap.get? f=some { cls:=.type "list",data:=.seq M.toArray n })(i:g { cls:=.type "list",data:=.seq M.toArray n }={ cls:=.type "list",data:=.seq its'.toArray p })(r:Vals w its')(hz:w.length<=nE)(t:Nat):
  mH X b y (upd H f (.lst w)) { c with heap:=c.heap.update f g,toks:=t }:=by
 have e:(c.heap.update f g).get? f=some { cls:=.type "list",data:=.seq its'.toArray p }:=by rw[MQ g j (by rw[i]<;>rfl),i]
 refine I.write (x:=f) (e:=f) (by rw[h];trivial) (.inl rfl) (λv u a q=>(acC _ _ (om a)).trans q) ⟨_,e⟩ ?_;exact⟨hz,its',p,r,e⟩
def Sm:V->V->V->Hp->(Hp->Prop)->Prop:=λo i v H Q=>∃p c k j,o = .ref p/\i = .int k/\H p=some (.lst c)/\lH c.length k=some j/\Q (upd H p (.lst (c.set j v)))
def set_list:F9 X Sm:=by
 intro B s C H o i v O iv u Q I E ri z h;obtain⟨p,J,k,j,rfl,rfl,e,M,q⟩:=h;cases E;obtain⟨t,rfl⟩:=ri;obtain⟨x,n,r,c,hz⟩:=I.lst e;obtain⟨a,h2,f,l⟩:=zG M;have b:=r.length;have R:=mw
 have y:mH X B C (upd H p (.lst (J.set j v))) { s with heap:=s.heap.update p (Gx (·.setIfInBounds j u)) }:=
   I.NM e c (BF x n j u) (r.set z j) (by rw[S3];exact hz) s.toks
 by_cases g:0<=k
 . have d:k.toNat=j:=by
    rw[ahN g l]at a;exact DK a
   exact PySem.W.ki_setAt c g (by lia) (by rw[pd,<- b];exact l) (by rw[d];exact⟨_,y,q⟩)
 . have d:(k+(x.toArray.size:Int)).toNat=j:=by
    rw[seqIndex_neg (by lia) f]at a;rw[pd,<- b];exact DK a
   exact PySem.W.ki_setBack c (by lia) (by rw[pd,<- b];exact f) (by lia) (by rw[d];exact⟨_,y,q⟩)
def wM (c d:Option Int)(n:Nat):(We c d none n).1=((bw n 0 c:Nat):Int)/\(We c d none n).2.1=((bw n n d:Nat):Int)/\(We c d none n).2.2=1:=by
 refine⟨?_,?_,rfl⟩
 . cases c with
   |none=>simp[We,bw]
   |some i =>
    simp only[We,bw,ahY,show(1:Int)>0 by decide,if_true];by_cases h:i<0
    . simp only[h,if_true]<;>lia
    . simp only[h,if_false]<;>lia
 . cases d with
   |none=>simp[We,bw]
   |some i =>
    simp only[We,bw,ahY,show(1:Int)>0 by decide,if_true];by_cases h:i<0
    . simp only[h,if_true]<;>lia
    . simp only[h,if_false]<;>lia
def vJ (d:List Value)(e f:Option Int):slicePick d.toArray e f none=((d.drop (bw d.length 0 e)).take (bw d.length d.length f-bw d.length 0 e)).toArray:=by obtain⟨c,a,b⟩:=wM e f d.toArray.size;unfold slicePick;rw[c,a,b];simp only[sliceRange_one,pick_run,pd]<;>rfl
def NN (K:o3):V->Option Int->Option Int->Hp->VK->Prop:=λx g b H Q=>∃a c,x = .ref a/\dQ K H a c /\ ∀p,H p=none->Q (.ref p) (upd H p (.lst (oM c g b)))
def Ks:qA X (NN X.K):=by intro E s J H x v p u C c z Q I e f i pu h;obtain⟨a,g,rfl,j,q⟩:=h;cases e;obtain⟨y,r,d,l⟩:=I.list j;have B:=r.length;refine⟨"list",_,slot_list_getitem.lookup,d.isList.typeIs,?_⟩;refine wpAny_getItem_list_slice d.isList f i pu .none (by simp) ?_ (by rw[pd]<;>lia);rw[vJ,<- B];refine⟨.ref s.heap.objs.size,_,I.laid (t':=s.toks) (o:=.lst (oM g C c)) (λb n q=>nU _ q) (nA _) ?_,rfl,q _ (I.aW.fresh (nA _))⟩;exact⟨qJ (qB g C c) l,_,0,(r.drop (bw g.length 0 C)).take (bw g.length g.length c-bw g.length 0 C),qt _ rfl⟩
noncomputable def kh:V->Bool
 |.aB=>true|.bl _=>true|.int _=>true|.str _=>true|_=>false
noncomputable def uX:V->V->Bool
 |.aB,d=>match d with|.aB=>true|_=>false
 |.bl e,d=>match d with|.bl C=>e == C|.int C=>(if e then 1 else 0)== C|_=>false
 |.int e,d=>match d with|.bl C=>e == (if C then 1 else 0)|.int C=>e == C|_=>false
 |.str e,d=>match d with|.str C=>e == C|_=>false
 |_,_=>false
def NO {v:Value}(f:m5 I T)(d:m5 t v)(h:kh I=true)(e:kh t=true):SeqAt.EqAt J c T v (uX I t):=by
 cases I with
 |aB =>
  cases f;cases t with
  |aB=>cases d;exact SeqAt.EqAt.same _|bl b=>cases d;exact SeqAt.EqAt.none_bool b|int b=>obtain⟨s,rfl⟩:=d;exact SeqAt.EqAt.none_int b s
  |str b=>obtain⟨s,rfl⟩:=d;exact SeqAt.EqAt.none_str b s
  |_=>exact absurd (show false=true from e) Lo
 |bl a =>
  cases f;cases t with
  |aB=>cases d;exact SeqAt.EqAt.bool_none a|bl b=>cases d;exact SeqAt.EqAt.bool_bool a b|int b=>obtain⟨s,rfl⟩:=d;exact SeqAt.EqAt.bool_int a b s
  |str b=>obtain⟨s,rfl⟩:=d;exact SeqAt.EqAt.bool_str a b s
  |_=>exact absurd (show false=true from e) Lo
 |int a =>
  obtain⟨A,rfl⟩:=f;cases t with
  |aB=>cases d;exact SeqAt.EqAt.int_none a A|bl b=>cases d;exact SeqAt.EqAt.int_bool a A b|int b=>obtain⟨s,rfl⟩:=d;exact SeqAt.EqAt.int_int a A b s
  |str b=>obtain⟨s,rfl⟩:=d;exact ahj a A b s
  |_=>exact absurd (show false=true from e) Lo
 |str a =>
  obtain⟨A,rfl⟩:=f;cases t with
  |aB=>cases d;exact SeqAt.EqAt.str_none a A|bl b=>cases d;exact SeqAt.EqAt.str_bool a A b|int b=>obtain⟨s,rfl⟩:=d;exact ahk a A b s
  |str b=>obtain⟨s,rfl⟩:=d;exact SeqAt.EqAt.str_str a A b s
  |_=>exact absurd (show false=true from e) Lo
 |_=>exact absurd (show false=true from h) Lo
def Iy (x:V)(u:Value):Bool:=match u with
 |.none=>uX .aB x|.bool e=>uX (.bl e) x|.int i _=>uX (.int i) x|.str z _=>uX (.str z) x|_=>false
def Dk (r:m5 t T)(f:kh t=true):Iy I T=uX t I:=by
 cases t with
 |aB=>cases r;rfl|bl b=>cases r;rfl|int i=>obtain⟨x,rfl⟩:=r;rfl
 |str z=>obtain⟨x,rfl⟩:=r;rfl
 |_=>exact absurd (show false=true from f) Lo
theorem wN {A:qr}{s:mJ}{x:V}{v:Value}(d:m5 x v)(c:kh x=true):∀{g:List V} {h:List Value},Vals g h->g.all kh=true->∀u∈h,SeqAt.EqAt A s u v (Iy x u)
 |_,_,.nil,_=>λu hu=>by cases hu
 |y::g,u::h,.cons r t,f=>λa hu=>by
  rw[Z_,nc]at f;rcases nQ.mp hu with rfl|hu
  . rw[Dk r f.1];exact NO r d f.1 c
  . exact wN d c t f.2 a hu
def wO:dY X (.builtin "len") (λv H Q=>∃p n,v = [.ref p]/\(dQ X.K H p n\/fJ X.K H p n)/\Q (.int n.length) H):=by
 intro x s y H v B Q I r h;obtain⟨p,n,rfl,a,q⟩:=h;obtain⟨u,rfl,d⟩:=bai r;cases d;have i:=mw;rcases a with a|a
 . obtain⟨f,c,b,e⟩:=I.list a
   have g:=c.length;exact Calls.call_len_list b.isList (by simp only[pd]<;>lia) ⟨.int n.length,H,I.tok _,⟨s.toks+1,by rw[pd,g]⟩,q⟩
 . obtain⟨f,c,b,e⟩:=I.tuple a
   have g:=c.length;exact len_tuple b (by simp only[pd]<;>lia) ⟨.int n.length,H,I.tok _,⟨s.toks+1,by rw[pd,g]⟩,q⟩
def n8:dY X (.type "tuple") (λy H Q=>∃p g,y = [.ref p]/\((dQ X.K H p g /\ ∀l,H l=none->Q (.ref l) (upd H l (.tup g)))\/(fJ X.K H p g/\Q (.ref p) H))):=by
 intro B s C H y J Q I r h;obtain⟨p,g,rfl,h⟩:=h;obtain⟨u,rfl,n⟩:=bai r;cases n;rcases h with⟨hq,q⟩|⟨hq,q⟩
 . obtain⟨f,d,c,j⟩:=I.list hq
   have E:=d.length;refine call_tuple_list c.isList (λa x=>?_) (by simp only[pd]<;>lia);have i:mH X B C H { s with heap:=a }:=I.kept (t':=s.toks) x;have v:mH X B C (upd H a.objs.size (.tup g)) { s with heap:=a.push { cls:=.type "tuple",data:=.seq f.toArray } }:=
    i.laid (t':=s.toks) (λb o e=>nU _ e) (nA _) (show dX X.prog X.w _ _ _ (.tup g) from⟨j,f,d,fY.new _ _⟩)
   exact⟨.ref a.objs.size,_,v,rfl,q _ (i.aW.fresh (nA _))⟩
 . obtain⟨f,d,c,j⟩:=I.tuple hq
   exact call_tuple_same c ⟨.ref p,H,I,rfl,q⟩
def UA (K:o3)(T:String)(x:V)(H:Hp):Prop:=match x with
 |.str _=>T = "str"|.int _=>T = "int"
 |.ref p=>(T = "list" /\ ∃g,dQ K H p g)\/(T = "tuple" /\ ∃o,K.lookup p=some o/\o.cls = .type "tuple" /\ o.dict=none) \/
  (T = "dict" /\ ((∃c,H p=some (.dK c)) \/ ∃c,H p=some (.dT c)))\/(T = "set" /\ ∃S n,H p=some (.set S n))
 |_=>False
def Dp (s:mH X b y H c)(r:m5 I T)(h:UA X.K R I H):
  c.TypeIs T R /\ ∀a,T = .ref a->∃q,c.heap.get? a=some q/\q.dict=none:=by
 cases I with
 |str z =>
  obtain⟨t,rfl⟩:=r;cases (show R = "str" from h);exact⟨typeIs_str c z t,λ_ e=>nomatch e⟩
 |int i =>
  obtain⟨t,rfl⟩:=r;cases (show R = "int" from h);exact⟨af2 c i t,λ_ e=>nomatch e⟩
 |ref p =>
  cases r;rcases h with⟨rfl,xs,hq⟩|⟨rfl,o,hk,hc,hd⟩|⟨rfl,hk⟩|⟨rfl,S,n,hk⟩
  . obtain⟨f,_,d,_⟩:=s.list hq
    refine⟨d.isList.typeIs,λa e=>?_⟩;cases e;obtain⟨o,n,e,u,hd,_⟩:=d;exact⟨o,e,hd⟩
  . refine⟨⟨o,s.g_ p o hk,hc⟩,λa e=>?_⟩
    cases e;exact⟨o,s.g_ _ o hk,hd⟩
  . have z:∃o,c.heap.get? p=some o/\o.ExactDict:=by
     rcases hk with⟨eO,hk⟩|⟨eO,hk⟩
     . obtain⟨_,_,_,_,o,_,_,e,ex,_⟩:=s.aW p _ hk
       exact⟨o,e,ex⟩
     . obtain⟨_,_,_,_,o,_,_,e,ex,_⟩:=s.aW p _ hk
       exact⟨o,e,ex⟩
    obtain⟨o,e,ex⟩:=z;refine⟨⟨o,e,ex.1⟩,λa g=>?_⟩;cases g;exact⟨o,e,ex.2.1⟩
  . obtain⟨o,_,_,_,e,ex,_⟩:=s.aW p _ hk
    refine⟨⟨o,e,ex.1⟩,λa g=>?_⟩;cases g;exact⟨o,e,ex.2.1⟩
 |_=>exact CZ h
noncomputable def ZX (K:o3)(T:String)(r:V->List V->Hp->VK->Prop)(c:TE)(t:TA):TE:=λg H Q=>c g H λx h=>UA K T x h/\t g h λi a=>r x i a Q
def Sn {t:TA}{r:V->List V->Hp->VK->Prop}(N:PlainAttrs R)(slot:Slot R x O)(y:typeOf (.builtin O)=pure (.type "method_descriptor"))(Y:NG X O r)(A:PE X C Z)(name:PA X (e::d) t)(E:aeM C x X.env (eval C X.env)=eval C X.env)(L:((vE K (nN (e::d) X.env)).all (λto=>!to.1)&&(backToKw K (ahO [] X.env)).all (λto=>to.1.isSome)
   && decide ((e::d).length+([]:List Vj).length+(if([]:List Vj).isEmpty then 0 else 1)<30))=true)(z:(B.endLine == K.line)=true)(M:nN (e::d) X.env=(false,eval e X.env)::nN d X.env)(J:(vE K (nN d X.env)).any (·.1)=false):
  PE X (.Call (.Attribute C x B) (e::d) [] K) (ZX X.K R r Z t):=by
 intro g s U H Q I h;refine agz E L z rfl (aX (A g s U H _ I h) λv s1 j=>?_);obtain⟨to,H1,a,b,ty,n⟩:=j;obtain⟨i,f⟩:=Dp a b ty;refine⟨R,O,N,slot,y,i,f,?_⟩;have c:=name K g s1 U H1 _ a n;rw[M]at c ⊢
 refine aeG (by show(false||(vE K (nN d X.env)).any (·.1))=false;rw[J]<;>rfl) (agX ?_)
 exact aX c λus s2 ⟨l,u,o,p,q⟩=>Y g s2 U u to l v us Q o b p q
def UB (X:Cx)(id:String)(r:V->List V->Hp->VK->Prop):Prop :=
 ∀(c:List (Addr×Obj)) (s:mJ) (g:m6) (H:Hp) (x:V) (h:List V) (v:Value) (i:List Value) (Q:VK),mH X c g H s->m5 x v->Vals h i->r x h H Q ->
  wpAny (model X.prog X.w) X.A (call (.builtin id) (v::i)) (EP X c g Q) X.xe s
def Vals.one (h:Vals [I] M):∃u,M = [u]/\m5 I u:=by
 cases h with
 |cons r t=>cases t;exact⟨_,rfl,r⟩
theorem Vals.rep {c:List V}{g:List Value}(h:Vals c g):∀k:Nat,Vals (nW k c).flatten (nW k g).flatten
 | 0=>.nil|k+1=>by rw[UQ,UQ,Qx,Qx];exact Vals.append h (Vals.rep h k)
theorem bam (b:List Value):∀(k:Nat) (c:List Value),
  agY (λg h=>g++h) c.toArray (nW k b.toArray)=(c++(nW k b).flatten).toArray
 | 0,c=>by simp
 |k+1,c=>by
  have e:c.toArray++b.toArray=(c++b).toArray:=by simp
  have a:(c++b)++(nW k b).flatten=c++(nW (k+1) b).flatten:=by rw[UQ,Qx,zU]
  rw[<- a,<- bam b k (c++b),<- e,UQ,List.foldl_cons]
def mH.NP {its':List Value}{g:Array Value->Array Value}(I:mH X b y H c)(i:H f=some (.lst U))(e:c.heap.get? f=some { cls:=.type "list",data:=.seq M.toArray n })(h:g M.toArray=its'.toArray)(d:Vals w its')(hz:w.length<=nE):
  mH X b y (upd H f (.lst w)) { c with heap:=c.heap.update f (Gx g),toks:=p }:=by
 have q:=PySem.IsL.update e g;rw[h]at q;refine I.write (x:=f) (e:=f) (by rw[i];exact trivial) (.inl rfl) (λr u a hu=>(acC c.heap (Gx g) (om a)).trans hu) ⟨_,q⟩ ?_;exact⟨hz,its',_,d,q⟩
def mH.W_ {t':Nat}(I:mH X b y H c)(a:Vals U M)(hz:U.length<=nE):
  mH X b y (upd H c.heap.objs.size (.lst U)) { c with heap:=c.heap.push { cls:=.type "list",data:=.seq M.toArray },toks:=t' }:=
 I.laid (λ_ _ q=>nU _ q) (nA _) ⟨hz,M,0,a,qt _ rfl⟩
theorem mH.fresh (I:mH X b y H c):H c.heap.objs.size=none:=I.aW.fresh (nA _)
def mH.NQ (I:mH X b y H c)(a:H f=some (.lst U)):U.length<=nE /\ ∃(g:List Value) (n:Nat),Vals U g/\U.length=g.length/\c.heap.get? f=some { cls:=.type "list",data:=.seq g.toArray n }:=by obtain⟨z,g,n,r,e⟩:=I.aW f _ a;exact⟨z,g,n,r,r.length,e⟩
def wU (h:n<=nE):acn n=false:=by unfold acn;exact decide_eq_false (by lia)
def Kt:V->List V->Hp->VK->Prop:=λx a H Q=>∃l c y,x = .ref l/\a = [y]/\H l=some (.lst c)/\c.length<nE/\Q .aB (upd H l (.lst (c ++ [y])))
def uY:UB X "list.append" Kt:=by intro g s p H x j v B Q I c d h;obtain⟨l,C,y,rfl,rfl,a,o,q⟩:=h;cases c;obtain⟨u,rfl,f⟩:=d.one;obtain⟨z,b,n,r,i,e⟩:=I.NQ a;refine UH F.slot_list_append ⟨_,e,rfl⟩ F.entry_list_append (F.args_list_append_2 _ _) (PySem.list_append l b.toArray n u (by rw[pd];lia)) ⟨e,?_⟩;refine⟨.aB,_,I.NP (its':=b ++ [u]) a e (by simp) (r.append (.cons f .nil)) ?_,rfl,q⟩;rw[nh,F4];lia
def len_rep {a:Type}(c:List a)(k:Nat):(nW k c).flatten.length=k*c.length:=by
 induction k with
 |zero=>simp|succ k g=>rw[UQ,Qx,nh,g,Nat.succ_mul,Nat.add_comm]
end
section
open PySem.W PySem.Calls PyProof.Rows
variable {Z:Params}{l:ad2}
def se:∀(c:List Int) (g:List Value),WellAll Z z g (c.map WData.int)->BJ g c:=by
 intro c;induction c with
 |nil =>
  intro g w;rw[ahs]at w;cases w;exact .nil
 |cons n c h =>
  intro g w;rw[x8]at w;cases w with
  |cons a b =>
   cases a;exact .cons _ _ (h _ b)
def Dq (v:l.most=some n){args:List WData}(u:l.row.toRowW.claim.pre args=true)(x:WellAll Z z M args):
  ∃a y g,M = [FY a]/\args = [WData.list (g.map WData.int)]/\z.get? a=some { cls:=.type "list",data:=.seq y.toArray }/\BJ y g/\g.length<=n:=by
 have f:WShape.hasAll [] args [.list .int]=true:=(pre_splitW u).1;have e:l.pre.holds [] { args:=args }=true:=(pre_splitW u).2;obtain⟨d,r,rfl,o,p⟩:=hasAllW_cons f;obtain rfl:=hasAllW_nil p;obtain⟨H,rfl,j⟩:=hasW_list o;obtain⟨g,rfl⟩:=items_int j;have h:g.length<=n:=by
  unfold OpenLaw.pre at e;have c:(WTm.not (.lt (.lit (.int (n:Int))) (.len (.arg 0)))).holds [] { args:=[.list (g.map .int)] }=true:=by have c:=(holds_andW e).1;rw[v]at c;exact c
  have b:=condW_of c (w_not (w_lt w_lit (w_len_list (w_arg rfl))));rw[ro]at b;refine Nat.le_of_not_lt λq=>?_;have i:(n:Int)<((g.length:Nat):Int):=by lia
  first
   | (rw[decide_eq_true i]at b;exact absurd b (by decide))
   | (simp at b;lia)
 cases x with
 |cons B C =>
  cases C;cases B with
  |list ho E=>exact⟨_,_,g,rfl,rfl,ho,se g _ E,h⟩
def Dr (l:ad2)(args:List WData):l.row.toRowW.claim.post args (.bool true) args=true :=
 postW_of (r:=l.row.toRowW) (X:=(true == true))
  (show WShape.has [] (.bool true) .bool=true by first|rfl|decide|simp[WShape.has,WShape.arms,WShape.armsAll])
  (show(WTm.eq .res (.lit (.bool true))).value [] { args:=args,res:=some (.bool true),after:=args }=some (.bool (true == true)) from w_eq_bool (w_res rfl) w_lit) rfl
def zj {B:(Str->Option Value)->Heap->Prop}{C:World->Heap->Prop}{d:DefRec}(H:l.most=some n)(E:d.params.defaults = [])(call:∀(w:World) (s₀ s₁:mJ) (mg U:Str->Option Value) (fa:Addr) (o:Obj) (X M g:Value) (a:Addr) (I:List Value) (O:List Int),
   Ground q R [] B w s₀ mg U s₁.heap->C w s₁.heap ->
   s₁.heap.get? fa=some o->o.data = .func (docDef d.name d.params d.body d.scope X M g)->s₁.heap.CodeRec M d.name->mg d.name=some (.ref fa) ->
   s₁.heap.get? a=some { cls:=.type "list",data:=.seq I.toArray }->BJ I O->O.length<=n->s₁.gens = #[] ->
   PM (model l.prog w) Vx (.call (.ref fa) ⟨[.ref a],[]⟩) (λr Q=>r = .ok (.ret (.bool true))/\OldK s₁.heap Q.heap/\Q.os=s₁.os/\SJ Q.gens) s₁):
  WalkO q R B C l.row.toRowW d [] (λf I=>agZ f I):=by
 intro w s₀ s₁ mg U G Y fa o X M g p kV s hd b hD i x args vals Z y v ZZ j UC;obtain rfl:p = .none:=Dflts.none hD E;obtain rfl:kV = .none:=Dflts.noKw hD;obtain⟨a,I,O,rfl,rfl,u,hints,J⟩:=Dq H y j;refine enter_call (V8 (call w s₀ s₁ mg U fa o X M g a I O G Y s (fd_plain hd) b i u hints J x) λr Q z=>?_);obtain⟨rfl,h,c,e⟩:=z;exact⟨.inl ⟨.bool true,.bool true,[],rfl,λ_=>rfl,.bool true,Dr l _,λ_=>⟨ahF,λ_ hm=>(nomatch hm)⟩⟩,h,c,e⟩
end
section
open PyProof.Rows
variable {Z:Array (Int×Value)}{t:Vw}{Y:Option (Value×Nat)->mJ->Prop}{U:Option Value->mJ->Prop}{K:Nat->Nat->Prop}{I:o3}{a:Addr}{H:yy}{C:Sp}{B:Lx}{d:Stmt}{A:Str->Option Value}{y:Value}
theorem jT:∀{c:List Value} {g:List Int},BJ c g->Vals (g.map V.int) c
 |_,_,.nil=>.nil|_,_,.cons n t h=>.cons ⟨t,rfl⟩ (jT h)
def Xa (H:Hp):Prop:=∀b,H b=none\/(∃o c,H b=some (.nX o (.lst c))) \/ ∃p q,H b=some (.cz p q)
structure TabsOk (K:o3)(ts:List Addr)(lx:Lx):Prop where
 hd:∀q∈lx.tb,∃c,ad4 K c q.1=true
 out:∀q∈lx.tb,K.lookup q.1=none
 mem:∀q∈lx.tb,q.1∈ts
 nd:(lx.tb.map (·.1)).Nodup
noncomputable def mB (l:List (Addr×Pos×Str)):Hp:=λb=>(l.lookup b).map λq=>.cz q.1 q.2
theorem ua:∀{l:List (Addr×Pos×Str)} {q:Addr×Pos×Str},(l.map (·.1)).Nodup->q∈l->mB l q.1=some (.cz q.2.1 q.2.2)
 |x::l,q,nd,h=>by
  unfold mB;rw[yE];rw[x8,D5]at nd;rcases nQ.mp h with rfl|h
  . simp
  . rw[show(q.1 == x.1)=false from beq_eq_false_iff_ne.mpr λe=>nd.1 (by rw[<- e];exact Pd h)]
    exact ua nd.2 h
theorem oN:∀{l:List (Addr×Pos×Str)} {b:Addr} {u:HO},mB l b=some u->∃q∈l,q.1=b/\u = .cz q.2.1 q.2.2
 | [],b,u,h=>by cases h
 |x::l,b,u,h=>by
  unfold mB at h;rw[yE]at h;split at h
  . rename_i e
    cases h;exact⟨x,tc,(eq_of_beq e).symm,rfl⟩
  . obtain⟨q,m,r⟩:=oN (l:=l) h
    exact⟨q,qz _ m,r⟩
def Gs {ns:Str->Option Value}{CX:oJ}(J:I.In c.heap)(vs:c.heap.Ns uP A)(P:c.heap.Ns af0 ns)(X:∀x:Str,x ≠ "__name__"->ns x=NW x)(R:c.heap.NoLimit)(U:∃bm ob,BMod c.heap uP A bm ob)(S:c.gens = #[])(E:c.heap.get? a=some { cls:=.type "list",data:=.seq M.toArray })(s₁:BJ M r)(Q:r.length<=nE)(N:dM n Vx)(TO:TabsOk I O B)(Z:∀q∈O,c.heap.get? q=some (VG #[]))(F:∀base:Heap,I.In base->base.Ns uP A->eE q u I A base CX n f H [x] C)(Y:∀(s:mJ) (K:Value),ahA s H ⟨[K],[]⟩ [(x,K)])(T:∀mg:Hp,dQ I mg a (r.map V.int)->(∀w∈B.tb,mg w.1=some (.cz w.2.1 w.2.2))->C [.ref a] mg (λv _=>v = .bl true) λ_ _ _=>False)(W:∀mg e g,CX [] mg c (λ_ _ _=>False) e g->False):
  PM (model q u) Vx (.call (.ref f) ⟨[.ref a],[]⟩) (λL g=>L = .ok (.ret (.bool true))/\OldK c.heap g.heap/\g.os=c.os/\SJ g.gens) c:=by
 have rv:=jT s₁;have Xc:=s₁.length;have tabs:∀w∈B.tb,c.heap.get? w.1=some (VG #[]):=λw i=>Z _ (TO.mem w i);have core:∀mg:Hp,Xa mg->dQ I mg a (r.map V.int)->eQ q u mg c.heap->(∀b,mg b≠none->b=a \/ ∃w∈B.tb,w.1=b)->(mg a≠none->I.lookup a=none)->(∀w∈B.tb,mg w.1=some (.cz w.2.1 w.2.2)) ->
    PM (model q u) Vx (.call (.ref f) ⟨[.ref a],[]⟩) (λL g=>L = .ok (.ret (.bool true))/\OldK c.heap g.heap/\g.os=c.os/\SJ g.gens) c:=by
  intro mg hO hS aW hA hK Z1;have lx:∀{b:Addr} {o:Obj},c.heap.get? b=some o->mg b=none->(nq c.heap mg).get? b=some o:=λe fd=>F5 e fd;have UD:∀{b:Addr} {o:Obj},c.heap.get? b=some o->o≠{ cls:=.type "list",data:=.seq M.toArray }->o≠VG #[]->mg b=none:=fun {b o} e d1 d2=>by
    cases w:mg b with
    |none=>rfl
    |some K =>
      rcases hA b (by rw[w];simp)with e'|⟨L,N,e'⟩
      . subst e';rw[E]at e;exact absurd (DK e).symm d1
      . have:=tabs L N;rw[e',e]at this;exact absurd (DK this) d2
  have r6:∀{b:Addr} {o:Obj} {es:Array rG} {ep:Nat},c.heap.get? b=some o->o.data = .dict es ep->mg b=none:=fun {b o es ep} e d=>UD e (λz=>by rw[z]at d;cases d) λz=>by rw[z]at d;cases d
  have l:∀{b:Addr} {m:Str->Option Value},c.heap.Ns b m->(nq c.heap mg).Ns b m:=fun {b m} ⟨o,es,ep,e,d,L⟩=>⟨o,es,ep,lx e (r6 e d),d,L⟩
  have UE:I.In (nq c.heap mg):=λb o e=>lx (J b o e) (by
    cases w:mg b with
    |none=>rfl
    |some K =>
      rcases hA b (by rw[w];simp)with e'|⟨L,N,e'⟩
      . subst e'
        rw[hK (by rw[w];simp)]at e;cases e
      . have:=TO.out L N;rw[e',e]at this;cases this)
  have hM:bab I A (nq c.heap mg):=⟨UE,l vs,⟨ns,l P,X⟩,let⟨mc,h1,h2⟩:=R;⟨mc,l h1,h2⟩,let⟨bm,ob,sp⟩:=U
    ⟨bm,ob,l sp.ns,sp.name,sp.ne,lx sp.obj (UD sp.obj (λz=>by have:=sp.cls;rw[z]at this;have this:wz "list" = .type "module":=this;exact absurd this (by decide)) λz=>by have:=sp.cls;rw[z]at this;exact absurd this (by decide)),sp.cls,sp.dict,sp.data⟩⟩
  have e0:qS q u I A (nq c.heap mg) Vx [] c mg:=⟨rfl,hM,λb o e=>J7 e,ae7 (CV _ _),trivial,λb P=>absurd (show b∈([]:List Addr) from P) (by simp),aW,.of_eq S⟩
  refine V8 ((F _ UE (l vs)).run Vx [] c mg ⟨[.ref a],[]⟩ [.ref a] [.ref a] _ _ N e0 (Y c (.ref a)) (.cons rfl .nil) (T mg hS Z1)) λL g h=>?_;cases L with
  |error e=>exact(W mg e g h).elim
  |ok fl =>
    cases fl with
    |next=>exact CZ h|brk=>exact CZ h|cont=>exact CZ h
    |ret K =>
      obtain⟨v,H',os,bare,un,NU,r',w⟩:=h;have q':v = .bl true:=w;subst q';obtain rfl:K=afZ true:=r';have key:∀b o,c.heap.get? b=some o->g.heap.get? b=some o\/(∃L∈B.tb,L.1=b) /\ ∃j,g.heap.get? b=some (VG j):=λb o e=>by
        cases w:mg b with
        |none=>exact .inl (un.keep b o e w (by intro z;exact absurd (show b∈([]:List Addr) from z) (by simp)) (by simp))
        |some K =>
          rcases hO b with z|⟨ob,xs,z⟩|⟨p,q',z⟩
          . rw[w]at z;cases z
          . have z2:=un.kK b ob _ z
            obtain⟨y,_⟩:=aW b _ z;obtain⟨e2,_⟩:=NU b _ z2;rw[e]at y;cases y;exact .inl e2
          . have z2:=un.kL b _ rfl z
            obtain⟨j,e2,_⟩:=NU b _ z2;rcases hA b (by rw[w];simp)with e'|N
            . subst e'
              obtain⟨_,y,_⟩:=aW b _ z;rw[E]at y;cases y
            . exact .inr ⟨N,j,e2⟩
      refine⟨rfl,⟨λb o e=>?_,λb o e=>?_⟩,os,bare⟩
      . rcases key b o e with n|⟨⟨L,N,e'⟩,j,n⟩
        . exact .inl n
        . obtain⟨k,hc⟩:=TO.hd L N
          have hP:=tabs L N;have hC:=(ahd J hc).tab hP;rw[e']at hP hC;rw[e]at hP;cases hP;exact .inr (.inl ⟨hC.isCodeTable,rfl,#[],j,rfl,by rw[Array.empty_append];exact n⟩)
      . rcases key b o e with n|⟨_,j,n⟩
        . exact⟨_,n⟩
        . exact⟨_,n⟩
 have UG:∀w∈B.tb,w.1≠a:=λw i z=>by have:=tabs w i;rw[z,E]at this;cases this
 have Xd:eQ q u (mB B.tb) c.heap:=λb K z=>by obtain⟨w,i,rfl,rfl⟩:=oN z;exact⟨#[],tabs w i,trivial,.inl rfl⟩
 have IC:∀b,mB B.tb b=none\/(∃o xs,mB B.tb b=some (.nX o (.lst xs))) \/ ∃p w,mB B.tb b=some (.cz p w):=λb=>by
  cases z:mB B.tb b with
  |none=>exact .inl rfl
  |some K =>
    obtain⟨w,_,_,rfl⟩:=oN z;exact .inr (.inr ⟨_,_,rfl⟩)
 have Gu:∀b,mB B.tb b≠none->∃w∈B.tb,w.1=b:=λb z=>by
  cases e:mB B.tb b with
  |none=>exact absurd e z|some K=>obtain⟨w,h1,h2,_⟩:=oN e;exact⟨w,h1,h2⟩
 cases hk:I.lookup a with
 |some o =>
  have e:=J a o hk;rw[E]at e;cases e;refine core (mB B.tb) IC (.inr ⟨_,M.toArray,_,hk,rfl,rfl,rfl,by rw[pd,Xc];exact Q,by simpa using rv⟩) Xd (λb z=>.inr (Gu b z)) (λz=>?_) λw i=>ua TO.nd i;obtain⟨w,i,e⟩:=Gu a z;exact absurd e (UG w i)
 |none =>
  refine core (upd (mB B.tb) a (.nX { cls:=.type "list",data:=.seq M.toArray } (.lst (r.map V.int)))) (λb=>?_) (.inl (.inr ⟨{ cls:=.type "list",data:=.seq M.toArray },aQ⟩)) (λb K z=>?_) (λb z=>?_) (λ_=>hk) λw i=>by rw[aG (UG w i)];exact ua TO.nd i
  . by_cases P:b=a
    . subst P;exact .inr (.inl ⟨_,_,aQ⟩)
    . rw[aG P];exact IC b
  . by_cases P:b=a
    . subst P
      rw[aQ]at z;cases z;exact⟨E,by rw[ro];exact Q,M,_,rv,E⟩
    . rw[aG P]at z
      obtain⟨w,i,rfl,rfl⟩:=oN z;exact⟨#[],tabs w i,trivial,.inl rfl⟩
  . by_cases P:b=a
    . exact .inl P
    . rw[aG P]at z;exact .inr (Gu b z)
def Ku {l:ad2}{k:Nat}{E:(Str->Option Value)->Heap->Prop}{B:World->Heap->Prop}{d:DefRec}{K:Params->o3}{CX:World->oJ}{sp:World->Lx->Sp}(Q:l.most=some n)(N:n<=nE)(J:d.params.defaults = [])(A:dM k Vx)(I:∀(w:World) (h:Heap),B w h->(K w.params).In h /\ ∀P∈O,h.get? P=some (VG #[]))(F:∀(w:World) (mg:Str->Option Value) (fa:Addr) (h:Heap),(K w.params).In h->h.Ns uP mg->mg d.name=some (.ref fa) ->
   ∃(fd:yy) (lx:Lx),TabsOk (K w.params) O lx/\(∀(s:mJ) (u:Value),ahA s fd ⟨[u],[]⟩ [(x,u)]) /\
    ∀base:Heap,(K w.params).In base->base.Ns uP mg->eE l.prog w (K w.params) mg base (CX w) k fa fd [x] (sp w lx))(L:∀(w:World) (lx:Lx) (H:Hp) (a:Addr) (U:List Int),U.length<=n->dQ (K w.params) H a (U.map V.int)->(∀q∈lx.tb,H q.1=some (.cz q.2.1 q.2.2))->sp w lx [.ref a] H (λv _=>v = .bl true) λ_ _ _=>False)(M:∀(w:World) (H:Hp) (s:mJ) (e:Value) (X:mJ),CX w [] H s (λ_ _ _=>False) e X->False):
  ag_ q R E B l.row.toRowW d [] (λf Z=>agZ f Z):=by
 refine zj Q J λw s₀ r mg mb fa o pm cd doc a Z U G Y ho hd j7 p Gr hints C hg=>?_;obtain⟨c,NS⟩:=I w _ Y;obtain⟨fd,lx,TO,j,z⟩:=F w mg fa _ c G.T.g p;obtain⟨bm,i,b1,b2,b3,b4,y,b6⟩:=G.T.bmain;exact Gs c G.T.g G.T.b G.T.builtins G.T.nolimit ⟨bm,i,G.T.g,b1,b2,b3,b4,y,b6⟩ hg Gr hints (qJ C N) A TO NS z j (λH hS hT=>L w lx H a U C hS hT) λH e X=>M w H r e X
noncomputable def gE (s:Stmt):Vm:=match s with
 |.FunctionDef _ a _ _ _ _ _ _ _ _=>a|_=>{ posonlyargs:=[],args:=[],vararg:=none,kwonlyargs:=[],kw_defaults:=[],kwarg:=none,defaults:=[] }
noncomputable def eu (s:Stmt):List Stmt:=match s with
 |.FunctionDef _ _ b _ _ _ _ _ _ _=>b|_=>[]
noncomputable def aY (s:Stmt):Scope:=match s with
 |.FunctionDef _ _ _ _ _ _ sc _ _ _=>sc|_=>{ kind:=.function,names:=[],isGenerator:=false,isCoroutine:=false }
noncomputable abbrev iT:oJ:=λ_ _ _ _ _ _=>False
noncomputable abbrev E0:XK:=λ_ _ _=>False
def BH:Passes iT X E0:=λ_ _ _ _ _ _ _ h=>h.elim
structure zH (K:o3)(x qual:Str)(st:Stmt)(f:Addr)(fd:yy):Prop where
 ex:∃(oc:Value) (od:Option Addr) (kV doc pm:Value) (an:Option Addr) (dG ct:Value) (wK:Array (Option Value)),
  fd=OK x qual (gE st) (eu st) (aY st) .none kV doc pm an dG ct/\K.lookup f=some ⟨oc,od,.func fd,wK⟩/\aew K dG qual=true
 kp:Pz K (.ref f)=true
def zH.ok {lx:Lx}{k:Str}{ps:List Str}(F:zH I x k d f H)(S:kC R ps (aY d))(len:∀g fd Q E,C g fd Q E->g.length=ps.length)(p:∀(r:Value) (N:qr) (outer:List Env) (s:mJ) (fd:Hp) (g:List V) (Q:VK) (E:XK),H.code=r->dM n (N.deeper (P0 k (aY d) s.heap.objs.size f r))->C g fd Q E ->
   ∃t,iP (nu lx iT q u I A z R k (aY d) f r N outer s fd E).wD (eu d) t/\t { nx:=λ_ v=>Q .aB v,rt:=Q } (wi R g) fd):eE q u I A z iT (n+1) f H ps C:=by
 obtain⟨j,e,kV,y,J,M,r,l,i,rfl,B,a⟩:=F.ex;refine Sj (lx:=lx) B a S len λN outer s fd g Q E b c=>?_;obtain⟨t,h,o⟩:=p r N outer s fd g Q E rfl b c;exact⟨t,h.wD,o⟩
def Dt {a:Str}{j h:Option Addr}{o:Array (Option Value)}{b i e ct:Value}(l:I.lookup f=some ⟨T,j,.func (OK x a (gE d) (eu d) (aY d) .none y b i h e ct),o⟩)(c:aew I e a=true)(k:Pz I (.ref f)=true):zH I x a d f (OK x a (gE d) (eu d) (aY d) .none y b i h e ct):=⟨⟨T,j,y,b,i,h,e,ct,o,rfl,l,c⟩,k⟩
def kD:Slot "set_iterator" "__next__" "set_iterator.__next__" :=
 .of (owner:="set_iterator") (n:="__next__") (by rw[agt,aeW];kernel_rfl) (by decide +kernel) (by decide +kernel) (by decide +kernel)
  (by first|exact .inl (by decide +kernel)|exact .inr (by decide +kernel)) (by rw[isSubtype_type];kernel_rfl)
def zI:entryFor table "set_iterator.__next__" = some u3.«set_iterator.__next__»:=entryFor_of_tree (by kernel_rfl)
def zJ (a:Value):XN "set_iterator.__next__" ⟨[a],[]⟩:=by unfold XN;kernel_rfl
def Kw:entryFor table "set.__iter__" = some u3.«frozenset.__iter__» :=
 entryFor_alias (id':="frozenset.__iter__") (by kernel_rfl) rfl (by decide +kernel) (by kernel_rfl)
noncomputable def Qv (slot i:Nat)(a:Addr)(n b:Nat):Obj:={ cls:=.type "set_iterator",data:=.fields #[xm slot,xm i,.ref a,xm n,xm b] }
noncomputable def jh (c:Array (Int×Value))(a:Nat)(t:Vw):Obj:={ cls:=.type "set",data:=.set c a t }
def wX {slot':Nat}{hh:Int}(h:c.heap.get? a=some (jh Z n t))(f:t.fits Z.size=true)(l:u.params.followText "set-order" = false)(e:t.led=true)(prog:t.plain=true)(d:Y (match Z[rk t.place p]?,t.place[rk t.place p]? with|some (_,v),some j=>some (v,j+1)|_,_=>none) c):wpAny (model q u) J (QP a p o n) Y E c:=by
 unfold QP;refine mA (adP h rfl f ?_);dsimp only;unfold ag0;refine mA (mA (ady (mT ?_)));have Q:(air ⟨(model q u).prog,(model q u).w.params⟩).followText "set-order" = false:=l;rw[Q];simp only[sJ,if_false];have dr:¬(!t.plain&&decide (Z.size>1))=true:=by simp[prog]
 show wpAny _ _ (if(!t.plain&&decide (Z.size>1))=true then _ else _) _ _ c;rw[if_neg dr];have b:¬(!t.led && !Z.isEmpty)=true:=by simp[e]
 show wpAny _ _ ((if(!t.led && !Z.isEmpty)=true then unsupported "set:maker-not-led" else pure ()) >>= _) _ _ c;rw[if_neg b];exact mA (mT (mT d))
def u0 (f:c.heap.get? a=some (jh Z n t))(d:t.fits Z.size=true)(j:u.params.followText "set-order" = true)(h:Y (((Vl (u.params.setOrder a n) Z)[o]?).map λe=>(e.2,p)) c):wpAny (model q u) J (QP a p o n) Y E c:=by
 have b:(air ⟨(model q u).prog,(model q u).w.params⟩).followText "set-order" = true:=j;unfold QP;refine mA (adP f rfl d ?_);dsimp only;unfold ag0;refine mA (mA (ady (mT ?_)));rw[b];have Q:(n != n)=false:=by simp
 simp only[if_true,Q,sJ,if_false];refine mA ?_;unfold setWalk ag0;refine mA (adP f rfl d ?_);dsimp only;refine mA (mA (ady (mT ?_)));rw[b];simp only[if_true];refine mA (ady ?_);exact mT (mT h)
def Du (Q:c.heap.get? f=some (Qv o s a Z.size p))(l:c.heap.get? a=some (jh Z p t))(j:t.fits Z.size=true)(e:∀(J:qr) (E:Value->mJ->Prop) (U:Option (Value×Nat)->mJ->Prop),U (some (T,n)) c->wpAny (model q u) J (QP a o s p) U E c)(h:∀g,g.get? f=some (Qv n (s+1) a Z.size p)->NR f c.heap g->U (some T) { c with heap:=g }):wpAny (model q u) J (EM (.ref f)) U E c:=by
 have b:c.TypeIs (.ref f) "set_iterator":=⟨_,Q,rfl⟩
 unfold EM;refine mA (aeN (IF (name:=th "__next__") b kD (x9 kD b zI ?bd (zJ _))));unfold u3.«set_iterator.__next__»;refine mA (mT ?_);refine mA (afl Q rfl ?_);show wpAny _ _ (setEntries a >>= _) _ _ c;refine mA (aff l rfl j ?_);have d:(((Z.size:Nat):Int) != ((Z.size:Nat):Int))=false:=by simp
 dsimp only;rw[d];simp only[sJ,if_false];show wpAny _ _ (QP a (VY (o:Int)) (VY (s:Int)) (VY (p:Int)) >>= _) _ _ c;rw[Im,Im,Im];refine mA (e _ _ _ ?_);dsimp only;refine mA (XP Q rfl (by simp) ?_)
 have x:=MQ (afM (·.setIfInBounds 0 (xm (n:Int)))) Q (by rfl)
 refine mA (XP x (vs:=#[xm (n:Int),xm s,.ref a,xm Z.size,xm p]) (by rfl) (by simp) ?_);refine mT ⟨T,rfl,mT (h _ ?_ ?_)⟩
 . exact(MQ (afM (·.setIfInBounds 1 (xm ((s:Int)+1)))) x (by rfl)).trans rfl
 . exact(MN ..).trans (MN ..)
def Dv (i:J.handled=none)(e:c.heap.get? f=some (Qv p o a Z.size n))(j:c.heap.get? a=some (jh Z n t))(h:t.fits Z.size=true)(l:∀(J:qr) (E:Value->mJ->Prop) (U:Option (Value×Nat)->mJ->Prop),U none c->wpAny (model q u) J (QP a p o n) U E c)(prog:∀g,agA f c.heap g->U none { c with heap:=g }):wpAny (model q u) J (EM (.ref f)) U E c:=by
 have Q:c.TypeIs (.ref f) "set_iterator":=⟨_,e,rfl⟩
 unfold EM;refine mA (aeN (IF (name:=th "__next__") Q kD (x9 kD Q zI ?bd (zJ _))));unfold u3.«set_iterator.__next__»;refine mA (mT ?_);refine mA (afl e rfl ?_);show wpAny _ _ (setEntries a >>= _) _ _ c;refine mA (aff j rfl h ?_);have d:(((Z.size:Nat):Int) != ((Z.size:Nat):Int))=false:=by simp
 dsimp only;rw[d];simp only[sJ,if_false];show wpAny _ _ (QP a (VY (p:Int)) (VY (o:Int)) (VY (n:Int)) >>= _) _ _ c;rw[Im,Im,Im];refine mA (l _ _ _ ?_);dsimp only;refine mA (XP e rfl (by simp) ?_);refine mA ?_;simp only[newExc,newTuple];refine mA (AF ?_ (by size_fits));refine mA (m:=afm _ _) (ahP (a:=AR) (by first|rfl| (simp only[afm];rfl)) ?_);refine AF ?_ (by size_fits);simp only[raiseNew];refine mA (aha ?_);rw[show J.in1.handled=none from i];refine mA (mT (ahQ ?_));refine mA (ad5 (T:="StopIteration") (b:=true) ⟨_,qt _ rfl,rfl⟩ agJ ?_);exact mT (prog _ (((MN ..).extBut.push _).push _))
def zK:Slot "set_iterator" "__iter__" "set_iterator.__iter__" :=
 .of (owner:="set_iterator") (n:="__iter__") (by rw[agt,aeW];kernel_rfl) (by decide +kernel) (by decide +kernel) (by decide +kernel)
  (by first|exact .inl (by decide +kernel)|exact .inr (by decide +kernel)) (by rw[isSubtype_type];kernel_rfl)
def Kx:entryFor table "set_iterator.__iter__" = some u3.«dict_keyiterator.__iter__» :=
 entryFor_alias (id':="dict_keyiterator.__iter__") (by kernel_rfl) rfl (by decide +kernel) (by kernel_rfl)
def Ky (a:Value):XN "set_iterator.__iter__" ⟨[a],[]⟩:=by unfold XN;kernel_rfl
section
variable {prog:uV}{w:World}{A:qr}{E:Value->mJ->Prop}{s:mJ}{I a:Addr}{es:Array (Int×Value)}{ep:Nat}{t:Vw}{slot i:Nat}
def Dw (c:s.heap.get? I=some (Qv slot i a es.size ep))(h:Q (.ref I) s):wpAny (model prog w) A (Ux (.ref I)) Q E s:=by
 have b:s.TypeIs (.ref I) "set_iterator":=⟨_,c,rfl⟩
 refine afV b zK (x9 zK b Kx ?_ (Ky _));show wpAny _ _ (ret (.ref I)) _ _ s;exact mT ⟨_,rfl,"set_iterator",_,b,kD.lookup,h⟩
structure Way (prog:uV)(w:World)(a:Addr)(es:Array (Int×Value))(ep:Nat)(t:Vw)(ord:List Value)(ok:Nat->Nat->Prop):Prop where
 fit:t.fits es.size=true
 len:ord.length=es.size
 zero:ok 0 0
 step:∀i slot,i<es.size->ok i slot->∃x oG,ord[i]? = some x/\ok (i+1) oG /\ ∀(s:mJ) (A:qr) (E:Value->mJ->Prop) (Q:Option (Value×Nat)->mJ->Prop),s.heap.get? a=some (jh es ep t)->Q (some (x,oG)) s->wpAny (model prog w) A (QP a slot i ep) Q E s
 stop:∀slot,ok es.size slot->∀(s:mJ) (A:qr) (E:Value->mJ->Prop) (Q:Option (Value×Nat)->mJ->Prop),s.heap.get? a=some (jh es ep t)->Q none s->wpAny (model prog w) A (QP a slot es.size ep) Q E s
def walks (W:Way prog w a es ep t M K)(hh:A.handled=none)(C:a≠I):
  Walks prog w A I [I,a] [I] es.size (λi v=>M[i]? = some v) (λi h=>(∃slot,K i slot/\h.get? I=some (Qv slot i a es.size ep))/\h.get? a=some (jh es ep t)) where
 sub:=λb d=>by simp at d;simp[d]
 frame:=λ_ _ _ st p=>⟨let⟨f,q,e⟩:=st.1;⟨f,q,p I (by simp) _ e⟩,p a (by simp) _ st.2⟩
 item:=λi s Q E u st j=>by obtain⟨⟨f,q,e⟩,c⟩:=st;obtain⟨x,oG,z,hq,r⟩:=W.step i f u q;refine Du e c W.fit (λA E Q h=>r s A E Q c h) λl y n=>?_;exact j _ l s.toks z ⟨⟨oG,hq,y⟩,n.extBut a _ C c⟩ λb o d e=>n.extBut b o (λh=>d (by simp[h])) e
 done:=λs Q E st j=>by obtain⟨⟨f,q,e⟩,c⟩:=st;exact Dv hh e c W.fit (λA E Q h=>W.stop f q s A E Q c h) λl he=>j l s.toks λb o d e=>he b o (λh=>d (by simp[h])) e
 self:=λi s Q E st j=>by obtain⟨⟨f,q,e⟩,c⟩:=st;exact Dw e j
theorem zL {b:Type}:∀(l:List b) (i:Nat) (h:i<l.length),(l[i]::l.eraseIdx i).Perm l
 |x::l,0,h=>by simp|x::l,i+1,h=>by have:=zL l i (by simpa using h);simp only[List.getElem_cons_succ,List.eraseIdx_cons_succ];exact(ais _ _ _).trans (this.cons x)
theorem zM {b:Type}(f:Nat->Nat):∀(n k:Nat) (l:List b) (out:Array b),n=l.length->(aht f n k l out).toList.Perm (out.toList++l)
 | 0,k,l,out,h=>by have:l = []:=acq.mp h.symm;subst this;simp[aht]
 |n+1,k,l,out,h=>by
  have a:0<l.length:=by lia
  have hm:=ah8 (f k) a;rw[aht,nP hm];dsimp only;refine(zM f n (k+1) _ _ (by rw[List.length_eraseIdx_of_lt hm];lia)).trans ?_;rw[Array.toList_push,zU,agK];exact List.Perm.append_left _ (zL l _ hm)
def u4 {b:Type}(f:Nat->Nat)(c:Array b):(Vl f c).toList.Perm c.toList:=by have:=zM f c.size 0 c.toList #[] (by simp);simpa[Vl]using this
def Xe (j:t.fits es.size=true)(l:w.params.followText "set-order" = true):Way prog w a es ep t ((Vl (w.params.setOrder a ep) es).toList.map (·.2)) (λ_ slot=>slot=0):=by
 have f:(Vl (w.params.setOrder a ep) es).toList.length=es.toList.length:=(u4 _ es).length_eq;have e:(Vl (w.params.setOrder a ep) es).size=es.size:=by simpa using f
 refine⟨j,by simp[e],rfl,λi slot h g=>?_,λslot g s A E Q b c=>?_⟩
 . subst g
   have d:i<(Vl (w.params.setOrder a ep) es).size:=by lia
   refine⟨(Vl (w.params.setOrder a ep) es)[i].2,0,by simp[d],rfl,λs A E Q b c=>?_⟩;refine u0 b j l ?_;rw[J6 d];exact c
 . subst g
   refine u0 b j l ?_;rw[adM (by lia)];exact c
def Xf (f:t.fits es.size=true)(n:w.params.followText "set-order" = false)(l:t.led=true)(o:t.plain=true)(q:t.place.size=es.size)(p:rk t.place 0=0)
   (hw:∀i j,t.place[i]? = some j->rk t.place (j+1)=i+1):Way prog w a es ep t (es.toList.map (·.2)) (λi slot=>rk t.place slot=i):=by
 refine⟨f,by simp,p,λi slot d h=>?_,λslot h s A E Q b c=>?_⟩
 . have e:i<t.place.size:=by lia
   refine⟨es[i].2,t.place[i]+1,by simp[d],hw i _ (J6 e),λs A E Q b c=>?_⟩;refine wX (slot':=0) (hh:=0) b f n l o ?_;rw[h,J6 d,J6 e];exact c
 . refine wX (slot':=0) (hh:=0) b f n l o ?_
   rw[h,adM (by lia)];exact c
end
def Gv:typeLookup (.type "set") "__len__" = pure (some (.builtin "set.__len__")):=by rw[agt,aeW];kernel_rfl
section
def Dx {Q:Bool->mJ->Prop}(f:c.heap.get? a=some (jh Z n t))(d:t.fits Z.size=true)(prog:u.params.followText "set-order" = true\/t.plain=true)(b:Q false c):wpAny (model q u) J (setDrawn a) Q E c:=by
 unfold setDrawn;refine mA (adP f rfl d ?_);dsimp only;unfold ag0;refine mA (mA (ady (mT ?_)));have e:(!u.params.followText "set-order" && (!t.plain&&decide (Z.size>1)))=false:=by rcases prog with h|h<;>simp[h]
 refine mT ?_;show Q (!u.params.followText "set-order" && (!t.plain&&decide (Z.size>1))) c;rw[e];exact b
def Gw (prog:c.heap.get? a=some (jh Z n t))(d:t.fits Z.size=true)(f:u.params.followText "set-order" = true\/t.plain=true)(e:Q (.ref c.heap.objs.size) { c with heap:=c.heap.push (Qv 0 0 a Z.size n) }):wpAny (model q u) J (Ux (.ref a)) Q E c:=by
 have b:c.TypeIs (.ref a) "set":=⟨_,prog,rfl⟩
 refine afV b F.slot_set_iter (x9 F.slot_set_iter b Kw ?_ (F.args_set_iter_1 _));unfold u3.«frozenset.__iter__» ajJ slotArgs;simp only[List.isEmpty_nil,aea,sJ,↓reduceIte,bind_assoc,ae8,bne_self_eq_false];unfold ajl ajm;refine mA (mT ?_);try dsimp only
 refine mA (mT ?_);refine mA (mA (aff prog rfl d (mT ?_)));refine mA (Dx prog d f ?_);simp only[sJ,if_false];refine mA (mT ?_);refine mA (wpAny_setEpoch_of prog rfl d ?_);refine mA (m:=newFields _ _) (AF ?_);exact mT ⟨_,rfl,"set_iterator",_,⟨_,qt _ rfl,rfl⟩,kD.lookup,e⟩
set_option maxHeartbeats 4000000 in
def zm {A:qr}{Q:List Value->mJ->Prop}(W:Way q u a Z n t M K)(hh:A.handled=none)(B:c.heap.get? a=some (jh Z n t))(J:u.params.followText "set-order" = true\/t.plain=true)(s:Z.size<=nE)(C:∀(O:Heap) (tk:Nat),c.heap.objs.size<O.objs.size->(∀b o,c.heap.get? b=some o->O.get? b=some o)->Q M { c with heap:=O,toks:=tk }):wpAny (model q u) A (D4 (.ref a)) Q E c:=by
 have x:a<c.heap.objs.size:=n7 B;have i:c.heap.objs.size≠a:=λe=>D7 _ (e ▸ x);unfold D4;refine mA (wpAny_runValue (adJ F.entry_proto_collect ?_));rw[adt F.plain_proto_collect _];show wpAny _ A.in1 (newList [] >>= λl=>again (.builtin "list.__iadd__" ⟨[l,.ref a],[]⟩)) _ _ c;refine mA (AF ?_);refine mT ⟨afN F.plain_list_iadd _,adJ F.entry_list_iadd ?_⟩;rw[adt F.plain_list_iadd _];show wpAny _ A.in1 (afC (.ref c.heap.objs.size) (.ref a) (.ref c.heap.objs.size)) _ _ _;unfold afC;have g:(c.heap.push { cls:=.type "list",data:=.seq ([]:List Value).toArray }).get? a=some (jh Z n t):=nU _ B;refine mA (ael (T:="set") ⟨_,g,rfl⟩ ?_);have h1:agg (.ref c.heap.objs.size) (.ref a)=false:=by simp[agg,i]
 have h2:(wz "set" == wz "list")=false:=by decide
 have h3:(wz "set" == wz "tuple")=false:=by decide
 simp only[h1,h2,h3,afL,sJ,if_false];refine mA (Gw g W.fit J ?_);refine mA (v3 ?_);generalize f:c.heap.push { cls:=.type "list",data:=.seq ([]:List Value).toArray }=H at *;have p:H.objs.size=c.heap.objs.size+1:=by rw[<- f,NX]
 have d:(H.push (Qv 0 0 a Z.size n)).get? a=some (jh Z n t):=nU _ g;unfold Builtin.List.listLengthHint;refine mA (agu (T:="set") ⟨_,d,rfl⟩ Gv ?_)
 wp_delta
 refine mA (ad5 (T:="set") (v:=.ref a) (b:=true) ⟨_,d,rfl⟩ sub_set_self ?_);show wpAny _ A.in1 (typeOf (FY a) >>= _) _ _ _;refine mA (ael (T:="set") (v:=.ref a) ⟨_,d,rfl⟩ ?_);refine mT ?_;show wpAny _ A.in1 (rule "list.extend.makes-room" >>= λ_=>Builtin.List.listTouch (.ref c.heap.objs.size) >>= λ_ =>
   again (.builtin "list.extend.loop" ⟨[.ref c.heap.objs.size,.ref H.objs.size,.ref c.heap.objs.size],[]⟩)) _ _ _
 refine mA (DF ?_);have z:(H.push (Qv 0 0 a Z.size n)).get? c.heap.objs.size=some { cls:=.type "list",data:=.seq ([]:List Value).toArray }:=nU _ (f ▸ qt _ rfl);refine mA ?_
 show wpAny _ A.in1 (updateSeq c.heap.objs.size (·.push .none) >>= λ_=>updateSeq c.heap.objs.size (·.pop)) _ _ _
 refine mA (ae9 z rfl ?_)
 have R:=MQ (Gx (·.push AR)) z rfl
 refine ae9 R rfl ?_
 have Z4:=MQ (Gx (·.pop)) R rfl
 have b_:∀b o,b≠c.heap.objs.size->(H.push (Qv 0 0 a Z.size n)).get? b=some o ->
     (((H.push (Qv 0 0 a Z.size n)).update c.heap.objs.size (Gx (·.push AR))).update c.heap.objs.size (Gx (·.pop))).get? b=some o :=
   λb o prog e=>(acC _ _ (om prog)).trans ((acC _ _ (om prog)).trans e)
 have Z5:a≠H.objs.size:=by rw[p];exact sI (QA x)
 have r:H.objs.size≠c.heap.objs.size:=by rw[p];exact Nat.succ_ne_self _
 have zN:c.heap.objs.size ∉ [H.objs.size,a]:=by simp only[nQ,vV,or_false,not_or];exact⟨om r,i⟩
 refine mT ⟨afN F.plain_extend_loop _,codeAny_extend_loopS (walks W (I:=H.objs.size) (A:=A.in1) (by simp[hh]) Z5).toS s _ zN _ Z.size 0 _ _ _ rfl (tj _)
   ⟨⟨0,W.zero,b_ _ _ r (qt _ rfl)⟩,b_ _ _ (om i) d⟩ Z4 (ItemsOf.nil _) λU w c' hm y ok=>?_⟩
 show wpAny _ A (load c.heap.objs.size >>= _) _ _ U;refine mA (wpAny_load y ?_);have Xg:w.toList=M:=by
   apply Wd;intro j;by_cases X:j<w.size
   . have:=ok.2 j w[j] (J6 X)
     rw[this,adV,J6 X]
   . have e1:=ok.1
     rw[zA (by simp;lia),zA (by rw[W.len];lia)]
 refine mT ?_;rw[Xg];obtain⟨O,g',d',Dy,Df⟩:=U;have eg:g'=c.gens:=hm.gens;have ed:d'=c.drawn:=hm.drawn;have eo:Df=c.os:=hm.os;subst eg;subst ed;subst eo;refine C O Dy (n7 y) λb o e=>?_;have Y:=n7 e;have nb:b≠c.heap.objs.size:=sI Y;have Z6:b≠H.objs.size:=by rw[p];exact sI (QA Y)
 refine hm.heap b o (λprog=>?_) (b_ b o nb (nU _ (f ▸ nU _ e)));rcases nQ.mp prog with h|h
 . exact nb h
 . exact Z6 (afD.mp h)
end
noncomputable def tb (P:List Nat)(led:Bool):Vw:={ mask:=7,place:=P.toArray,dummies:=#[],finger:=0,led:=led,moves:=0,plain:=true }
end
section
variable {Z:Array Nat}
def sg (c:Array Nat):Prop:=c.toList.Pairwise (· < ·)
def si (h:sg Z)(b:p<Z.size)(a:n<p):Z[n]'(by lia)<Z[p]:=by have:=(List.pairwise_iff_getElem.mp h) n p (by simpa using agh a b) (by simpa using b) a;simpa using this
theorem qT {r:Array Nat}(h:sg r){j:Nat}:∀(g q p:Nat),q<=p->p<=r.size->p-q<=g->(∀i (hz:i<r.size),i<q->r[i]< j)->(∀i (hz:i<r.size),p<=i->j<=r[i]) ->
  q<=adQ r j g q p/\adQ r j g q p<=p/\(∀i (hz:i<r.size),i<adQ r j g q p->r[i]< j)/\(∀i (hz:i<r.size),adQ r j g q p<=i->j<=r[i])
 | 0,q,p,h1,h2,y,u,v=>by
  have:q=p:=by lia
  subst this;exact⟨nA _,nA _,u,v⟩
 |g+1,q,p,h1,h2,y,u,v=>by
  unfold adQ;by_cases x:q<p
  . rw[if_pos x]
    dsimp only;have hm:(q+p) / 2<r.size:=by lia
    have n:r.getD ((q+p) / 2) j=r[(q+p) / 2]:=by simp[hm]
    rw[n];split
    . rename_i f
      obtain⟨a,b,c,d⟩:=qT h g ((q+p) / 2+1) p (by lia) h2 (by lia) (λi l o=>by
       by_cases e:i=(q+p) / 2
       . subst e;exact f
       . exact agh (si h hm (by lia)) f) v
      exact⟨by lia,b,c,d⟩
    . rename_i f
      obtain⟨a,b,c,d⟩:=qT h g q ((q+p) / 2) (by lia) (by lia) (by lia) u (λi l B=>by
       by_cases e:i=(q+p) / 2
       . subst e;lia
       . have:=si h l (show(q+p) / 2<i by lia)
         lia)
      exact⟨a,by lia,c,d⟩
  . rw[if_neg x]
    have:q=p:=by lia
    subst this;exact⟨nA _,nA _,u,v⟩
def nB (h:sg Z)(j:Nat):rk Z j<=Z.size/\(∀i (g:i<Z.size),i<rk Z j->Z[i]< j)/\(∀i (p:i<Z.size),rk Z j<=i->j<=Z[i]):=by obtain⟨_,a,b,c⟩:=qT h (j:=j) Z.size 0 Z.size (tj _) (nA _) (by lia) (λi g d=>by lia) (λi g n=>by lia);exact⟨a,b,c⟩
def Dz (h:sg Z)(j:Nat):(Z[rk Z j]? == some j)=true ↔ j∈Z:=by
 obtain⟨a,b,c⟩:=nB h j;rw[beq_iff_eq];constructor
 . intro e
   exact aeY e
 . intro hm
   obtain⟨i,d,e⟩:=Array.mem_iff_getElem.mp hm;have o:¬i<rk Z j:=λf=>by have:=b i d f;lia
   have p:¬rk Z j<i:=λf=>by
    have l:rk Z j<Z.size:=by lia
    have:=c _ l (nA _);have:=si h d f;lia
   have n:rk Z j=i:=by lia
   rw[n,J6 d,e]
structure nC (t:Vw)(n:Nat):Prop where
 dm:t.dummies = #[]
 pl:t.plain=true
 sz:t.place.size=n
 ri:sg t.place
 le:∀j∈t.place,j<=t.mask
 mx:t.mask=7
 n4:n<=4
theorem nC.fits (h:nC t v):t.fits v=true:=by
 have hd:t.dummies.size=0:=by rw[h.dm];rfl
 have a:=h.sz;have hm:=h.mx;have b:=h.n4;unfold aiQ ahb;simp only[nc,beq_iff_eq,decide_eq_true_eq];exact⟨a,by lia⟩
theorem nC.slot (h:nC t v)(j:Nat):(j ∉ t.place->t.slot j = .empty)/\(j∈t.place->∃i,t.slot j = .live i):=by
 have a:=Dz h.ri j;unfold SetTable.slot;dsimp only;constructor
 . intro b
   have:(t.place[rk t.place j]? == some j)=false:=by
    cases e:(t.place[rk t.place j]? == some j)with
    |false=>rfl|true=>exact absurd (a.mp e) b
   rw[this,h.dm];have c:agi #[] j=false:=by simp[agi]
   rw[c];rfl
 . intro hm
   rw[a.mpr hm];exact⟨_,rfl⟩
def Kz (T:nC t h)(e:n<=7)(f:n ∉ t.place):t.freeSlot (n:Int)=some (n,false):=by
 have c:∀n:Nat,n<=7->aiR (n:Int) % 8=n:=by decide
 have a:(t.probeStart (n:Int)).j=n:=by show aiR (n:Int) % (t.mask+1)=n;rw[T.mx];exact c n e
 have b:(t.probeStart (n:Int)).dummy=none:=rfl;have d:10*agL t.mask=10*agL t.mask-1+1:=by unfold agL;lia
 unfold SetTable.freeSlot SetTable.probe;rw[d];unfold SetTable.probe.go;rw[a,(T.slot n).1 f];dsimp only;rw[b];rfl
def wY {a:Type}(c:Array a)(p:Nat)(x:a):(UJ c p x).toList=c.toList.take p++x::c.toList.drop p:=by unfold UJ;simp;exact Jt (by simp)
def kO {a:Type}(c:Array a)(p:Nat)(x:a):(UJ c p x).toList.Perm (x::c.toList):=by rw[wY];refine List.perm_middle.trans ?_;rw[agM]
def KA (h:sg Z)(q:n ∉ Z):sg (UJ Z (rk Z n) n):=by
 obtain⟨a,b,c⟩:=nB h n;unfold sg;rw[wY,List.pairwise_append];have g:∀x∈Z.toList.take (rk Z n),x<n:=λx f=>by obtain⟨i,d,e⟩:=Qa.mp f;rw[Aq]at d;rw[ahG]at e;have:=b i (by simp at d;lia) (by lia);rw[<- e];simpa using this
 have d:∀x∈Z.toList.drop (rk Z n),n<x:=λx f=>by
   obtain⟨i,d,e⟩:=Qa.mp f;rw[aeO]at d;rw[List.getElem_drop]at e;have r:rk Z n+i<Z.size:=by simp at d;lia
   have p:=c _ r (by lia);have o:Z[rk Z n+i]=x:=by simpa using e
   have:x≠n:=λz=>q (by rw[<- z,<- o];exact afW r);lia
 refine⟨h.sublist (afU _ _),List.pairwise_cons.mpr ⟨d,h.sublist (List.drop_sublist _ _)⟩,λx f y l=>?_⟩;rcases nQ.mp l with rfl|l
 . exact g x f
 . exact agh (g x f) (d y l)
structure BI (t:Vw)(n:Nat):Prop where
 dm:t.dummies = #[]
 pl:t.plain=true
 sz:t.place.size=n
 ri:sg t.place
 le:∀j∈t.place,j<=t.mask
theorem BI.fits (h:BI t v)(b:v<=t.mask):t.fits v=true:=by
 have hd:t.dummies.size=0:=by rw[h.dm];rfl
 have a:=h.sz;unfold aiQ ahb;simp only[nc,beq_iff_eq,decide_eq_true_eq];exact⟨a,by lia⟩
def NY (T:nC t v){es:Array (Int×Value)}(h:es.size=v)(d:n<=7)(f:n ∉ t.place)(x:Value):∃p g,layNew t es (n:Int) x=(p,g,false,false)/\BI g (v+1)/\g.mask=t.mask/\g.led=t.led/\p.toList.Perm (((n:Int),x)::es.toList)/\p.size=v+1 /\ ∀i∈g.place,i=n\/i∈t.place:=by
 have e:=Kz T d f;have hm:n<=t.mask:=by rw[T.mx];exact d
 have hd:agi #[] n=false:=by simp[agi]
 have a:(UJ es (rk t.place n) ((n:Int),x)).size=v+1:=by have:=(kO es (rk t.place n) ((n:Int),x)).length_eq;simp at this;lia
 have P:BI { t with place:=UJ t.place (rk t.place n) n,dummies:=t.dummies } (v+1):=by
  refine⟨T.dm,T.pl,?_,KA T.ri f,λk d=>?_⟩
  . have:=(kO t.place (rk t.place n) n).length_eq
    have:=T.sz;simp at *;lia
  . have:=(kO t.place (rk t.place n) n).mem_iff.mp (by simpa using d)
    rcases nQ.mp this with rfl|h'
    . exact hm
    . exact T.le k (by simpa using h')
 have c:t.put n=({ t with place:=UJ t.place (rk t.place n) n,dummies:=t.dummies },rk t.place n):=by unfold SetTable.put;dsimp only;rw[T.dm,hd];rfl
 have hf:=P.fits (by show v+1<=t.mask;have:=T.mx;have:=T.n4;lia)
 refine⟨UJ es (rk t.place n) ((n:Int),x),_,?_,P,rfl,rfl,kO _ _ _,a,λi b=>nQ.mp ((kO t.place (rk t.place n) n).mem_iff.mp (by simpa using b)) |>.imp id (by simp)⟩;unfold layNew;rw[e];dsimp only;rw[c];dsimp only;rw[a,hf];unfold SetTable.orStandIn;rw[hf];rfl
end
section
open PyProof.Rows
variable {Z:List (Option Nat)}{K:Expr}{j t:Pos}{a:List Stmt}{A:Env}{w:Value->Value->Sem Value}{v:Bool->Hp->Prop}{s:Stmt}{o:List (Str×Addr)}{m:VK}{l:Int->Int->Bool}{k:yy}{h:HO}{g:V}{op:CmpOp}{t':TE}{use:Option (Value->Sem Unit)}
noncomputable def oO (p:Int×Nat):Int×Value:=(ahy p.1,.int p.1 p.2)
def jw (h:Heap)(a:Addr)(c:Bool)(i:List Int):Prop :=
 ∃(g:Array (Int×Value)) (n:Nat) (t:Vw) (l:List (Int×Nat)),h.get? a=some (jh g n t)/\nC t g.size/\t.led=c/\g.toList.Perm (l.map oO)/\l.map (·.1)=i /\ ∀j∈t.place,((j:Nat):Int)∈i
noncomputable def kP (c:List Int)(k:Int):List Int:=if k∈c then c else c ++ [k]
section
def elems {prog:uV}{w:World}{c:Array (Int×Value)}{l:List (Int×Nat)}(b:c.toList.Perm (l.map oO)):ElemsOf (Ob prog w) c.toList:=by intro e he;have:=b.mem_iff.mp he;rw[oa]at this;obtain⟨p,hm,rfl⟩:=this;exact⟨⟨p.1,by simp[oO,Ob,afs],rfl⟩,rfl⟩
set_option maxHeartbeats 2000000 in
def KC {prog:uV}{w:World}{s:mJ}{a:Addr}{k:Int}{Q:Bool->mJ->Prop}(C:jw s.heap a Y r)(H:r.length<=3\/k∈r)(I:0<=k/\k<=7)(B:∀b U,NR a s.heap U->jw U a Y (kP r k)->Q b { s with heap:=U }):wpAny (model prog w) J (setAddHashed a (.int k n) (ahy k)) Q E s:=by
 obtain⟨es,v,t,l,M,T,ub,u,O,f_⟩:=id C;have Z:=elems (prog:=prog) (w:=w) u;have hf:t.fits es.size=true:=T.fits;have NZ:es.size<=4:=T.n4;have hb:es.size<scanBound:=by unfold scanBound;lia
 have Xh:(Ob prog w).is k (.int k n)=true:=by simp[Ob,afs]
 unfold setAddHashed setAddHashedIn;refine v3 (mA (adP M rfl hf ?_));dsimp only;rw[byScan_of (knd:=Ob prog w) (x:=.int k n) rfl hb Z];simp only[↓reduceIte];unfold setAddByScan;refine mA ?_;refine mA (DF ?_);refine mA (wpAny_setScan_of (knd:=Ob prog w) (k:=k) Xh M rfl hf Z ?_);cases hr:List.findIdx? (λe=>(Ob prog w).is k e.2) es.toList with
 |some j =>
  dsimp only;obtain⟨hj,z,_⟩:=aeH.mp hr;have y:k∈r:=by
    have:=u.mem_iff.mp (Ds hj);rw[oa]at this;obtain⟨p,hm,e⟩:=this;rw[<- e]at z;have zP:k=p.1:=by simp[oO,Ob,afs]at z;first|exact z|exact z.symm
    rw[zP,<- O];exact Pd hm
  refine mT (mT ?_);have hd:kP r k=r:=by unfold kP;rw[if_pos y]
  have e:s={ s with heap:=s.heap }:=by cases s;rfl
  rw[e];exact B _ s.heap (Heap.SameBut.refl a s.heap) (by rw[hd];exact C)
 |none =>
  dsimp only;have R:¬k∈r:=by intro y;rw[<- O,oa]at y;obtain⟨p,hm,e⟩:=y;have sj:=u.mem_iff.mpr (Pd (f:=oO) hm);have:=List.findIdx?_eq_none_iff.mp hr _ sj;subst e;simp[oO,Ob,afs]at this
  have N0:es.size<=3:=by
    have g:=u.length_eq;rcases H with h|h
    . have:l.length=r.length:=by rw[<- O];simp
      simp at g;lia
    . exact absurd h R
  obtain⟨c,rfl⟩:∃A:Nat,k=A:=⟨k.toNat,(Wg I.1).symm⟩
  have hh:∀A:Nat,A<=7->ahy (A:Int)=A:=by decide
  have X:c<=7:=by lia
  obtain⟨tok,d,e1,P,mC,hU,zQ,N2,Xi⟩:=NY T (es:=es) rfl X (λq=>R (f_ c q)) (.int (c:Int) n);rw[hh c X,e1];dsimp only;refine mA (mT ?_);rw[P.pl];simp only[if_true];refine mA ?_;rw[hashByValue_scannable 8 (x:=.int (c:Int) n) rfl];refine mT ?_;refine mA (wpAny_storeSet_of M rfl ?_ (fits_of_scanBound (by unfold scanBound;lia)));have hg:(s.heap.update a (Obj.putSet tok d)).get? a=some (jh tok (v+1) d):=by have:=MQ (Obj.putSet tok d) M (by rw[putSet_of tok d (o:=jh es v t) rfl];rfl);rw[putSet_of tok d (o:=jh es v t) rfl]at this;exact this
  have w4:plainKind (.int (c:Int) n)=true:=rfl;have Xj:tok.toList.Perm ((l ++ [((c:Int),n)]).map oO):=by
    rw[Vq];have:oO ((c:Int),n)=((c:Int),.int (c:Int) n):=by unfold oO;rw[hh c X]
    rw[List.map_singleton,this];refine zQ.trans ((u.cons _).trans ?_);exact(List.perm_append_singleton _ _).symm
  have Xk:(l ++ [((c:Int),n)]).map (·.1)=kP r (c:Int):=by unfold kP;rw[if_neg R,<- O];simp
  have u6:d.fill=es.size+1:=by unfold ahb;rw[P.sz,P.dm];rfl
  have Z8:d.tooFull=false:=decide_eq_false (by rw[u6,mC];have:=T.mx;lia)
  simp only[w4,if_true,agN,afO,Z8,sJ,if_false];refine mT (mT (B true _ (MN s.heap a _) ?_));refine⟨tok,v+1,d,l ++ [((c:Int),n)],hg,⟨P.dm,P.pl,by rw[P.sz,N2],P.ri,P.le,mC.trans T.mx,by lia⟩,by rw[hU,ub],Xj,Xk,λi hi=>?_⟩;unfold kP;rw[if_neg R,nY];rcases Xi i hi with rfl|h
  . exact .inr tc
  . exact .inl (f_ i h)
end
def emp (c:Bool):Obj:=jh #[] 0 (tb [] c)
def KD (a:Value){Q₁:Value->mJ->Prop}(h:Q₁ (.ref c.heap.objs.size) { c with heap:=c.heap.push (emp (!u.params.followText "set-order")) }):
  PM (model q u) J (.call (.builtin "set.__new__") ⟨[.type "set",a],[]⟩) (wants Q₁ E) c:=by
 refine codeAny_of_tree ?_;show wpAny _ J.in1 (do agj "set.__new__" ⟨[.type "set",a],[]⟩;again (.builtin "set.__new__" ⟨[.type "set",a],[]⟩)) _ _ c;refine mA (ahP (F.newCall_set_1 a) (mT ⟨afN F.plain_set_new _,adJ F.entry_set_new ?_⟩));rw[adt F.plain_set_new _];unfold u3.«set.__new__» aiT;have e:=sub_set_self;obtain⟨b,g,d,prog,os⟩:=c;dsimp only
 wp_walk
 refine ady (mT ?_);dsimp only;simp only[newObj];refine mA (agB (mT ?_));exact mT h
noncomputable def zs (c:List Nat):List Int:=c.map λ(k:Nat)=>(k:Int)
def u7 {p:List Value}(f:M.Perm p):∀{g:List Int},BJ p g->∃i,BJ M i/\i.Perm g:=by
 induction f with
 |nil=>intro g h;exact⟨g,h,aiu _⟩
 |cons x _ q =>
  intro g h;cases h with
  |cons n t hr =>
   obtain⟨i,a,b⟩:=q hr;exact⟨n::i,.cons _ _ a,b.cons n⟩
 |swap x y l =>
  intro g h;cases h with
  |cons n t hr =>
   cases hr with
   |cons m u r=>exact⟨m::n::_,.cons _ _ (.cons _ _ r),ais _ _ _⟩
 |trans _ _ v B =>
  intro g h;obtain⟨i,a,b⟩:=B h;obtain⟨d,c,e⟩:=v a;exact⟨d,c,e.trans b⟩
set_option genInjectivity true in
inductive D where
 |aB|bl (b:Bool)|int (i:Int)|str (x:Str)|tup (xs:List D)|lst (xs:List D)|dU|ref (n:Nat)|aA (n:Nat)|fn (x:Str) (ds:List D)
structure KW where
 fr:o3
 w:World
 mg:Str->Option Value
 lx:Lx
instance:Coe KW o3:=⟨KW.fr⟩
noncomputable abbrev Cx.kw (X:Cx):KW:=⟨X.K,X.w,X.mg,X.lx⟩
abbrev G:=List (List D)
abbrev Sg:=List (Option D)
structure Ix where
 ix:List Addr
 hd:List Addr
 kd:Nat->Nat
noncomputable def kb:Nat->Bool
 | 0=>false|_+1=>true
def eF (c:Ix)(n:Nat)(a:Addr)(b:Bool):Prop:=c.ix[n]? = some a/\kb (c.kd n)=b
noncomputable def Ix.more (c:Ix)(p:Addr)(b:Nat):Ix:=⟨c.ix ++ [p],c.hd,λi=>if i=c.ix.length then b else c.kd i⟩
mutual
noncomputable def aU:Nat->D->Bool
 |_,.aB=>true|_,.int _=>true|_,.str _=>true|n+1,.tup c=>kQ n c|_,_=>false
noncomputable def kQ:Nat->List D->Bool
 |_,[]=>true|n,d::ds=>aU n d&&kQ n ds
end
mutual
noncomputable def hD (w:World):D->Int
 |.int i=>ahy i|.str x=>hashStr w x|.aB=>reduceHash 0xFCA86420|.tup c=>reduceHash (af3 (DC w c))|_=>0
noncomputable def DC (w:World):List D->List Int
 | []=>[]|d::ds=>hD w d::DC w ds
end
noncomputable def dO (a:Addr)(g:List rG)(c:Nat):HO:=.ext λh=>h.get? a=some { cls:=.type "dict",data:=.dict g.toArray (g.length-c) }
noncomputable def kj:List rG->List Value
 | []=>[]|e::c=>e.key::e.val::kj c
noncomputable def aK:List D->List D
 |k::_::r=>k::aK r|_=>[]
inductive kR (w:World):List D->List rG->Prop
 |nil:kR w [] []
 |cons {k v:D} {r:List D} {e:rG} {es:List rG}:aU 6 k=true->e.hash=hD w k->kR w r es->kR w (k::v::r) (e::es)
inductive OV (K:KW)(a:Addr)(xs:List D):Nat->HO->List V->Prop
 |l (vs:List V):OV K a xs 0 (.lst vs) vs
 |d (c:Nat) (es:List rG) (vs:List V):c<=es.length->Vals vs (kj es)->kR K.w xs es->(aK xs).Nodup->(a == O2)=false->es.length<=nE->OV K a xs (c+1) (dO a es c) vs
def qC (K:KW)(H:Hp)(g:Ix)(a:Addr)(h:List V):Prop :=
 (Rd H a (.lst h)/\a ∉ g.ix/\a ∉ g.hd) \/
  ∃(o:Obj) (c:Array Value) (n:Nat),K.fr.lookup a=some o/\o.cls = .type "list" /\ o.dict=none/\o.data = .seq c n/\c.size<=nE/\Vals h c.toList
def qC.sq {K H ι a xs}(h:qC K H ι a xs):dQ K H a xs:=by
 rcases h with⟨h,_⟩|h
 . exact .inl h
 . exact .inr h
def qD (K:KW)(H:Hp)(h:Ix)(a:Addr)(g:List V):Prop :=
 (Rd H a (.tup g)/\a ∉ h.ix) \/
  ∃(o:Obj) (c:Array Value) (n:Nat),K.fr.lookup a=some o/\o.cls = .type "tuple" /\ o.dict=none/\o.data = .seq c n/\c.size<=nE/\Vals g c.toList
def qD.sq {K H ι a xs}(h:qD K H ι a xs):fJ K H a xs:=by
 rcases h with⟨h,_⟩|h
 . exact .inl h
 . exact .inr h
noncomputable def UL:HO->Bool
 |.ext _=>true|_=>false
def Xo (H:Hp)(c:Ix)(a:Addr)(u:HO):Prop:=H a=some u/\a ∉ c.ix/\(UL u=true->a ∉ c.hd)
noncomputable def N4:HO->Bool
 |.ext _=>true|.jg _=>true|_=>false
noncomputable abbrev oK (a:Addr)(o:Obj):HO:=.ext λh=>h.get? a=some o
inductive cN (H:Hp)(ι:Ix):List (Str×Addr)->List V->Prop
 |nil:cN H ι [] []
 |cons {y:Str} {c:Addr} {o:Obj} {u:Value} {v:V} {cl:List (Str×Addr)} {vs:List V} (x:Xo H ι c (oK c o)) (d:o.data = .cell (some u)) (r:m5 v u) (t:cN H ι cl vs):cN H ι ((y,c)::cl) (v::vs)
inductive DD (K:KW)(H:Hp)(ι:Ix)(x:Str)(a:Addr)(vs:List V):Prop
 |mk (l:eA) (c:Addr) (gh pm:Value) (cl:List (Str×Addr)) (hl:K.lx.lm x=some l) (hf:Xo H ι a (oK a (ae_ "<lambda>" l.qual l.ar l.bd l.sc cl pm c gh))) (hc:Xo H ι c (.jg l.qual)) (hn:cl.map (·.1)=l.fv) (hd:(cl.map (·.2)).Nodup) (hv:cN H ι cl vs):DD K H ι x a vs
def IG (K:KW)(H:Hp)(g:Ix)(x:Str)(a:Addr)(c:List V):Prop:=(c = []/\K.lx.lm x=none/\K.mg x=some (.ref a))\/DD K H g x a c
theorem cN.mono {H ι b a}(t:∀c u,N4 u=true->Xo H ι c u->Xo b a c u):∀{cl g},cN H ι cl g->cN b a cl g
 |_,_,.nil=>.nil|_,_,.cons x d r q=>.cons (t _ _ rfl x) d r (cN.mono t q)
theorem IG.mono {K H ι d b x a vs}(h:IG K H ι x a vs)(t:∀c u,N4 u=true->Xo H ι c u->Xo d b c u):IG K d b x a vs:=by
 rcases h with h|⟨l,c,gh,pm,cl,hl,hf,hc,hn,hd,hv⟩
 . exact .inl h
 . exact .inr ⟨l,c,gh,pm,cl,hl,t _ _ rfl hf,t _ _ rfl hc,hn,hd,hv.mono t⟩
mutual
noncomputable def Rel (K:KW)(H:Hp)(c:Ix):D->V->Prop
 |.aB,v=>v = .aB|.bl b,v=>v = .bl b|.int i,v=>v = .int i|.str x,v=>v = .str x|.tup h,v=>∃a g,v = .ref a/\qD K H c a g/\ai K H c h g|.lst h,v=>∃a g,v = .ref a/\qC K H c a g/\ai K H c h g|.dU,v=>∃a,v = .ref a/\H a=some (.dK [])/\a ∉ c.ix|.ref n,v=>∃a,v = .ref a/\eF c n a false|.aA n,v=>∃a,v = .ref a/\eF c n a true|.fn x ds,v=>∃a g,v = .ref a/\IG K H c x a g/\ai K H c ds g
noncomputable def ai (K:KW)(H:Hp)(c:Ix):List D->List V->Prop
 | [],g=>g = []|x::h,g=>∃v p,g=v::p/\Rel K H c x v/\ai K H c h p
end
structure Ext (H:Hp)(ι:Ix)(H':Hp)(ι':Ix):Prop where
 same:∀a o,H a=some o->a ∉ ι.ix->H' a=some o
 there:∀a,H a≠none->H' a≠none
 more:∃m,ι'.ix=ι.ix++m /\ ∀a∈m,H a=none
 cK:ι'.hd=ι.hd
 mD:∀i,i < ι.ix.length->ι'.kd i=ι.kd i
structure aw (K:KW)(H:Hp)(ι:Ix)(g:G):Prop where
 nd:ι.ix.Nodup
 len:ι.ix.length=g.length
 cK:∀b∈ι.hd,b ∉ ι.ix/\H b≠none
 at_:∀(i:Nat) xs,g[i]? = some xs->∃a o vs,ι.ix[i]? = some a/\H a=some o/\OV K a xs (ι.kd i) o vs/\ai K H ι xs vs
 tb:∀q∈K.lx.tb,H q.1=some (.cz q.2.1 q.2.2)/\q.1 ∉ ι.ix
def bM (K:KW)(H:Hp)(g:Ix)(a:Sg)(c:m6):Prop :=
 a.length=c.length /\ ∀(i:Nat) d,a[i]? = some (some d)->∃v,c[i]? = some (some v)/\Rel K H g d v
def Ext.refl {H ι}:Ext H ι H ι:=⟨λ_ _ h _=>h,λ_ h=>h,⟨[],by simp,λ_ h=>by simp at h⟩,rfl,λ_ _=>rfl⟩
def Ext.old {H ι c e}(a:Ext H ι c e)(o:H f=some h)(n:f ∉ ι.ix):f ∉ e.ix:=λz=>by
 obtain⟨d,b,g⟩:=a.more;rw[b]at z;rcases nY.mp z with z|z
 . exact n z
 . rw[g f z]at o;cases o
theorem Ext.trans {H ι s p r ι2}(a:Ext H ι s p)(b:Ext s p r ι2):Ext H ι r ι2:=by
 obtain⟨e,d,g⟩:=a.more;obtain⟨f,l,u⟩:=b.more;refine⟨λc o h n=>b.same c o (a.same c o h n) (a.old h n),λc h=>b.there c (a.there c h),⟨e++f,by rw[l,d,zU],λc z=>?_⟩,b.cK.trans a.cK,λi j=>(b.mD i (by rw[d,nh];lia)).trans (a.mD i j)⟩;rcases nY.mp z with z|z
 . exact g c z
 . cases q:H c with
   |none=>rfl|some o=>exact absurd (u c z) (a.there c (by rw[q];simp))
def Ext.at {H ι l j}(a:Ext H ι l j){i:Nat}(h:eF ι i f Y):eF j i f Y:=by obtain⟨c,e,_⟩:=a.more;have d:=(nz.mp h.1).1;refine⟨?_,by rw[a.mD i d];exact h.2⟩;rw[e,r_ d];exact h.1
def qC.ext {K H ι c b a xs}(e:Ext H ι c b)(h:qC K H ι a xs):qC K c b a xs:=by
 rcases h with⟨h|⟨o,h⟩,n,k⟩|h
 . exact .inl ⟨.inl (e.same _ _ h n),e.old h n,by rw[e.cK];exact k⟩
 . exact .inl ⟨.inr ⟨o,e.same _ _ h n⟩,e.old h n,by rw[e.cK];exact k⟩
 . exact .inr h
def Xo.ext {H ι b a c u}(e:Ext H ι b a)(h:Xo H ι c u):Xo b a c u:=⟨e.same _ _ h.1 h.2.1,e.old h.1 h.2.1,λy=>by rw[e.cK];exact h.2.2 y⟩
def qD.ext {K H ι c b a xs}(e:Ext H ι c b)(h:qD K H ι a xs):qD K c b a xs:=by
 rcases h with⟨h|⟨o,h⟩,n⟩|h
 . exact .inl ⟨.inl (e.same _ _ h n),e.old h n⟩
 . exact .inl ⟨.inr ⟨o,e.same _ _ h n⟩,e.old h n⟩
 . exact .inr h
mutual
theorem Rel.ext {K H ι o l}(e:Ext H ι o l):∀(d:D) {v:V},Rel K H ι d v->Rel K o l d v
 |.aB,v,h=>h|.bl _,v,h=>h|.int _,v,h=>h|.str _,v,h=>h|.tup p,v,h=>by simp only[Rel]at h ⊢;obtain⟨a,j,f,b,i⟩:=h;exact⟨a,j,f,b.ext e,ai.ext e p i⟩
 |.lst p,v,h=>by simp only[Rel]at h ⊢;obtain⟨a,j,f,b,i⟩:=h;exact⟨a,j,f,b.ext e,ai.ext e p i⟩
 |.dU,v,h=>by simp only[Rel]at h ⊢;obtain⟨a,f,b,i⟩:=h;exact⟨a,f,e.same _ _ b i,e.old b i⟩
 |.ref n,v,h=>by simp only[Rel]at h ⊢;obtain⟨a,f,b⟩:=h;exact⟨a,f,e.at b⟩
 |.aA n,v,h=>by simp only[Rel]at h ⊢;obtain⟨a,f,b⟩:=h;exact⟨a,f,e.at b⟩
 |.fn x ds,v,h=>by simp only[Rel]at h ⊢;obtain⟨a,j,f,b,i⟩:=h;exact⟨a,j,f,b.mono λc u z q=>q.ext e,ai.ext e ds i⟩
theorem ai.ext {K H ι j i}(e:Ext H ι j i):∀(ds:List D) {g:List V},ai K H ι ds g->ai K j i ds g
 | [],g,h=>h|d::ds,g,h=>by simp only[ai]at h ⊢;obtain⟨v,a,f,c,b⟩:=h;exact⟨v,a,f,Rel.ext e d c,ai.ext e ds b⟩
end
theorem bM.ext {K H ι j c f σ}(e:Ext H ι j c)(h:bM K H ι f σ):bM K j c f σ :=
 ⟨h.1,λi d q=>let⟨v,a,b⟩:=h.2 i d q;⟨v,a,Rel.ext e d b⟩⟩
theorem ai.length {K H ι}:∀{ds:List D} {c:List V},ai K H ι ds c->ds.length=c.length
 | [],c,h=>by cases h;rfl|d::ds,c,h=>by obtain⟨v,b,rfl,_,a⟩:=h;simp[ai.length a]
theorem ai.append {K H ι}:∀{ds g:List D} {i n:List V},ai K H ι ds i->ai K H ι g n->ai K H ι (ds++g) (i++n)
 | [],g,i,n,h,k=>by cases h;exact k|d::ds,g,i,n,h,k=>by obtain⟨v,c,rfl,a,b⟩:=h;simp only[ad6,ai];exact⟨v,_,rfl,a,ai.append b k⟩
theorem ai.get {K H ι}:∀{ds:List D} {g:List V} {i:Nat} {d:D},ai K H ι ds g->ds[i]? = some d->∃v,g[i]? = some v/\Rel K H ι d v
 | [],_,_,_,_,e=>by simp at e|x::ds,g,0,d,h,e=>by obtain⟨v,c,rfl,a,b⟩:=h;simp at e;subst e;exact⟨v,rfl,a⟩
 |x::ds,g,i+1,d,h,e=>by obtain⟨v,c,rfl,a,b⟩:=h;obtain⟨u,f,j⟩:=ai.get (i:=i) b (by simpa using e);exact⟨u,by simpa using f,j⟩
theorem ai.set {K H ι d v}(c:Rel K H ι d v):∀{ds:List D} {g:List V} (i:Nat),ai K H ι ds g->ai K H ι (ds.set i d) (g.set i v)
 | [],_,_,h=>by cases h;simp[ai]|x::ds,g,0,h=>by obtain⟨u,b,rfl,hu,a⟩:=h;simp only[ahu,ai];exact⟨v,b,rfl,c,a⟩
 |x::ds,g,i+1,h=>by obtain⟨u,b,rfl,hu,a⟩:=h;simp only[List.set_cons_succ,ai];exact⟨u,_,rfl,hu,ai.set c i a⟩
theorem ai.take {K H ι}:∀{ds:List D} {c:List V} (n:Nat),ai K H ι ds c->ai K H ι (ds.take n) (c.take n)
 |_,_,0,_=>by simp[ai]| [],_,n+1,h=>by cases h;simp[ai]|x::ds,c,n+1,h=>by obtain⟨u,b,rfl,hu,a⟩:=h;simp only[List.take_succ_cons,ai];exact⟨u,_,rfl,hu,ai.take n a⟩
theorem ai.drop {K H ι}:∀{ds:List D} {c:List V} (n:Nat),ai K H ι ds c->ai K H ι (ds.drop n) (c.drop n)
 |_,_,0,h=>h| [],_,n+1,h=>by cases h;simp[ai]|x::ds,c,n+1,h=>by obtain⟨u,b,rfl,hu,a⟩:=h;simp only[List.drop_succ_cons];exact ai.drop n a
theorem aw.at {K H q g}(h:aw K H q g){n:Nat}{u:List D}{a:Addr}(e:g[n]? = some u)(p:eF q n a false):∃r,H a=some (.lst r)/\ai K H q u r:=by
 obtain⟨b,o,r,c,i,f,j⟩:=h.at_ n u e;rw[p.1]at c;cases c;have c:=p.2;generalize q.kd n=k at f c;cases f with
 |l=>exact⟨r,i,j⟩|d=>cases c
def aw.sk {K H u g}(h:aw K H u g){v:List D}(e:g[n]? = some v)(q:eF u n f true):
  ∃r x c,H f=some (dO f r c)/\u.kd n=c+1/\c<=r.length/\Vals x (kj r)/\kR K.w v r/\(aK v).Nodup/\(f == O2)=false/\r.length<=nE/\ai K H u v x:=by
 obtain⟨b,o,x,a,j,i,p⟩:=h.at_ n v e;rw[q.1]at a;cases a;have a:=q.2;generalize u.kd n=k at i a;cases i with
 |l=>cases a|d c r x y B C E I J=>exact⟨r,x,c,j,rfl,y,B,C,E,I,J,p⟩
def aw.lE {K H ι g}(h:aw K H ι g)(n:f∈ι.ix):H f≠none:=by
 obtain⟨i,d,e⟩:=Qa.mp n;have j:i<g.length:=by rw[<- h.len];exact d
 obtain⟨b,_,l,c,a,_⟩:=h.at_ i _ (nP j);rw[nP d,e]at c;cases c;rw[a];simp
def Ext.lay {H ι p o}(b:H p=none):Ext H ι (upd H p o) ι :=
 ⟨λa u h _=>by rw[aG (aN h b)];exact h,λa h=>by
  by_cases e:a=p
  . subst e;exact absurd b h
  . rw[aG e];exact h,⟨[],by simp,λ_ h=>by simp at h⟩,rfl,λ_ _=>rfl⟩
theorem aw.ext {K H u g r}(h:aw K H u g)(e:Ext H u r u)(k:∀a∈u.ix,r a=H a):aw K r u g :=
 ⟨h.nd,h.len,λb d=>⟨(h.cK b d).1,e.there b (h.cK b d).2⟩,λi v q=>by obtain⟨a,o,j,f,p,n,l⟩:=h.at_ i v q;exact⟨a,o,j,f,by rw[k a (ta f)];exact p,n,ai.ext e v l⟩,λq c=>⟨e.same _ _ (h.tb q c).1 (h.tb q c).2,(h.tb q c).2⟩⟩
theorem aw.lay {K H ι g p o}(h:aw K H ι g)(c:H p=none):aw K (upd H p o) ι g :=
 h.ext (Ext.lay c) λa b=>aG λe=>by subst e;exact h.lE b c
def aw.fresh {K H ι g p}(h:aw K H ι g)(b:H p=none):p ∉ ι.ix:=λa=>h.lE a b
def aw.iV {K H ι g p}(h:aw K H ι g)(b:H p=none):p ∉ ι.hd:=λa=>(h.cK p a).2 b
def Ext.jJ {H ι p o b}(f:H p=none):Ext H ι (upd H p o) (ι.more p b):=by have e:=Ext.lay (ι:=ι) (o:=o) f;refine⟨e.same,e.there,⟨[p],rfl,λa c=>by simp at c;subst c;exact f⟩,rfl,λi d=>?_⟩;show(if i=ι.ix.length then b else ι.kd i)=ι.kd i;rw[if_neg (by lia)]
def Ext.push {H ι p o}(a:H p=none):Ext H ι (upd H p o) (ι.more p 0):=Ext.jJ a
theorem aw.jJ {K H ι g p o xs vs b}(h:aw K H ι g)(A:H p=none)(B:OV K p xs b o vs)(r:ai K H ι xs vs):aw K (upd H p o) (ι.more p b) (g ++ [xs]):=by
 have n:=h.fresh A;refine⟨?_,by simp[Ix.more,h.len],λb c=>⟨λz=>?_,(Ext.jJ (ι:=ι) (o:=o) (b:=0) A).there b (h.cK b c).2⟩,λi C q=>?_,λq d=>⟨by rw[aG (aN (h.tb q d).1 A)];exact(h.tb q d).1,λz=>(nY.mp z).elim (h.tb q d).2 λz=>aN (h.tb q d).1 A (by simpa using z)⟩⟩
 . show(ι.ix ++ [p]).Nodup
   rw[UK];refine⟨h.nd,by simp,λa y b c=>?_⟩;simp at c;subst c;intro e;subst e;exact n y
 . rcases nY.mp z with z|z
   . exact(h.cK b c).1 z
   . simp at z;subst z;exact(h.cK _ c).2 A
 . by_cases E:i<g.length
   . rw[r_ E]at q
     obtain⟨a,j,I,u,f,x,s⟩:=h.at_ i C q;refine⟨a,j,I,(by show(ι.ix ++ [p])[i]? = some a;rw[r_ (by rw[h.len];exact E)];exact u),?_,?_,ai.ext (Ext.jJ A) C s⟩
     . rw[aG (aN f A)];exact f
     . show OV K _ _ (if i=ι.ix.length then b else ι.kd i) j I
       rw[if_neg (by rw[h.len];lia)];exact x
   . rw[CY (by lia)]at q
     have v:i-g.length=0:=by
       cases e:i-g.length with
       |zero=>rfl|succ k=>rw[e]at q;simp at q
     rw[v]at q;have e:xs=C:=by simpa using q
     subst e;have l:i=ι.ix.length:=by rw[h.len];lia
     refine⟨p,o,vs,?_,aQ,?_,ai.ext (Ext.jJ A) xs r⟩
     . show(ι.ix ++ [p])[i]? = some p
       rw[l];simp
     . show OV K _ _ (if i=ι.ix.length then b else ι.kd i) o vs
       rw[if_pos l];exact B
def aw.push {K H ι g p xs vs}(h:aw K H ι g)(a:H p=none)(r:ai K H ι xs vs):aw K (upd H p (.lst vs)) (ι.more p 0) (g ++ [xs]):=h.jJ a (.l vs) r
def eF.new {c:Ix}(h:c.ix.length=n):eF (c.more f p) n f (kb p):=by subst h;exact⟨by show(c.ix ++ [f])[c.ix.length]? = some f;simp,by show kb (if c.ix.length=c.ix.length then p else c.kd c.ix.length)=kb p;rw[if_pos rfl]⟩
def Ext.put {H ι}{a o c}(d:eF ι n a Y)(h:H a=some o):Ext H ι (upd H a c) ι :=
 ⟨λY o q nb=>by rw[aG (λe=>nb (by rw[e];exact ta d.1))];exact q,λY q=>by
  by_cases e:Y=a
  . subst e;rw[aQ];simp
  . rw[aG e];exact q,⟨[],by simp,λ_ z=>by simp at z⟩,rfl,λ_ _=>rfl⟩
def aw.N5 {K H ι g}{a o B xs C}(h:aw K H ι g)(A:eF ι n a Y)(E:H a=some o)(I:OV K a xs (ι.kd n) B C)(r:ai K H ι xs C):aw K (upd H a B) ι (g.set n xs):=by
 refine⟨h.nd,by simp[h.len],λY f=>⟨(h.cK Y f).1,(Ext.put A E).there Y (h.cK Y f).2⟩,λi l q=>?_,λq c=>⟨by rw[aG λz=>(h.tb q c).2 (by rw[z];exact ta A.1)];exact(h.tb q c).1,(h.tb q c).2⟩⟩;by_cases e:i=n
 . subst e
   have j:i<g.length:=by rw[<- h.len];exact(nz.mp A.1).1
   rw[tv j]at q;cases q;exact⟨a,B,C,A.1,aQ,I,ai.ext (Ext.put A E) _ r⟩
 . rw[p9 (om e)]at q
   obtain⟨Y,s,J,p,y,d,u⟩:=h.at_ i l q;refine⟨Y,s,J,p,?_,d,ai.ext (Ext.put A E) l u⟩;rw[aG ?_]
   . exact y
   . intro z
     subst z;obtain⟨j,x⟩:=nz.mp p;obtain⟨M,v⟩:=nz.mp A.1;exact e ((agd h.nd).mp (x.trans v.symm))
def aw.put {K H ι g}{a vs xs c}(h:aw K H ι g)(d:eF ι n a false)(f:H a=some (.lst vs))(r:ai K H ι xs c):aw K (upd H a (.lst c)) ι (g.set n xs):=h.N5 d f (by
 have b:=d.2;cases e:ι.kd n with
 |zero=>exact .l c|succ k=>rw[e]at b;cases b) r
noncomputable def Ix.hide (c:Ix)(p:Addr):Ix:=⟨c.ix,p::c.hd,c.kd⟩
mutual
theorem Rel.show {K H ι p}:∀(d:D) {v:V},Rel K H (Ix.hide ι p) d v->Rel K H ι d v
 |.aB,v,h=>h|.bl _,v,h=>h|.int _,v,h=>h|.str _,v,h=>h|.tup r,v,h=>by simp only[Rel]at h ⊢;obtain⟨a,b,i,f,e⟩:=h;exact⟨a,b,i,f,ai.show r e⟩
 |.lst r,v,h=>by
  simp only[Rel]at h ⊢;obtain⟨a,b,i,f,e⟩:=h;refine⟨a,b,i,?_,ai.show r e⟩;rcases f with⟨h,n,k⟩|h
  . exact .inl ⟨h,n,λz=>k (qz _ z)⟩
  . exact .inr h
 |.dU,v,h=>by simpa[Rel,Ix.hide]using h|.ref n,v,h=>by simpa[Rel,Ix.hide,eF]using h|.aA n,v,h=>by simpa[Rel,Ix.hide,eF]using h|.fn x ds,v,h=>by simp only[Rel]at h ⊢;obtain⟨a,b,i,f,e⟩:=h;exact⟨a,b,i,f.mono λc u z q=>⟨q.1,q.2.1,λy z=>q.2.2 y (qz _ z)⟩,ai.show ds e⟩
theorem ai.show {K H ι p}:∀(ds:List D) {g:List V},ai K H (Ix.hide ι p) ds g->ai K H ι ds g
 | [],g,h=>h|d::ds,g,h=>by simp only[ai]at h ⊢;obtain⟨v,a,e,c,b⟩:=h;exact⟨v,a,e,Rel.show d c,ai.show ds b⟩
end
mutual
theorem Rel.hide {K H ι p o}(j:H p=none):∀(d:D) {v:V},Rel K H ι d v->Rel K (upd H p o) (Ix.hide ι p) d v
 |.aB,v,h=>h|.bl _,v,h=>h|.int _,v,h=>h|.str _,v,h=>h
 |.tup r,v,h=>by
  simp only[Rel]at h ⊢;obtain⟨a,i,f,b,e⟩:=h;refine⟨a,i,f,?_,ai.hide j r e⟩;rcases b with⟨h|⟨u,h⟩,n⟩|h
  . exact .inl ⟨.inl (by rw[aG (aN h j)];exact h),n⟩
  . exact .inl ⟨.inr ⟨u,by rw[aG (aN h j)];exact h⟩,n⟩
  . exact .inr h
 |.lst r,v,h=>by
  simp only[Rel]at h ⊢;obtain⟨a,i,f,b,e⟩:=h;refine⟨a,i,f,?_,ai.hide j r e⟩;have out:∀{u:HO},H a=some u->a ∉ ι.hd->a ∉ (Ix.hide ι p).hd:=λh k z=>by
    rcases nQ.mp z with z|z
    . exact aN h j z
    . exact k z
  rcases b with⟨h|⟨u,h⟩,n,k⟩|h
  . exact .inl ⟨.inl (by rw[aG (aN h j)];exact h),n,out h k⟩
  . exact .inl ⟨.inr ⟨u,by rw[aG (aN h j)];exact h⟩,n,out h k⟩
  . exact .inr h
 |.dU,v,h=>by simp only[Rel]at h ⊢;obtain⟨a,f,b,e⟩:=h;exact⟨a,f,by rw[aG (aN b j)];exact b,e⟩
 |.ref n,v,h=>by simpa[Rel,Ix.hide,eF]using h|.aA n,v,h=>by simpa[Rel,Ix.hide,eF]using h|.fn x ds,v,h=>by simp only[Rel]at h ⊢;obtain⟨a,i,f,b,e⟩:=h;exact⟨a,i,f,b.mono λc u z q=>⟨by rw[aG (aN q.1 j)];exact q.1,q.2.1,λy z=>(nQ.mp z).elim (aN q.1 j) (q.2.2 y)⟩,ai.hide j ds e⟩
theorem ai.hide {K H ι p o}(f:H p=none):∀(ds:List D) {g:List V},ai K H ι ds g->ai K (upd H p o) (Ix.hide ι p) ds g
 | [],g,h=>h|d::ds,g,h=>by simp only[ai]at h ⊢;obtain⟨v,a,e,c,b⟩:=h;exact⟨v,a,e,Rel.hide f d c,ai.hide f ds b⟩
end
mutual
theorem Rel.grow {K H ι p us l}(j:H p=some (.lst us)):∀(d:D) {v:V},Rel K H (Ix.hide ι p) d v->Rel K (upd H p (.lst l)) (Ix.hide ι p) d v
 |.aB,v,h=>h|.bl _,v,h=>h|.int _,v,h=>h|.str _,v,h=>h
 |.tup r,v,h=>by
  simp only[Rel]at h ⊢;obtain⟨a,i,f,b,e⟩:=h;refine⟨a,i,f,?_,ai.grow j r e⟩;rcases b with⟨h|⟨u,h⟩,n⟩|h
  . exact .inl ⟨.inl (by rw[aG (rT h j (by simp))];exact h),n⟩
  . exact .inl ⟨.inr ⟨u,by rw[aG (rT h j (by simp))];exact h⟩,n⟩
  . exact .inr h
 |.lst r,v,h=>by
  simp only[Rel]at h ⊢;obtain⟨a,i,f,b,e⟩:=h;refine⟨a,i,f,?_,ai.grow j r e⟩;rcases b with⟨h,n,k⟩|h
  . have ne:a≠p:=λz=>k (by rw[z];exact tc)
    rcases h with h|⟨u,h⟩
    . exact .inl ⟨.inl (by rw[aG ne];exact h),n,k⟩
    . exact .inl ⟨.inr ⟨u,by rw[aG ne];exact h⟩,n,k⟩
  . exact .inr h
 |.dU,v,h=>by simp only[Rel]at h ⊢;obtain⟨a,f,b,e⟩:=h;exact⟨a,f,by rw[aG (rT b j (by simp))];exact b,e⟩
 |.ref n,v,h=>by simpa[Rel,Ix.hide,eF]using h|.aA n,v,h=>by simpa[Rel,Ix.hide,eF]using h|.fn x ds,v,h=>by simp only[Rel]at h ⊢;obtain⟨a,i,f,b,e⟩:=h;exact⟨a,i,f,b.mono λc u z q=>⟨by rw[aG (rT q.1 j (λy=>by rw[y]at z;cases z))];exact q.1,q.2⟩,ai.grow j ds e⟩
theorem ai.grow {K H ι p us i}(f:H p=some (.lst us)):∀(ds:List D) {g:List V},ai K H (Ix.hide ι p) ds g->ai K (upd H p (.lst i)) (Ix.hide ι p) ds g
 | [],g,h=>h|d::ds,g,h=>by simp only[ai]at h ⊢;obtain⟨v,a,e,c,b⟩:=h;exact⟨v,a,e,Rel.grow f d c,ai.grow f ds b⟩
end
theorem aw.hide {K H ι p o g}(s:H p=none)(h:aw K H ι g):aw K (upd H p o) (Ix.hide ι p) g :=
 ⟨h.nd,h.len,λb c=>by
  rcases nQ.mp c with rfl|c
  . exact⟨h.fresh s,by rw[aQ];simp⟩
  . refine⟨(h.cK b c).1,?_⟩
    by_cases e:b=p
    . subst e;rw[aQ];simp
    . rw[aG e];exact(h.cK b c).2,λi u q=>by
  obtain⟨a,o,j,n,f,r,l⟩:=h.at_ i u q;exact⟨a,o,j,n,by rw[aG (aN f s)];exact f,r,ai.hide s u l⟩,λq d=>⟨by rw[aG (aN (h.tb q d).1 s)];exact(h.tb q d).1,(h.tb q d).2⟩⟩
theorem aw.show {K H ι p g}(h:aw K H (Ix.hide ι p) g):aw K H ι g :=
 ⟨h.nd,h.len,λb c=>h.cK b (qz _ c),λi n q=>by obtain⟨a,o,d,f,l,j,e⟩:=h.at_ i n q;exact⟨a,o,d,f,l,j,ai.show n e⟩,h.tb⟩
theorem aw.grow {K H ι p us u g}(s:H p=some (.lst us))(h:aw K H (Ix.hide ι p) g):aw K (upd H p (.lst u)) (Ix.hide ι p) g :=
 ⟨h.nd,h.len,λb d=>⟨(h.cK b d).1,by
   by_cases e:b=p
   . subst e;rw[aQ];simp
   . rw[aG e];exact(h.cK b d).2⟩,λi v q=>by
  obtain⟨a,o,j,f,r,n,l⟩:=h.at_ i v q;refine⟨a,o,j,f,?_,n,ai.grow s v l⟩;rw[aG (λe=>(h.cK p tc).1 (by rw[<- e];exact ta f))];exact r,λq c=>⟨by rw[aG (rT (h.tb q c).1 s (by simp))];exact(h.tb q c).1,(h.tb q c).2⟩⟩
abbrev FE:=Sg->G->Option (D×G)
abbrev FT:=Sg->G->Option (Bool×G)
abbrev FA:=Sg->G->Option (List D×G)
def gi (K:KW)(H:Hp)(h:Ix)(d:D)(i:G)(Q:VK):Prop:=∀g c v,Ext H h g c->aw K g c i->Rel K g c d v->Q v g
def Sq (K:KW)(H:Hp)(i:Ix)(ds:List D)(n:G)(Q:List V->Hp->Prop):Prop:=∀g c h,Ext H i g c->aw K g c n->ai K g c ds h->Q h g
def so (K:KW)(H:Hp)(h:Ix)(i:G)(Q:Hp->Prop):Prop:=∀g c,Ext H h g c->aw K g c i->Q g
inductive tD (K:KW)(f:FE)(σ:m6)(H:Hp)(Q:VK):Prop
 |mk (ι:Ix) (σd:Sg) (g:G) (d:D) (g':G) (h0:aw K H ι g) (h1:bM K H ι σd σ) (h2:f σd g=some (d,g')) (h3:gi K H ι d g' Q):tD K f σ H Q
inductive iW (K:KW)(f:FA)(σ:m6)(H:Hp)(Q:(List V->Hp->Prop)):Prop
 |mk (ι:Ix) (σd:Sg) (g:G) (d:List D) (g':G) (h0:aw K H ι g) (h1:bM K H ι σd σ) (h2:f σd g=some (d,g')) (h3:Sq K H ι d g' Q):iW K f σ H Q
inductive mE (K:KW)(f:FT)(σ:m6)(H:Hp)(Q:(Bool->Hp->Prop)):Prop
 |mk (ι:Ix) (σd:Sg) (g:G) (b:Bool) (g':G) (h0:aw K H ι g) (h1:bM K H ι σd σ) (h2:f σd g=some (b,g')) (h3:so K H ι g' (Q b)):mE K f σ H Q
structure DE (X:Cx)(e:Expr)(f:FE):Prop where of ::
 un:PE X e (tD X.kw f)
structure DA (X:Cx)(es:List Expr)(f:FA):Prop where of ::
 un:PA X es (iW X.kw f)
structure DT (X:Cx)(e:Expr)(f:FT):Prop where of ::
 un:PT X e (mE X.kw f)
structure DW (X:Cx)(e:Expr)(f:FT):Prop where of ::
 un:PW X e (mE X.kw f)
def PE.imp {t:TE}(h:PE X e t)(i:∀c H Q,t' c H Q->t c H Q):PE X e t':=λg s c H Q I q=>h g s c H Q I (i c H Q q)
def PT.imp {t t':TT}(h:PT X e t)(i:∀c H Q,t' c H Q->t c H Q):PT X e t':=λg s c H Q I q=>h g s c H Q I (i c H Q q)
def PW.imp {t t':TT}(h:PW X e t)(i:∀c H Q,t' c H Q->t c H Q):PW X e t':=λw g s c H Q I q=>h w g s c H Q I (i c H Q q)
def PA.imp {t t':TA}(h:PA X d t)(i:∀c H Q,t' c H Q->t c H Q):PA X d t':=λpos g s c H Q I q=>h pos g s c H Q I (i c H Q q)
def gi.mono {K H ι h f d g' Q}(e:Ext H ι h f)(p:gi K H ι d g' Q):gi K h f d g' Q:=λa b v c r q=>p a b v (e.trans c) r q
def so.mono {K H ι f d g' Q}(e:Ext H ι f d)(p:so K H ι g' Q):so K f d g' Q:=λb c a r=>p b c (e.trans a) r
def tD.bind {K f}{ι c g d g'}(G0:aw K H ι g)(i:bM K H ι c y)(h:f c g=some (d,g'))(k:∀p n v,Ext H ι p n->aw K p n g'->bM K p n c y->Rel K p n d v->m v p):tD K f y H m :=
 ⟨ι,c,g,d,g',G0,i,h,λa b v e r q=>k a b v e r (i.ext e) q⟩
def iW.bind {K f}{Q:List V->Hp->Prop}{ι c g d g'}(G0:aw K H ι g)(i:bM K H ι c y)(h:f c g=some (d,g'))(k:∀p n v,Ext H ι p n->aw K p n g'->bM K p n c y->ai K p n d v->Q v p):iW K f y H Q :=
 ⟨ι,c,g,d,g',G0,i,h,λa b v e r q=>k a b v e r (i.ext e) q⟩
def mE.bind {K f}{ι c g d g'}(G0:aw K H ι g)(i:bM K H ι c y)(h:f c g=some (d,g'))(k:∀p n,Ext H ι p n->aw K p n g'->bM K p n c y->v d p):mE K f y H v :=
 ⟨ι,c,g,d,g',G0,i,h,λa b e r=>k a b e r (i.ext e)⟩
noncomputable def fC (d:D):FE:=λ_ g=>some (d,g)
noncomputable def aa (i:Nat):FE:=λc g=>match c[i]? with|some (some d)=>some (d,g)|_=>none
abbrev bg:=aa 1
abbrev b0:=aa 0
abbrev cO:=aa 2
abbrev cT:=fC (.int 1)
abbrev de:=aa 3
abbrev dV:=fC (.int 0)
abbrev d4:=aa 5
abbrev ee:=aa 6
abbrev ef:=aa 4
abbrev eh:=fC (.int 2)
abbrev eP:=aa 11
abbrev eW:=aa 9
abbrev fb:=aa 7
abbrev fc:=aa 8
abbrev fe:=aa 10
abbrev fh:=fC (.int 3)
abbrev fk:=fC .aB
abbrev ft:=fC (.str "box")
abbrev fw:=fC (.str "call")
abbrev fy:=fC (.str "view")
abbrev f7:=aa 13
abbrev gb:=aa 14
abbrev gk:=fC (.str "sign")
abbrev gD:=aa 15
abbrev hF:=fC (.str "told")
abbrev hI:=fC (.str "boxes")
abbrev hY:=aa 16
abbrev ir:=fC (.str "moving")
abbrev iF:=fC (.str "own")
abbrev iY:=fC (.str "left")
abbrev i7:=fC (.str "steps")
abbrev i8:=fC (.str "reads")
abbrev jc:=fC (.int 4)
abbrev jd:=fC (.str "toggles")
abbrev jo:=aa 12
abbrev jR:=fC (.str "read")
abbrev j0:=fC (.str "write")
abbrev j3:=fC (.bl true)
abbrev j6:=fC (.int 10)
abbrev kn:=fC (.str "hands")
abbrev ku:=fC (.str "places")
abbrev kH:=fC (.int 16)
abbrev kX:=fC (.str "hand")
abbrev la:=fC (.int 5)
abbrev lU:=fC (.str "shared")
abbrev l8:=fC (.str "shakes")
abbrev mn:=fC (.int 2305843009213693951)
def N6 {i j pos}:DE X (.Constant (.int i) j pos) (fC (.int i)):=.of (PE.imp MT λq H Q h=>by obtain⟨n,a,g,d,b,G0,c,h,p⟩:=h;cases h;exact p H n _ Ext.refl G0 (by simp[Rel]))
def N7 {i j pos}:DE X (.Constant (.str i) j pos) (fC (.str i)):=.of (PE.imp MV λq H Q h=>by obtain⟨n,a,g,d,b,G0,c,h,p⟩:=h;cases h;exact p H n _ Ext.refl G0 (by simp[Rel]))
def Sr {i j pos}:DE X (.Constant (.bool i) j pos) (fC (.bl i)):=.of (PE.imp RX λq H Q h=>by obtain⟨n,a,g,d,b,G0,c,h,p⟩:=h;cases h;exact p H n _ Ext.refl G0 (by simp[Rel]))
def N8 {j pos}:DE X (.Constant .none j pos) fk:=.of (PE.imp MU λn H Q h=>by obtain⟨i,a,g,d,b,G0,c,h,p⟩:=h;cases h;exact p H i _ Ext.refl G0 (by simp[Rel]))
def N9 (i:Nat)(o:X.N[i]? = some x)(q:CW X.env.scope x)(l:(x == ("__debug__":Str))=false)(n:(x == ("__classdict__":Str))=false):DE X (.Name x B) (aa i):=.of (PE.imp (MS o q l n) λy H Q h=>by
 obtain⟨r,j,g,d,u,G0,b,h,p⟩:=h;unfold aa at h;split at h
 . rename_i c e
   obtain⟨rfl,rfl⟩:c=d/\g=u:=by cases h;exact⟨rfl,rfl⟩
   obtain⟨v,a,f⟩:=b.2 i _ e;exact⟨v,a,p H r v Ext.refl G0 f⟩
 . cases h)
def KG {d:D}(f:Gl X x)(j:X.mg x=some T)(r:m5 g T)(q:∀K H n,Rel K H n d g)(i:(x == ("__debug__":Str))=false):DE X (.Name x B) (fC d):=.of (
 PE.imp (t7 f j r i) λu H Q h=>by obtain⟨n,a,v,d,b,G0,c,h,p⟩:=h;cases h;exact p H n _ Ext.refl G0 (q _ _ _))
inductive dW (K:KW)(o:D->D->G->Option (D×G))(x:V)(y:V)(H:Hp)(Q:VK):Prop
 |mk (ι:Ix) (g:G) (d1:D) (d2:D) (d:D) (g':G) (h0:aw K H ι g) (h1:Rel K H ι d1 x) (h2:Rel K H ι d2 y) (h3:o d1 d2 g=some (d,g')) (h4:gi K H ι d g' Q):dW K o x y H Q
inductive N_ (K:KW)(o:D->G->Option (D×G))(x:V)(H:Hp)(Q:VK):Prop
 |mk (ι:Ix) (g:G) (d1:D) (d:D) (g':G) (h0:aw K H ι g) (h1:Rel K H ι d1 x) (h2:o d1 g=some (d,g')) (h3:gi K H ι d g' Q):N_ K o x H Q
inductive mF (K:KW)(o:List D->G->Option (D×G))(xs:List V)(H:Hp)(Q:VK):Prop
 |mk (ι:Ix) (g:G) (ds:List D) (d:D) (g':G) (h0:aw K H ι g) (h1:ai K H ι ds xs) (h2:o ds g=some (d,g')) (h3:gi K H ι d g' Q):mF K o xs H Q
noncomputable def ag (o:D->D->G->Option (D×G))(fa h:FE):FE:=λc g=>(fa c g).bind λr=>(h c r.2).bind λq=>o r.1 q.1 q.2
noncomputable def sr (o:D->G->Option (D×G))(fa:FE):FE:=λc g=>(fa c g).bind λr=>o r.1 r.2
def bind_some {i d:Type}{x:Option i}{f:i->Option d}{b:d}(h:x.bind f=some b):∃a,x=some a/\f a=some b:=by
 cases x with
 |none=>cases h|some a=>exact⟨a,rfl,h⟩
def su {fa:FE}{B:FE}{K}{o:D->D->G->Option (D×G)}(h:tD K (ag o fa B) y H m):C_ (dW K o) (tD K fa) (tD K B) y H m:=by obtain⟨J,z,g,d,x,G0,j,h,p⟩:=h;obtain⟨⟨C,M⟩,i,h⟩:=bind_some h;obtain⟨⟨r,E⟩,e,h⟩:=bind_some h;refine tD.bind G0 j i λO I v n q b f=>?_;refine tD.bind q b e λQ s u a c R l=>?_;exact⟨s,E,C,r,d,x,c,Rel.ext a _ f,l,h,p.mono (n.trans a)⟩
def jK {fa:FE}{c:FE}{op:Wm}{o:D->D->G->Option (D×G)}(d:bO X (tA op) (dW X.kw o))(f:DE X e fa)(i:DE X C c):DE X (.BinOp e op C B) (ag o fa c):=.of (
 PE.imp (R_ d f.un i.un) λg H Q h=>su h)
def Oa {fa:FE}{c:FE}{o:D->D->G->Option (D×G)}(d:bO X (wR op) (dW X.kw o))(i:DE X e fa)(j:DE X C c)(f:aeL op C=false):DE X (.Compare e [op] [C] B) (ag o fa c):=.of (
 PE.imp (Kj d i.un j.un f) λg H Q h=>su h)
def Ss {fa:FE}{op:UnaryOp}{o:D->G->Option (D×G)}(s:C9 X (unaryOp op) (N_ X.kw o))(u:DE X e fa):DE X (.UnaryOp op e B) (sr o fa):=.of (
 PE.imp (Sa s u.un) λy H Q h=>by obtain⟨C,r,g,d,j,G0,a,h,p⟩:=h;obtain⟨⟨n,x⟩,c,h⟩:=bind_some h;refine tD.bind G0 a c λE l v f i q b=>?_;exact⟨l,x,n,d,j,i,b,h,p.mono f⟩)
noncomputable def fg (r:Option (D×G)):Option (Bool×G):=r.bind λr=>match r.1 with|.bl e=>some (e,r.2)|_=>none
def Gy {r:Option (D×G)}{g:G}(h:fg r=some (Y,g)):r=some (.bl Y,g):=by
 obtain⟨⟨d,c⟩,a,h⟩:=bind_some h;cases d with
 |bl k=>cases h;exact a|_=>cases h
def ax (f:FE):FT:=λc g=>fg (f c g)
def Gz {K f}(h:mE K (ax f) y H v):vS (tD K f) y H v:=by
 obtain⟨u,o,g,b,q,G0,e,h,p⟩:=h;obtain⟨⟨d,x⟩,c,h⟩:=bind_some h;cases d with
 |bl k =>
  cases h;exact tD.bind G0 e c λr l B i j n a=>⟨b,by simpa[Rel]using a,p r l i j⟩
 |_=>cases h
def BL {t:TE}(i:∀y H v,t' y H v->t y H v)(h:vS t' y H v):vS t y H v:=i y H _ h
def Oc {fa:FE}{c:FE}{o:D->D->G->Option (D×G)}(d:bO X (wR op) (dW X.kw o))(i:DE X e fa)(j:DE X C c)(f:aeL op C=false):DT X (.Compare e [op] [C] B) (ax (ag o fa c)):=.of (
 PT.imp (Kk d i.un j.un f) λg H Q h=>BL (λ_ _ _=>su) (Gz h))
noncomputable def l_ (d:D)(g:G):Option Bool:=match d with
 |.aB=>some false|.bl e=>some e|.int i=>some (i != 0)|.tup c=>some (!c.isEmpty)|.lst c=>some (!c.isEmpty)|.dU=>some false|.ref n=>match g[n]? with|some c=>some (!c.isEmpty)|none=>none
 |.str _=>none|.aA _=>none|.fn _ _=>none
def gW (f:FE):FT:=λc g=>(f c g).bind λr=>(l_ r.1 r.2).map λb=>(b,r.2)
theorem ai.isEmpty {K H ι}{ds:List D}(h:ai K H ι ds U):ds.isEmpty=U.isEmpty:=by have:=h.length;cases ds<;>cases U<;>simp_all
def KH {K H ι g d v b}(G0:aw K H ι g)(r:Rel K H ι d v)(h:l_ d g=some b):Gh K v H b:=by
 cases d with
 |aB=>cases r;cases h;rfl|bl x=>cases r;cases h;rfl|int x=>cases r;cases h;rfl|str x=>cases h
 |tup p =>
  obtain⟨a,c,rfl,f,i⟩:=r;cases h;exact .inr (.inl ⟨c,f.sq,by rw[i.isEmpty]⟩)
 |lst p =>
  obtain⟨a,c,rfl,f,i⟩:=r;cases h;exact .inl ⟨c,f.sq,by rw[i.isEmpty]⟩
 |dU =>
  obtain⟨a,rfl,f,_⟩:=r;cases h;exact .inr (.inr ⟨[],f,rfl⟩)
 |ref n =>
  obtain⟨a,rfl,l⟩:=r;simp only[l_]at h;split at h
  . rename_i p e
    cases h;obtain⟨c,j,o⟩:=G0.at e l;exact .inl ⟨c,.of j,by rw[o.isEmpty]⟩
  . cases h
 |aA n=>cases h|fn x=>cases h
def Od {fa:FE}(s:DE X e fa)(r:∀whole,isTrue e X.env whole=(do let u <- whole;agG e.pos;HX [u] (truthy u))):DT X e (gW fa):=.of (
 PT.imp (Gi s.un r) λy H Q h=>by
  obtain⟨B,o,g,b,q,G0,i,h,p⟩:=h;obtain⟨⟨d,v⟩,f,h⟩:=bind_some h;cases ht:l_ d v with
  |none=>rw[ht]at h;cases h
  |some k =>
   rw[ht]at h;cases h;exact tD.bind G0 i f λx l u j c n a=>⟨b,KH c a ht,p x l j c⟩)
noncomputable def gX (h i:FT):FT:=λc g=>(h c g).bind λr=>if r.1=true then i c r.2 else some (false,r.2)
noncomputable def w5 (h i:FT):FT:=λc g=>(h c g).bind λr=>if r.1=true then some (true,r.2)else i c r.2
noncomputable def w6 (c:FT):FT:=λh g=>(c h g).bind λr=>some (!r.1,r.2)
def KJ {c:FT}(d:DT X e c):DW X (.BoolOp .And [e] B) c:=.of (J_ d.un)
def Oe {c:FT}(d:DT X e c):DW X (.BoolOp .Or [e] B) c:=.of (MW d.un)
def Of {u:FT}{v:FT}(r:DT X e u)(q:DW X (.BoolOp .And (C::d) B) v):DW X (.BoolOp .And (e::C::d) B) (gX u v):=.of (
 PW.imp (MX r.un q.un) λE H Q h=>by
  obtain⟨I,l,g,k,o,G0,j,h,p⟩:=h;obtain⟨⟨n,x⟩,i,h⟩:=bind_some h;refine mE.bind G0 j i λy a c b f=>?_;cases n with
  |true=>simp only[if_true]at h ⊢;exact⟨a,l,x,k,o,b,f,h,p.mono c⟩|false=>simp only[sJ,if_false]at h ⊢;cases h;exact p y a c b)
def Su {u:FT}{v:FT}(r:DT X e u)(q:DW X (.BoolOp .Or (C::d) B) v):DW X (.BoolOp .Or (e::C::d) B) (w5 u v):=.of (
 PW.imp (RY r.un q.un) λE H Q h=>by
  obtain⟨I,l,g,k,o,G0,j,h,p⟩:=h;obtain⟨⟨n,x⟩,i,h⟩:=bind_some h;refine mE.bind G0 j i λy a c b f=>?_;cases n with
  |false=>simp only[sJ,if_false]at h ⊢;exact⟨a,l,x,k,o,b,f,h,p.mono c⟩|true=>simp only[if_true]at h ⊢;cases h;exact p y a c b)
def DW.dt {c:FT}(h:DW X e c):DT X e c:=.of (PW.pt h.un)
def Og {q:FT}(o:DT X e q):DT X (.UnaryOp .Not e B) (w6 q):=.of (
 PT.imp (MY o.un) λu H Q h=>by obtain⟨v,j,g,k,n,G0,c,h,p⟩:=h;obtain⟨⟨l,x⟩,b,h⟩:=bind_some h;cases h;exact mE.bind G0 c b λr f d a i=>p r f d a)
def ip (fa h:FE):FE:=λc g=>(fg (fa c g)).bind λr=>if r.1=true then h c r.2 else some (.bl false,r.2)
def Oh {fa:FE}{op}(h:DE X e fa):DE X (.BoolOp op [e] B) fa:=.of (MZ h.un)
def DH {fa:FE}{x:FE}(u:DE X e fa)(s:DE X (.BoolOp .And (C::d) B) x):DE X (.BoolOp .And (e::C::d) B) (ip fa x):=.of (
 PE.imp (M0 u.un s.un) λI H Q h=>by
  obtain⟨J,q,g,b,r,G0,o,h,p⟩:=h;obtain⟨⟨i,y⟩,c,h⟩:=bind_some h;have c:=Gy c;refine tD.bind G0 o c λE j v a f l n=>⟨i,by simpa[Rel]using n,?_⟩
  cases i with
  |true=>simp only[if_true]at h ⊢;exact⟨j,q,y,b,r,f,l,h,p.mono a⟩|false=>simp only[sJ,if_false]at h ⊢;cases h;exact p E j _ a f (by simp[Rel]))
noncomputable def uc (h:FT)(fa i:FE):FE:=λc g=>(h c g).bind λr=>if r.1=true then fa c r.2 else i c r.2
def Oi {fa:FE}{c:FE}{x:FT}(v:DT X K x)(u:DE X e fa)(s:DE X C c):DE X (.IfExp K e C B) (uc x fa c):=.of (
 PE.imp (F6 v.un u.un s.un) λE H Q h=>by
  obtain⟨I,f,g,d,l,G0,q,h,p⟩:=h;obtain⟨⟨r,y⟩,o,h⟩:=bind_some h;refine mE.bind G0 q o λJ n i j a=>?_;cases r with
  |true=>simp only[if_true]at h ⊢;exact⟨n,f,y,d,l,j,a,h,p.mono i⟩|false=>simp only[sJ,if_false]at h ⊢;exact⟨n,f,y,d,l,j,a,h,p.mono i⟩)
noncomputable def af:FA:=λ_ g=>some ([],g)
noncomputable def ae (fa:FE)(fr:FA):FA:=λc g=>(fa c g).bind λr=>(fr c r.2).bind λq=>some (r.1::q.1,q.2)
def DJ:DA X [] af:=.of (PA.imp my λn H Q h=>by obtain⟨i,a,g,d,b,G0,c,h,p⟩:=h;cases h;exact p H i _ Ext.refl G0 (by simp[ai]))
def ud {fa:FE}{fr:FA}(C:DE X e fa)(B:DA X d fr)(A:nN (e::d) X.env=(false,eval e X.env)::nN d X.env):DA X (e::d) (ae fa fr):=.of (
 PA.imp (iD C.un B.un A) λI H Q h=>by obtain⟨J,x,g,M,z,G0,l,h,p⟩:=h;obtain⟨⟨O,R⟩,j,h⟩:=bind_some h;obtain⟨⟨y,U⟩,f,h⟩:=bind_some h;cases h;refine tD.bind G0 l j λY E v o q b i=>?_;refine iW.bind q b f λr s u a c Z n=>?_;refine p r s _ (o.trans a) c ?_;simp only[ai];exact⟨_,_,rfl,Rel.ext a _ i,n⟩)
noncomputable def az (n:Nat):Bool:=decide (n<=16777216)
def az.le (h:az n=true):n<=nE:=by rw[L3];exact of_decide_eq_true h
def ay (ds:List D)(g:G):Option (D×G):=if az ds.length=true then some (.tup ds,g)else none
def dI (ds:List D)(g:G):Option (D×G):=if az ds.length=true then some (.lst ds,g)else none
def mkRef (ds:List D)(g:G):Option (D×G):=if az ds.length=true then some (.ref g.length,g ++ [ds])else none
def GA {K H ι g ds vs d g' Q}(G0:aw K H ι g)(r:ai K H ι ds vs)(h:ay ds g=some (d,g'))(p:gi K H ι d g' Q):vs.length<=nE /\ ∀q,H q=none->Q (.ref q) (upd H q (.tup vs)):=by
 unfold ay at h;split at h
 . rename_i z
   cases h;refine⟨by rw[<- r.length];exact az.le z,λq a=>p _ _ _ (Ext.lay a) (G0.lay a) ?_⟩;simp only[Rel];exact⟨q,vs,rfl,.inl ⟨.inl aQ,G0.fresh a⟩,ai.ext (Ext.lay a) _ r⟩
 . cases h
def GB {K H ι g ds vs d g' Q}(G0:aw K H ι g)(r:ai K H ι ds vs)(h:dI ds g=some (d,g'))(p:gi K H ι d g' Q):vs.length<=nE /\ ∀q,H q=none->Q (.ref q) (upd H q (.lst vs)):=by
 unfold dI at h;split at h
 . rename_i z
   cases h;refine⟨by rw[<- r.length];exact az.le z,λq a=>p _ _ _ (Ext.lay a) (G0.lay a) ?_⟩;simp only[Rel];exact⟨q,vs,rfl,.inl ⟨.inl aQ,G0.fresh a,G0.iV a⟩,ai.ext (Ext.lay a) _ r⟩
 . cases h
def GC {K H ι g ds vs d g' Q}(G0:aw K H ι g)(r:ai K H ι ds vs)(h:mkRef ds g=some (d,g'))(p:gi K H ι d g' Q):vs.length<=nE /\ ∀q,H q=none->Q (.ref q) (upd H q (.lst vs)):=by
 unfold mkRef at h;split at h
 . rename_i z
   cases h;refine⟨by rw[<- r.length];exact az.le z,λq a=>p _ _ _ (Ext.push a) (G0.push a r) ?_⟩;simp only[Rel];exact⟨q,rfl,eF.new G0.len⟩
 . cases h
noncomputable def aH (m:List D->G->Option (D×G))(fr:FA):FE:=λc g=>(fr c g).bind λr=>m r.1 r.2
def DL {fr:FA}{q}(h:DA X d fr):DE X (.Tuple d q B) (aH ay fr):=.of (PE.imp (Nz h.un) λr H Q h=>by obtain⟨u,j,g,x,l,G0,c,h,p⟩:=h;obtain⟨⟨o,y⟩,b,h⟩:=bind_some h;exact iW.bind G0 c b λC n v e f i a=>GA f a h (p.mono e))
def DM {fr:FA}(h:DA X d fr):DE X (.List d B) (aH dI fr):=.of (PE.imp (De h.un) λq H Q h=>by obtain⟨r,j,g,u,l,G0,c,h,p⟩:=h;obtain⟨⟨o,x⟩,b,h⟩:=bind_some h;exact iW.bind G0 c b λy n v e f i a=>GB f a h (p.mono e))
def w8 {fr:FA}(h:DA X d fr):DE X (.List d B) (aH mkRef fr):=.of (PE.imp (De h.un) λq H Q h=>by obtain⟨r,j,g,u,l,G0,c,h,p⟩:=h;obtain⟨⟨o,x⟩,b,h⟩:=bind_some h;exact iW.bind G0 c b λy n v e f i a=>GC f a h (p.mono e))
set_option genInjectivity true in
inductive F where
 |nx|rt (d:D)|bk|ct
abbrev FS:=Sg->G->Option (F×Sg×G)
def vW (K:KW)(H:Hp)(i:Ix)(r:F)(b:Sg)(n:G)(a:Ends):Prop :=
 ∀h g,Ext H i h g->aw K h g n->match r with
  |.nx=>∀c,bM K h g b c->a.nx c h|.bk=>∀c,bM K h g b c->a.bk c h|.ct=>∀c,bM K h g b c->a.ct c h|.rt d=>∀v,Rel K h g d v->a.rt v h
inductive II (K:KW)(f:FS)(Dn:Ends)(σ:m6)(H:Hp):Prop
 |mk (ι:Ix) (σd:Sg) (g:G) (r:F) (cb:Sg) (g':G) (h0:aw K H ι g) (h1:bM K H ι σd σ) (h2:f σd g=some (r,cb,g')) (h3:vW K H ι r cb g' Dn):II K f Dn σ H
structure DS (X:Cx)(st:Stmt)(f:FS):Prop where of ::
 un:PS X st (II X.kw f)
structure mG (X:Cx)(qE:List Stmt)(f:FS):Prop where of ::
 un:iP X qE (II X.kw f)
def PS.imp {t t':TS}(h:PS X s t)(i:∀g c H,t' g c H->t g c H):PS X s t':=λn e c H Q I q=>h n e c H Q I (i Q c H q)
def iP.imp {t t':TS}(h:iP X a t)(i:∀g c H,t' g c H->t g c H):iP X a t':=λn s c H Q I q=>h n s c H Q I (i Q c H q)
def vW.mono {K H ι i f r h g' Dn}(e:Ext H ι i f)(p:vW K H ι r h g' Dn):vW K i f r h g' Dn:=λb d a c=>p b d (e.trans a) c
noncomputable def aR:FS:=λc g=>some (.nx,c,g)
noncomputable def av (c a:FS):FS:=λh g=>(c h g).bind λr=>match r.1 with|.nx=>a r.2.1 r.2.2|_=>some r
noncomputable def aM (f:FE):FS:=λc g=>(f c g).bind λr=>some (.rt r.1,c,r.2)
noncomputable def cQ (f:FE):FS:=λc g=>(f c g).bind λr=>some (.nx,c,r.2)
noncomputable def b9 (c:FT)(i a:FS):FS:=λh g=>(c h g).bind λr=>if r.1=true then i h r.2 else a h r.2
def KL:mG X [] aR:=.of (iP.imp Ka λd i H h=>by obtain⟨n,b,g,r,c,e,G0,a,h,p⟩:=h;cases h;exact p H n Ext.refl G0 i a)
def GD {y:FS}{B:FS}(u:DS X s y)(v:mG X a B):mG X (s::a) (av y B):=.of (iP.imp (F7 u.un v.un) λrest I H h=>by
 obtain⟨E,n,g,r,i,o,G0,l,h,p⟩:=h;obtain⟨⟨e,f,C⟩,u,h⟩:=bind_some h;refine⟨E,n,g,e,f,C,G0,l,u,λx c st b=>?_⟩;cases e with
 |nx=>exact λq j=>⟨c,f,C,r,i,o,b,j,h,p.mono st⟩|bk=>cases h;exact p x c st b|ct=>cases h;exact p x c st b|rt d=>cases h;exact p x c st b)
def KN {c:FS}(a:DS X s c):mG X [s] c:=.of (Kb a.un)
def KQ:DS X (.Pass B) aR:=.of (PS.imp Kc λd i H h=>by obtain⟨n,b,g,r,c,e,G0,a,h,p⟩:=h;cases h;exact p H n Ext.refl G0 i a)
def Oj {x:FE}(u:DE X e x):DS X (.Return (some e) B) (aM x):=.of (PS.imp (M4 u.un) λn C H h=>by obtain⟨E,o,g,r,j,q,G0,c,h,p⟩:=h;obtain⟨⟨s,I⟩,b,h⟩:=bind_some h;cases h;exact tD.bind G0 c b λy i v d f l a=>p y i d f v a)
def KR {y:FE}(x:DE X e y)(u:OJ e none B.line X.env=pure false):DS X (.Expr e B) (cQ y):=.of (PS.imp (Ke x.un u) λn C H h=>by obtain⟨I,o,g,r,j,q,G0,c,h,p⟩:=h;obtain⟨⟨s,J⟩,b,h⟩:=bind_some h;cases h;exact tD.bind G0 c b λE i v d f a l=>p E i d f C a)
def Ol {x j pos f}:DS X (.Expr (.Constant (.str x) j pos) f) aR:=.of (PS.imp M3 λd i H h=>by obtain⟨n,b,g,r,c,e,G0,a,h,p⟩:=h;cases h;exact p H n Ext.refl G0 i a)
def Sv {y:FS}{C:FS}{E:FT}{b:List Stmt}(u:DT X e E)(v:mG X a y)(x:mG X b C):DS X (.If e a b B) (b9 E y C):=.of (PS.imp (R5 u.un v.un x.un) λs J H h=>by
 obtain⟨M,f,g,r,d,l,G0,q,h,p⟩:=h;obtain⟨⟨k,I⟩,o,h⟩:=bind_some h;refine mE.bind G0 q o λO n i j c=>?_;cases k with
 |true=>simp only[if_true]at h ⊢;exact⟨n,f,I,r,d,l,j,c,h,p.mono i⟩|false=>simp only[sJ,if_false]at h ⊢;exact⟨n,f,I,r,d,l,j,c,h,p.mono i⟩)
abbrev FG:=D->Sg->G->Option (Sg×G)
abbrev qF:=List D->Sg->G->Option (Sg×G)
inductive Om (K:KW)(f:FG)(v:V)(σ:m6)(H:Hp)(Q:(m6->Hp->Prop)):Prop
 |mk (ι:Ix) (σd:Sg) (g:G) (d:D) (cb:Sg) (g':G) (h0:aw K H ι g) (h1:bM K H ι σd σ) (h2:Rel K H ι d v) (h3:f d σd g=some (cb,g')) (h4:∀H' ι' σ',Ext H ι H' ι'->aw K H' ι' g'->bM K H' ι' cb σ'->Q σ' H'):Om K f v σ H Q
inductive Oo (K:KW)(f:qF)(v:List V)(σ:m6)(H:Hp)(Q:(m6->Hp->Prop)):Prop
 |mk (ι:Ix) (σd:Sg) (g:G) (d:List D) (cb:Sg) (g':G) (h0:aw K H ι g) (h1:bM K H ι σd σ) (h2:ai K H ι d v) (h3:f d σd g=some (cb,g')) (h4:∀H' ι' σ',Ext H ι H' ι'->aw K H' ι' g'->bM K H' ι' cb σ'->Q σ' H'):Oo K f v σ H Q
structure DG (X:Cx)(tg:Expr)(f:FG):Prop where of ::
 un:PG X tg (Om X.kw f)
structure DN (X:Cx)(tg:List Expr)(f:qF):Prop where of ::
 un:qv X tg (Oo X.kw f)
def PG.imp {t t':TG}(h:PG X e t)(i:∀v c H Q,t' v c H Q->t v c H Q):PG X e t':=λg s c H v u Q I r q=>h g s c H v u Q I r (i v c H Q q)
def qv.imp {t t':uO}(h:qv X d t)(i:∀v c H Q,t' v c H Q->t v c H Q):qv X d t':=λg s c H v u Q I r q=>h g s c H v u Q I r (i v c H Q q)
noncomputable def gN (i:Nat):FG:=λd c g=>some (c.set i (some d),g)
theorem bM.set {K H ι c σ d v}(S:bM K H ι c σ)(r:Rel K H ι d v)(i:Nat):bM K H ι (c.set i (some d)) (σ.set i (some v)):=by
 refine⟨by simp[S.1],λj b q=>?_⟩;by_cases e:i=j
 . subst e
   have a:i < c.length:=by
    by_cases a:i < c.length
    . exact a
    . rw[adu.mpr (by simpa using a)]at q;cases q
   rw[tv a]at q;cases q;exact⟨v,by rw[tv (by rw[<- S.1];exact a)],r⟩
 . rw[p9 e]at q ⊢
   exact S.2 j b q
def KS (j:X.N.Nodup)(f:X.N[n]? = some x)(l:Ee X.env.scope x)(i:X.fn x=true\/X.env.scope.names.lookup x=some .local):DG X (.Name x B) (gN n):=.of (
 PG.imp (Kf j f l i) λv u H Q h=>by obtain⟨q,b,g,d,c,e,G0,a,r,h,p⟩:=h;cases h;exact p H q _ Ext.refl G0 (a.set r n))
noncomputable def fz:qF:=λds c g=>match ds with| []=>some (c,g)|_=>none
noncomputable def a_ (t:FG)(u:qF):qF:=λds c g=>match ds with|d::r=>(t d c g).bind λq=>u r q.1 q.2| []=>none
def KU:DN X [] fz:=.of (qv.imp Kg λv n H Q h=>by
 obtain⟨i,b,g,d,c,e,G0,a,r,h,p⟩:=h;cases d with
 |nil=>cases h;simp only[ai]at r;exact⟨r,p H i _ Ext.refl G0 a⟩|cons _ _=>cases h)
def GF {t:FG}{u:qF}(A:DG X e t)(C:DN X d u)(B:(Dc (e::d) X.env).map (·.2)=Hv e X.env::(Dc d X.env).map (·.2)):DN X (e::d) (a_ t u):=.of (qv.imp (F_ A.un C.un B) λv σ H Q h=>by
 obtain⟨M,o,g,E,c,O,G0,n,r,h,p⟩:=h;cases E with
 |nil=>cases h
 |cons E ds =>
  obtain⟨R,j,rfl,U,q⟩:=r;obtain⟨⟨b,J⟩,A,h⟩:=bind_some h;exact⟨R,j,rfl,M,o,g,E,b,J,G0,n,U,A,λH1 I Y a s f=>⟨I,b,J,ds,c,O,s,f,ai.ext a _ q,h,λx z y l i Z=>p x z y (a.trans l) i Z⟩⟩)
noncomputable def gT (n:Nat)(t:qF):FG:=λd h g=>match d with|.tup c=>if c.length=n then t c h g else none|_=>none
def Oq {t:qF}(q:X.calm=true)(h:DN X d t)(s:(Dc d X.env).length=n)(o:(Dc d X.env).findIdx? (·.1)=none):DG X (.Tuple d p B) (gT n t):=.of (PG.imp (M5 q h.un s o) λv C H Q h=>by
 obtain⟨u,i,g,k,c,l,G0,e,r,h,x⟩:=h;cases k with
 |tup y =>
  obtain⟨a,f,rfl,j,b⟩:=r;simp only[gT]at h;split at h
  . rename_i z
    exact⟨a,f,rfl,j.sq,by rw[<- b.length];exact z,u,i,g,y,c,l,G0,e,b,h,x⟩
  . cases h
 |_=>cases h)
noncomputable def aD (f:FE)(t:FG):FS:=λc g=>(f c g).bind λr=>(t r.1 c r.2).bind λq=>some (.nx,q.1,q.2)
def KY {K t}{B:FE}{A σ H}(h:II K (aD B t) A σ H):Ga (tD K B) (Om K t) A σ H:=by obtain⟨I,l,g,r,J,M,G0,j,h,p⟩:=h;obtain⟨⟨z,C⟩,f,h⟩:=bind_some h;obtain⟨⟨u,E⟩,c,h⟩:=bind_some h;cases h;exact tD.bind G0 j f λO x v n q a e=>⟨x,l,C,z,u,E,q,a,e,c,λo s d i b y=>p o s (n.trans i) b d y⟩
def w9 {g:FE}{t:FG}(d:DE X e g)(b:DG X C t)(f:VH [C] e B.line X.env=pure false)(hw:TL [C] e X.env=pure none)(c:(Dc [C] X.env).map (·.2)= [Hv C X.env]):DS X (.Assign [C] e B) (aD g t):=.of (PS.imp (M7 d.un b.un f hw c) λa i H h=>KY h)
def DP {J:FE}(A:X.N.Nodup)(z:X.N[n]? = some x)(y:Ee X.env.scope x)(E:DE X e J)(I:OJ e (some (.Name x B)) j.line X.env=pure false)(C:X.fn x=true\/X.env.scope.names.lookup x=some .local):
  DS X (.Assign [.Name x B] e j) (aD J (gN n)):=.of (PS.imp (M8 A z y E.un I C) λo O H h=>by
 obtain⟨Q,q,g,r,i,s,G0,d,h,p⟩:=h;obtain⟨⟨u,R⟩,c,h⟩:=bind_some h;cases h;exact tD.bind G0 d c λM l v f pos a b=>p M l f pos _ (a.set b n))
def putD (o i v:D)(g:G):Option G:=match o,i with
 |.ref n,.int k=>match g[n]? with
  |some c=>match lH c.length k with
   |some j=>some (g.set n (c.set j v))|none=>none
  |none=>none
 |_,_=>none
abbrev FI:=Sg->G->Option (List D×G)
structure jU (H:Hp)(ι:Ix)(H':Hp)(ι':Ix):Prop where
 same:∀a o,H a=some o->a ∉ ι.ix->H' a=some o
 there:∀a,H a≠none->H' a≠none
 more:∃m,ι'.ix=ι.ix++m /\ ∀a∈m,H a=none
 cK:∃hs,ι'.hd=hs++ι.hd /\ ∀b∈hs,H b=none
 mD:∀i,i < ι.ix.length->ι'.kd i=ι.kd i
def Ext.d7 {H ι a ι1}(e:Ext H ι a ι1):jU H ι a ι1:=⟨e.same,e.there,e.more,⟨[],e.cK,λ_ z=>by simp at z⟩,e.mD⟩
def jU.old {H ι c e}(a:jU H ι c e)(o:H f=some h)(n:f ∉ ι.ix):f ∉ e.ix:=λz=>by
 obtain⟨d,b,g⟩:=a.more;rw[b]at z;rcases nY.mp z with z|z
 . exact n z
 . rw[g f z]at o;cases o
def jU.GG {H ι c e}(a:jU H ι c e)(o:H f=some h)(n:f ∉ ι.hd):f ∉ e.hd:=λz=>by
 obtain⟨d,b,g⟩:=a.cK;rw[b]at z;rcases nY.mp z with z|z
 . rw[g f z]at o;cases o
 . exact n z
def jU.at {H ι l j}(a:jU H ι l j){i:Nat}(h:eF ι i f Y):eF j i f Y:=by obtain⟨c,e,_⟩:=a.more;have d:=(nz.mp h.1).1;refine⟨?_,by rw[a.mD i d];exact h.2⟩;rw[e,r_ d];exact h.1
def qC.d7 {K H ι c b a xs}(e:jU H ι c b)(h:qC K H ι a xs):qC K c b a xs:=by
 rcases h with⟨h|⟨o,h⟩,n,k⟩|h
 . exact .inl ⟨.inl (e.same _ _ h n),e.old h n,e.GG h k⟩
 . exact .inl ⟨.inr ⟨o,e.same _ _ h n⟩,e.old h n,e.GG h k⟩
 . exact .inr h
def qD.d7 {K H ι c b a xs}(e:jU H ι c b)(h:qD K H ι a xs):qD K c b a xs:=by
 rcases h with⟨h|⟨o,h⟩,n⟩|h
 . exact .inl ⟨.inl (e.same _ _ h n),e.old h n⟩
 . exact .inl ⟨.inr ⟨o,e.same _ _ h n⟩,e.old h n⟩
 . exact .inr h
mutual
theorem Rel.d7 {K H ι o l}(e:jU H ι o l):∀(d:D) {v:V},Rel K H ι d v->Rel K o l d v
 |.aB,v,h=>h|.bl _,v,h=>h|.int _,v,h=>h|.str _,v,h=>h|.tup p,v,h=>by simp only[Rel]at h ⊢;obtain⟨a,j,f,b,i⟩:=h;exact⟨a,j,f,b.d7 e,ai.d7 e p i⟩
 |.lst p,v,h=>by simp only[Rel]at h ⊢;obtain⟨a,j,f,b,i⟩:=h;exact⟨a,j,f,b.d7 e,ai.d7 e p i⟩
 |.dU,v,h=>by simp only[Rel]at h ⊢;obtain⟨a,f,b,i⟩:=h;exact⟨a,f,e.same _ _ b i,e.old b i⟩
 |.ref n,v,h=>by simp only[Rel]at h ⊢;obtain⟨a,f,b⟩:=h;exact⟨a,f,e.at b⟩
 |.aA n,v,h=>by simp only[Rel]at h ⊢;obtain⟨a,f,b⟩:=h;exact⟨a,f,e.at b⟩
 |.fn x ds,v,h=>by simp only[Rel]at h ⊢;obtain⟨a,j,f,b,i⟩:=h;exact⟨a,j,f,b.mono λc u z q=>⟨e.same _ _ q.1 q.2.1,e.old q.1 q.2.1,λy=>e.GG q.1 (q.2.2 y)⟩,ai.d7 e ds i⟩
theorem ai.d7 {K H ι j i}(e:jU H ι j i):∀(ds:List D) {g:List V},ai K H ι ds g->ai K j i ds g
 | [],g,h=>h|d::ds,g,h=>by simp only[ai]at h ⊢;obtain⟨v,a,f,c,b⟩:=h;exact⟨v,a,f,Rel.d7 e d c,ai.d7 e ds b⟩
end
def nD (K:KW)(J:It)(H:Hp)(p:Ix)(ds:List D):Prop :=
 ∀(i:Nat) g c n,jU H p g c->aw K g c n->(ds.length<=i->J.stop i g) /\ ∀d,ds[i]? = some d->J.go i g /\ ∀x h,J.C2 i g x h->Ext g c h c/\aw K h c n/\Rel K h c d x
inductive UM (K:KW)(f:FI)(σ:m6)(H:Hp)(R:(It->Hp->Prop)):Prop
 |mk (ι:Ix) (σd:Sg) (g:G) (ds:List D) (g':G) (h0:aw K H ι g) (h1:bM K H ι σd σ) (h2:f σd g=some (ds,g')) (h3:∀H' ι' J,Ext H ι H' ι'->aw K H' ι' g'->nD K J H' ι' ds->R J H'):UM K f σ H R
structure DI (X:Cx)(tg iter:Expr)(f:FI):Prop where of ::
 un:PI X tg iter (UM X.kw f)
def PI.imp {t t':TI}(h:PI X C e t)(i:∀c H Q,t' c H Q->t c H Q):PI X C e t':=λg s c H Q I q=>h g s c H Q I (i c H Q q)
def nD.lst {K H ι a vs ds}(n:qC K H ι a vs)(o:ai K H ι ds vs):nD K (Nh K a) H ι ds:=λi g j p b h =>
 ⟨λe=>⟨vs,(n.d7 b).sq,by rw[<- o.length];exact e⟩,λd hd=>by obtain⟨v,c,f⟩:=(ai.d7 b _ o).get hd;refine⟨⟨vs,v,(n.d7 b).sq,c⟩,λx l y=>?_⟩;obtain⟨rfl,y⟩:=y;have:=y vs (n.d7 b).sq;rw[c]at this;cases this;exact⟨Ext.refl,h,f⟩⟩
def nD.Xl {K H ι a vs ds}(n:qD K H ι a vs)(o:ai K H ι ds vs):nD K (Ni K a) H ι ds:=λi g j p b h =>
 ⟨λe=>⟨vs,(n.d7 b).sq,by rw[<- o.length];exact e⟩,λd hd=>by obtain⟨v,c,f⟩:=(ai.d7 b _ o).get hd;refine⟨⟨vs,v,(n.d7 b).sq,c⟩,λx l y=>?_⟩;obtain⟨rfl,y⟩:=y;have:=y vs (n.d7 b).sq;rw[c]at this;cases this;exact⟨Ext.refl,h,f⟩⟩
def nD.fT {K H ι}:nD K (C3 i n) H ι ((sv n).map λ(k:Nat)=>D.int (i+k)):=λl g f p h c =>
 ⟨λb=>(by show n<=l;simpa using b),λd hd=>by
  have a:l<n:=by have:=(nz.mp hd).1;simpa using this
  refine⟨a,λx j y=>?_⟩;obtain⟨rfl,rfl⟩:=y;have e:d=D.int (i+l):=by simpa[qy,Z3 a]using hd.symm
  subst e;exact⟨Ext.refl,c,by simp[Rel]⟩⟩
noncomputable def vX (f:FE):FI:=λc g=>(f c g).bind λr=>match r.1 with|.tup h=>some (h,r.2)|_=>none
noncomputable def vY (f:FE):FI:=λc g=>(f c g).bind λr=>match r.1 with|.lst h=>some (h,r.2)|_=>none
def Ot {y:FE}(x:DE X C y):DI X e C (vX y):=.of (PI.imp (Nj x.un) λI H Q h=>by
 obtain⟨J,s,g,ds,u,G0,f,h,p⟩:=h;obtain⟨⟨q,M⟩,B,h⟩:=bind_some h;cases q with
 |tup O =>
  cases h;refine tD.bind G0 f B λE o v j n r d=>?_;obtain⟨a,i,rfl,b,c⟩:=d;exact⟨a,rfl,⟨i,b.sq⟩,p E o _ j n (.Xl b c)⟩
 |_=>cases h)
def Ou {y:FE}(x:DE X C y):DI X e C (vY y):=.of (PI.imp (Kh x.un) λI H Q h=>by
 obtain⟨J,s,g,ds,u,G0,f,h,p⟩:=h;obtain⟨⟨q,M⟩,B,h⟩:=bind_some h;cases q with
 |lst O =>
  cases h;refine tD.bind G0 f B λE o v j n r d=>?_;obtain⟨a,i,rfl,b,c⟩:=d;exact⟨a,rfl,⟨i,b.sq⟩,p E o _ j n (.lst b c)⟩
 |_=>cases h)
noncomputable def fK (i:Int):Bool:=Pf i.natAbs 4611686018427387903
def fK.and (h:fK i=true):-(2 ^ 62)<=i/\i<2 ^ 62:=by have:=NC h;lia
def fK.of (c:-1000000<=i)(d:i<=1000000):fK i=true:=acW (by lia)
def dR (fr:FA):FI:=λc g=>(fr c g).bind λr=>match r.1 with| [.int j]=>if fK j=true then some ((sv j.toNat).map λ(k:Nat)=>D.int (0+k),r.2)else none|_=>none
def UN (fr:FA):FI:=λc g=>(fr c g).bind λr=>match r.1 with| [.int i,.int j]=>if(fK i&&fK j)=true then some ((sv (j-i).toNat).map λ(k:Nat)=>D.int (i+k),r.2)else none|_=>none
def Sy {fr:FA}(s:Gl X "range")(u:X.mg "range" = none)(x:DA X [C] fr)(r:nN [C] X.env = [(false,eval C X.env)]):DI X e (.Call (.Name "range" j) [C] [] B) (dR fr):=.of (
 PI.imp (C5 s u x.un r) λE H Q h=>by
  obtain⟨I,n,g,ds,o,G0,d,h,j⟩:=h;obtain⟨⟨q,J⟩,c,h⟩:=bind_some h;refine iW.bind G0 d c λp i v y f l b=>?_;dsimp only at h;split at h
  . rename_i a
    split at h
    . rename_i z
      cases h;obtain⟨_,_,rfl,rfl,rfl⟩:=b;exact⟨a,rfl,(fK.and z).1,(fK.and z).2,j p i _ y f .fT⟩
    . cases h
  . cases h)
def Sz {fr:FA}(u:Gl X "range")(y:X.mg "range" = none)(A:DA X [C,K] fr)(a:nN [C,K] X.env = [(false,eval C X.env),(false,eval K X.env)])(x:nN [K] X.env = [(false,eval K X.env)]):DI X e (.Call (.Name "range" j) [C,K] [] B) (UN fr):=.of (
 PI.imp (C6 u y A.un a x) λI H Q h=>by
  obtain⟨J,q,g,ds,r,G0,p,h,j⟩:=h;obtain⟨⟨s,M⟩,d,h⟩:=bind_some h;refine iW.bind G0 p d λE n v f l o c=>?_;dsimp only at h;split at h
  . rename_i i b
    split at h
    . rename_i z
      rw[nc]at z;cases h;obtain⟨_,_,rfl,rfl,_,_,rfl,rfl,rfl⟩:=c;exact⟨i,b,rfl,⟨(fK.and z.1).1,(fK.and z.1).2,(fK.and z.2).1,(fK.and z.2).2⟩,j E n _ f l .fT⟩
    . cases h
  . cases h)
noncomputable def forL (t:FG)(b:FS):List D->FS
 | [],c,g=>some (.nx,c,g)
 |d::ds,c,g=>(t d c g).bind λq=>(b q.1 q.2).bind λr=>match r.1 with
  |.nx=>forL t b ds r.2.1 r.2.2|.ct=>forL t b ds r.2.1 r.2.2|.bk=>some (.nx,r.2.1,r.2.2)|.rt d=>some (.rt d,r.2.1,r.2.2)
def dB (i:FI)(t:FG)(b:FS):FS:=λc g=>(i c g).bind λr=>forL t b r.1 c r.2
noncomputable def lI (c:FT)(b:FS):Nat->FS
 | 0,_,_=>none
 |n+1,h,g=>(c h g).bind λk=>if k.1=true then(b h k.2).bind λr=>match r.1 with
   |.nx=>lI c b n r.2.1 r.2.2|.ct=>lI c b n r.2.1 r.2.2|.bk=>some (.nx,r.2.1,r.2.2)|.rt d=>some (.rt d,r.2.1,r.2.2)
  else some (.nx,h,k.2)
def zR (n:Nat)(c:FT)(b:FS):FS:=lI c b n
inductive Ov (X:Cx)(gc:FT)(b:FS)(H:Hp)(ι:Ix)(r:F)(cb:Sg)(g':G)(m:Nat)(σ2:m6)(H2:Hp):Prop
 |mk (ι2:Ix) (sx:Sg) (g2:G) (e2:Ext H ι H2 ι2) (G2:aw X.kw H2 ι2 g2) (S2:bM X.kw H2 ι2 sx σ2) (hf:lI gc b m sx g2=some (r,cb,g')):Ov X gc b H ι r cb g' m σ2 H2
def GH {body:FT}{b:FS}(n:Nat)(I:Z9 (model X.prog X.w) X.A X.env X.xe)(C:DT X e body)(E:mG X a b):DS X (.While e a [] B) (zR n body b):=.of (PS.imp (Gb I C.un E.un) λDn σ H h=>by
 obtain⟨M,O,g,r,s,R,G0,Z,h,p⟩:=h;refine⟨Ov X body b H M r s R,⟨n,M,O,g,Ext.refl,G0,Z,h⟩,?_⟩;rintro m Q H2 ⟨ι2,sx,g2,y,G2,S2,hf⟩;cases m with
 |zero=>cases hf
 |succ m =>
  simp only[lI]at hf;obtain⟨⟨k,g3⟩,h3,hf⟩:=bind_some hf;refine mE.bind G2 S2 h3 λH3 J U u Y=>?_;cases k with
  |false =>
   simp only[sJ,if_false]at hf ⊢;cases hf;exact p H3 J (y.trans U) u Q Y
  |true =>
   simp only[if_true]at hf ⊢;obtain⟨⟨x,l,o⟩,h4,hf⟩:=bind_some hf;refine⟨Ov X body b H M r s R m,λσ5 H5 q=>⟨m,adz _,q⟩,?_⟩;refine⟨J,sx,g3,x,l,o,u,Y,h4,λz i e7 c=>?_⟩;have f:=y.trans (U.trans e7);cases x with
   |nx=>exact λj pos=>⟨i,l,o,f,c,pos,hf⟩|ct=>exact λj pos=>⟨i,l,o,f,c,pos,hf⟩|bk=>cases hf;exact λj pos=>p z i f c j pos|rt d=>cases hf;exact λv r7=>p z i f c v r7)
abbrev Fn:=List D->G->Option (D×G)
def lJ (K:KW)(n:Nat)(fn:Fn):Sp:=λa H Q _=>a.length=n /\ ∃c g ds d h,aw K H c g/\ai K H c ds a/\fn ds g=some (d,h)/\gi K H c d h Q
mutual
noncomputable def bU (n:Nat):D->Bool
 |.ref k=>decide (k<n)|.aA k=>decide (k<n)|.tup c=>aF n c|.lst c=>aF n c|.fn _ c=>aF n c|_=>true
noncomputable def aF (n:Nat):List D->Bool
 | []=>true|d::ds=>bU n d&&aF n ds
end
def HT (n:Nat)(d:D)(c:G):Option (D×G):=
 if c.length=n then some (d,c)else
  if(c.take n).all (aF n)then
   match d with
   |.ref k=>if k<n then some (d,c.take n)else match c[k]? with
    |some g=>if aF n g then some (.lst g,c.take n)else none|none=>none
   |d=>if bU n d then some (d,c.take n)else none
  else none
def ak (a:Bool)(e c:Nat)(b:FS):Fn:=λds g =>
 if ds.length=c then(b (ds.map some++nW (e-c) none) g).bind λr=>match r.1 with
  |.rt d=>if a then some (d,r.2.2)else HT g.length d r.2.2|.nx=>if a then some (.aB,r.2.2)else HT g.length .aB r.2.2|_=>none
 else none
noncomputable def Ix.cut (c:Ix)(n:Nat):Ix:=⟨c.ix.take n,c.hd,c.kd⟩
mutual
theorem Rel.cut {K H ι}(n:Nat):∀(d:D) {v:V},bU n d=true->Rel K H ι d v->Rel K H (Ix.cut ι n) d v
 |.aB,v,_,h=>h|.bl _,v,_,h=>h|.int _,v,_,h=>h|.str _,v,_,h=>h
 |.tup p,v,z,h=>by
  simp only[Rel]at h ⊢;obtain⟨a,i,e,b,f⟩:=h;refine⟨a,i,e,?_,ai.cut n p z f⟩;rcases b with⟨b,hn⟩|b
  . exact .inl ⟨b,λm=>hn (O4 m)⟩
  . exact .inr b
 |.lst p,v,z,h=>by
  simp only[Rel]at h ⊢;obtain⟨a,i,e,b,f⟩:=h;refine⟨a,i,e,?_,ai.cut n p z f⟩;rcases b with⟨b,hn,hh⟩|b
  . exact .inl ⟨b,λm=>hn (O4 m),hh⟩
  . exact .inr b
 |.dU,v,_,h=>by simp only[Rel]at h ⊢;obtain⟨a,e,b,f⟩:=h;exact⟨a,e,b,λm=>f (O4 m)⟩
 |.ref k,v,z,h=>by simp only[Rel]at h ⊢;obtain⟨a,e,b⟩:=h;have j:k<n:=of_decide_eq_true z;exact⟨a,e,by show(ι.ix.take n)[k]? = some a;rw[B0 j];exact b.1,b.2⟩
 |.aA k,v,z,h=>by simp only[Rel]at h ⊢;obtain⟨a,e,b⟩:=h;have j:k<n:=of_decide_eq_true z;exact⟨a,e,by show(ι.ix.take n)[k]? = some a;rw[B0 j];exact b.1,b.2⟩
 |.fn x ds,v,z,h=>by simp only[Rel]at h ⊢;obtain⟨a,i,e,b,f⟩:=h;exact⟨a,i,e,b.mono λc u _ q=>⟨q.1,λm=>q.2.1 (O4 m),q.2.2⟩,ai.cut n ds z f⟩
theorem ai.cut {K H ι}(n:Nat):∀(ds:List D) {g:List V},aF n ds=true->ai K H ι ds g->ai K H (Ix.cut ι n) ds g
 | [],g,_,h=>h|d::ds,g,z,h=>by simp only[ai]at h ⊢;simp only[aF,nc]at z;obtain⟨v,a,e,c,b⟩:=h;exact⟨v,a,e,Rel.cut n d z.1 c,ai.cut n ds z.2 b⟩
end
theorem aw.cut {K H ι g}(n:Nat)(h:aw K H ι g)(z:(g.take n).all (aF n)=true):aw K H (Ix.cut ι n) (g.take n):=by
 refine⟨h.nd.sublist (afU _ _),by simp[Ix.cut,h.len],λb d=>⟨λm=>(h.cK b d).1 (O4 m),(h.cK b d).2⟩,λi u q=>?_,λq e=>⟨(h.tb q e).1,λm=>(h.tb q e).2 (O4 m)⟩⟩;have c:i<n:=by have:=(nz.mp q).1;rw[Aq]at this;lia
 rw[B0 c]at q;obtain⟨a,o,f,l,r,p,j⟩:=h.at_ i u q;refine⟨a,o,f,(by show(ι.ix.take n)[i]? = some a;rw[B0 c];exact l),r,p,ai.cut n u ?_ j⟩;exact Js.mp z u (ta (i:=i) (by rw[B0 c];exact q))
theorem Ext.cut {H ι H' b n}(e:Ext H ι H' b)(c:ι.ix.length=n):Ext H ι H' (Ix.cut b n):=by obtain⟨m,a,f⟩:=e.more;refine⟨e.same,e.there,⟨[],?_,λ_ z=>by simp at z⟩,e.cK,e.mD⟩;subst c;show b.ix.take _=_;rw[a];simp
def DQ {K H ι g H' A g' d C E v}(G0:aw K H ι g)(e:Ext H ι H' A)(B:aw K H' A g')(r:Rel K H' A d v)(h:HT g.length d g'=some (E,C)):
   ∃I,Ext H ι H' I/\aw K H' I C/\Rel K H' I E v:=by
 unfold HT at h;split at h
 . cases h;exact⟨A,e,B,r⟩
 split at h
 . rename_i z
   refine⟨Ix.cut A g.length,e.cut G0.len,?_⟩;have J:=B.cut g.length z;split at h
   . rename_i k
     split at h
     . rename_i i
       cases h;exact⟨J,Rel.cut _ _ (decide_eq_true i) r⟩
     . rename_i i
       split at h
       . rename_i M q
         split at h
         . rename_i b
           cases h;refine⟨J,?_⟩;simp only[Rel]at r ⊢;obtain⟨a,rfl,c⟩:=r;obtain⟨s,u,o⟩:=B.at q c;refine⟨a,s,rfl,.inl ⟨.inl u,λm=>?_,λm=>(B.cK a m).1 (ta c.1)⟩,ai.cut _ _ b o⟩;obtain⟨j,l,f⟩:=Qa.mp (show a∈A.ix.take g.length from m);have x:j<g.length:=by rw[Aq]at l;lia
           have n:j < A.ix.length:=by rw[Aq]at l;lia
           rw[ahG]at f;obtain⟨y,p⟩:=nz.mp c.1;have:j=k:=(agd B.nd).mp (f.trans p.symm);lia
         . cases h
       . cases h
   . split at h
     . rename_i b
       cases h;exact⟨J,Rel.cut _ _ b r⟩
     . cases h
 . cases h
def KZ {K:KW}{k n f fd ps}{fn:Fn}(c:∀ds g,fn ds g=none):eE q K.w K.fr K.mg z iT k f fd ps (lJ K n fn):=
 ⟨λa H Q E t=>(by obtain⟨_,i,g,ds,d,b,_,_,h,_⟩:=t;rw[c]at h;cases h),λA outer s H args p a Q E _ _ _ _ t=>(by obtain⟨_,i,g,ds,d,b,_,_,h,_⟩:=t;rw[c]at h;cases h)⟩
def BM {K H ι ds vs}(r:ai K H ι ds vs)(f:ds.length<=R.length):bM K H ι (ds.map some++nW (R.length-ds.length) none) (wi R vs):=by
 have e:=r.length;refine⟨by unfold wi;simp[e],λi d q=>?_⟩;have a:i<ds.length:=by
  by_cases a:i<ds.length
  . exact a
  . rw[CY (by simpa using a),ago]at q
    split at q<;>cases q
 rw[r_ (by simpa using a),qy]at q;cases hd:ds[i]? with
 |none=>rw[hd]at q;cases q
 |some g =>
  rw[hd]at q;cases q;obtain⟨v,b,c⟩:=r.get hd;refine⟨v,?_,c⟩;unfold wi;rw[r_ (by rw[ro,<- e];exact a),qy,b];rfl
def SA {K:KW}{C:Str}{ps:List Str}{b:FS}(F:zH K.fr x C s f k)(S:kC R ps (aY s))(J:ps.length<=R.length)(L:∀(M:Value) (A:qr) (outer:List Env) (N:mJ) (H:Hp) (E:XK),k.code=M->dM n (A.deeper (P0 C (aY s) N.heap.objs.size f M)) ->
   mG (nu K.lx iT q K.w K.fr K.mg z R C (aY s) f M A outer N H E).wD (eu s) b):eE q K.w K.fr K.mg z iT (n+1) f k ps (lJ K ps.length (ak Y R.length ps.length b)):=by
 refine F.ok (lx:=K.lx) S (λvs H Q E h=>h.1) (λM A outer N H vs Q E I y h=>?_);obtain⟨B,ι,g,ds,d,g',G0,r,h,p⟩:=h;refine⟨_,(L M A outer N H E I y).un,?_⟩;unfold ak at h;have i:ds.length=ps.length:=by rw[r.length];exact B
 rw[if_pos i]at h;obtain⟨⟨j,U,X⟩,h1,h⟩:=bind_some h;refine⟨ι,_,g,j,U,X,G0,BM r (by rw[i];exact J),by rw[i];exact h1,λO o l fd=>?_⟩;have fin:∀{a v},Rel K O o a v->(if Y then some (a,X)else HT g.length a X)=some (d,g')->Q v O:=fun {a v} c e=>by
  cases Y with
  |true=>simp only[if_true]at e;cases e;exact p O o v l fd c
  |false =>
   simp only[sJ,if_false]at e;obtain⟨Z,e2,u,r2⟩:=DQ G0 l fd c e;exact p O Z v e2 u r2
 cases j with
 |rt a=>exact λv c=>fin c h|nx=>exact λσ' S'=>fin (v:=.aB) (by simp[Rel]) h|bk=>cases h|ct=>cases h
noncomputable def aj (fn:Fn)(fr:FA):FE:=λc g=>(fr c g).bind λr=>fn r.1 r.2
def qU {fr:FA}{fn:Fn}{K}(s:∀ds g r,fn ds g=some r->ds.length=n)(h:tD K (aj fn fr) y H m):vT (lJ K n fn) [] E0 (iW K fr) y H m:=by obtain⟨v,q,g,d,i,G0,c,h,p⟩:=h;obtain⟨⟨ds,u⟩,b,h⟩:=bind_some h;refine iW.bind G0 c b λx j o e f l a=>?_;rw[wQ];exact⟨by rw[<- a.length];exact s _ _ _ h,j,u,ds,d,i,f,a,h,p.mono e⟩
def K0 {fr:FA}{fn:Fn}(F:eE X.prog X.w X.kw X.mg X.base iT p f k R (lJ X.kw n fn))(b:dM p X.A)(c:X.mg x=some (.ref f))(q:Pz X.kw (.ref f)=true)(i:O_ X.kw k R [])(u:∀ds g r,fn ds g=some r->ds.length=n)(pos:DA X (e::d) fr)(a:Gl X x)(l:(x == ("__debug__":Str))=false)(o:nN (e::d) X.env=(false,eval e X.env)::nN d X.env)(s:(vE j (nN d X.env)).any (·.1)=false):
  DE X (.Call (.Name x B) (e::d) [] j) (aj fn fr):=.of (
 PE.imp (Kl F b a c q i .nil BH pos.un l o s) λv H Q h=>qU u h)
def GI {fn:Fn}(F:eE X.prog X.w X.kw X.mg X.base iT p f k R (lJ X.kw n fn))(pos:dM p X.A)(l:X.mg x=some (.ref f))(v:Pz X.kw (.ref f)=true)(s:O_ X.kw k R [])(o:∀ds g r,fn ds g=some r->ds.length=n)(i:Gl X x)(u:(x == ("__debug__":Str))=false):
  DE X (.Call (.Name x B) [] [] j) (aj fn af):=.of (
 PE.imp (Gk F pos i l v s .nil BH u) λC H Q h=>by have q:=qU o h;obtain⟨y,a,g,d,b,G0,c,h,B⟩:=q;cases h;exact B H y [] Ext.refl G0 (by simp[ai]))
def u9 {b:FS}:∀ds g r,ak Y n p b ds g=some r->ds.length=p:=λds g r h=>by
 unfold ak at h;split at h
 . assumption
 . cases h
def GJ {fr:FA}{id:String}{o:Fn}(v:dY X (.builtin id) (mF X.kw o))(u:X.mg x=none)(E:NW x=some (.builtin id))(y:DA X (e::d) fr)(s:Gl X x)(z:x ≠ "__name__")(A:(x == ("__debug__":Str))=false)(p:nN (e::d) X.env=(false,eval e X.env)::nN d X.env)(C:(vE j (nN d X.env)).any (·.1)=false):DE X (.Call (.Name x B) (e::d) [] j) (aj o fr):=.of (
 PE.imp (wL v s u E y.un z A p C) λM H Q h=>by obtain⟨O,r,g,I,pos,G0,c,h,B⟩:=h;obtain⟨⟨ds,J⟩,b,h⟩:=bind_some h;exact iW.bind G0 c b λR l q f i n a=>⟨l,J,ds,I,pos,i,a,h,B.mono f⟩)
def DR {fr:FA}{T:String}{o:Fn}(v:dY X (.type T) (mF X.kw o))(u:X.mg x=none)(E:NW x=some (.type T))(y:DA X (e::d) fr)(s:Gl X x)(z:x ≠ "__name__")(A:(x == ("__debug__":Str))=false)(p:nN (e::d) X.env=(false,eval e X.env)::nN d X.env)(C:(vE j (nN d X.env)).any (·.1)=false):DE X (.Call (.Name x B) (e::d) [] j) (aj o fr):=.of (
 PE.imp (Dh v s u E y.un z A p C) λM H Q h=>by obtain⟨O,r,g,I,pos,G0,c,h,B⟩:=h;obtain⟨⟨ds,J⟩,b,h⟩:=bind_some h;exact iW.bind G0 c b λR l q f i n a=>⟨l,J,ds,I,pos,i,a,h,B.mono f⟩)
noncomputable def ma (g:Scope)(env:Env):List (Str×Addr):=(g.names.filterMap λx=>if x.2 == .free then(env.cells.lookup x.1).map λc=>(x.1,c)else none).reverse
def vK (h:∀x∈I.names,x.2 = .free->∃c,A.cells.lookup x.1=some c):af4 I A=pure (ma I A):=by
 have i:∀(l:List (Str×BB)) (g:List (Str×Addr)),(∀x∈l,x.2 = .free->∃c,A.cells.lookup x.1=some c) ->
   (forIn l g λx r=>if(x.2 == zb)=true then(do let c <- cellOf A x.1;pure (UU ((x.1,c)::r)))else pure (UU r):Sem (List (Str×Addr)))=
     pure ((l.filterMap λx=>if x.2 == .free then(A.cells.lookup x.1).map λc=>(x.1,c)else none).reverse++g):=by
  intro l;induction l with
  |nil=>intro g _;rfl
  |cons x r n =>
   intro g d;rw[aeg];by_cases hk:x.2 = .free
   . obtain⟨c,e⟩:=d x tc hk
     have a:(x.2 == zb)=true:=by rw[hk];rfl
     rw[if_pos a];simp only[cellOf,e,pure_bind,H9,a,if_true,Iv,List.reverse_cons,zU,agK];exact n _ λy b=>d y (qz _ b)
   . have a:(x.2 == zb)=false:=by simpa using hk
     simp only[a,sJ,if_false,pure_bind,H9];exact n _ λy b=>d y (qz _ b)
 have:=i I.names [] h;rw[wQ]at this;unfold af4 ma;simp only[bind_pure_comp]at this ⊢;first
  | (simpa using this)
  |exact this
def cellsOf (c:Scope)(env:Env)(C:Addr):List (Str×Addr):=wW (C+1) c.names (ma c env)
def mI {k:BB}{r:List (Str×BB)}:wW n ((x,k)::r) o=if(k == B2)=true then wW (n+1) r ((x,n)::o)else wW n r o:=rfl
theorem lK {x:Str}{c:Addr}:∀{names:List (Str×BB)} {n:Nat} {g:List (Str×Addr)},(wW n names g).lookup x=some c->((x,B2)∈names/\n<=c)\/(g.lookup x=some c/\(x,B2) ∉ names)
 | [],_,_,h=>.inr ⟨h,by simp⟩
 | (y,k)::r,n,g,h=>by
  rw[mI]at h;split at h
  . rename_i a
    have a:k=B2:=by simpa using a
    subst a;rcases lK h with⟨h1,h2⟩|⟨h1,h2⟩
    . exact .inl ⟨qz _ h1,by lia⟩
    . by_cases e:x=y
      . subst e
        rw[yE,show(x == x)=true by simp]at h1;cases h1;exact .inl ⟨tc,nA _⟩
      . rw[yE,show(x == y)=false by simpa using e]at h1
        exact .inr ⟨h1,λz=>by rcases nQ.mp z with z|z;(cases z;exact e rfl);exact h2 z⟩
  . rename_i a
    rcases lK h with⟨h1,h2⟩|⟨h1,h2⟩
    . exact .inl ⟨qz _ h1,h2⟩
    . exact .inr ⟨h1,λz=>by rcases nQ.mp z with z|z;(cases z;exact a rfl);exact h2 z⟩
theorem sC {x:Str}{c:Addr}:∀{names:List (Str×BB)} {n:Nat} {g:List (Str×Addr)},(x,B2) ∉ names->g.lookup x=some c->(wW n names g).lookup x=some c
 | [],_,_,_,h=>h
 | (y,k)::r,n,g,i,h=>by
  have b:(x,B2) ∉ r:=λz=>i (qz _ z);rw[mI];split
  . rename_i a
    have a:k=B2:=by simpa using a
    subst a;refine sC b ?_;have e:x≠y:=λe=>i (by rw[e];exact tc);rw[yE,show(x == y)=false by simpa using e];exact h
  . exact sC b h
theorem w_ {x:Str}:∀{names:List (Str×BB)} {n:Nat} {g:List (Str×Addr)},((x,B2)∈names \/ ∃c,g.lookup x=some c)->∃c,(wW n names g).lookup x=some c
 | [],_,_,h=>by rcases h with h|h;(cases h);exact h
 | (y,k)::r,n,g,h=>by
  rw[mI];split
  . rename_i a
    refine w_ ?_;rcases h with h|⟨c,h⟩
    . rcases nQ.mp h with z|z
      . cases z;exact .inr ⟨n,by simp⟩
      . exact .inl z
    . right
      rw[yE];split
      . exact⟨_,rfl⟩
      . exact⟨c,h⟩
  . rename_i a
    refine w_ ?_;rcases h with h|h
    . rcases nQ.mp h with z|z
      . cases z;exact absurd rfl a
      . exact .inl z
    . exact .inr h
theorem xa:∀{names:List (Str×BB)} {n:Nat} {g:List (Str×Addr)},(∀x c,g.lookup x=some c->c<n)->(∀x y c,g.lookup x=some c->g.lookup y=some c->x=y)->∀x y c,(wW n names g).lookup x=some c->(wW n names g).lookup y=some c->x=y
 | [],_,_,_,i=>i
 | (z,k)::r,n,g,p,i=>by
  intro x y c;rw[mI];split
  . refine xa (λx c h=>?_) (λx y c b a=>?_) x y c
    . rw[yE]at h
      split at h
      . cases h;exact adz _
      . exact QA (p x c h)
    . rw[yE]at b a
      split at b
      . rename_i e
        cases b;split at a
        . rename_i d
          rw[eq_of_beq e,eq_of_beq d]
        . exact absurd (p y _ a) (D7 _)
      . split at a
        . cases a;exact absurd (p x _ b) (D7 _)
        . exact i x y c b a
  . exact xa p i x y c
theorem qV {M:Model}{A:qr}{E:Value->mJ->Prop}:∀(names:List (Str×BB)) (g:List (Str×Addr)) (s:mJ) (Q:List (Str×Addr)->mJ->Prop),
  (∀x c,g.lookup x=some c->c<s.heap.objs.size) ->
  (∀n,(∀b o,s.heap.get? b=some o->n.get? b=some o)->(∀x c,(wW s.heap.objs.size names g).lookup x=some c->s.heap.objs.size<=c->n.IsCell c none)->Q (wW s.heap.objs.size names g) { s with heap:=n }) ->
  wpAny M A (forIn names g λx r=>if(x.2 == B2)=true then(do let c <- alloc { cls:=wz "cell",data:=afy none };pure (UU ((x.1,c)::r)))else pure (UU r)) Q E s
 | [],g,s,Q,p,h=>by rw[agO];exact mT (h s.heap (λ_ _ e=>e) λx c i f=>absurd (p x c i) (Nat.not_lt.mpr f))
 | (y,k)::r,g,s,Q,p,h=>by
  rw[aeg];rw[mI]at h;dsimp only;split
  . rename_i d
    rw[if_pos d]at h;refine mA (mA (agB (mT ?_)));have sz:(s.heap.push { cls:=wz "cell",data:=afy none }).objs.size=s.heap.objs.size+1:=NX ..;refine qV r _ _ Q (λx c e=>?_) λn j a=>?_
    . show c<(s.heap.push _).objs.size
      rw[sz];rw[yE]at e;split at e
      . cases e;exact adz _
      . exact QA (p x c e)
    . have a:∀x c,(wW (s.heap.push { cls:=wz "cell",data:=afy none }).objs.size r ((y,s.heap.objs.size)::g)).lookup x=some c->(s.heap.push { cls:=wz "cell",data:=afy none }).objs.size<=c->n.IsCell c none:=a
      show Q (wW (s.heap.push { cls:=wz "cell",data:=afy none }).objs.size r ((y,s.heap.objs.size)::g)) _;rw[sz]at a ⊢;refine h n (λb o e=>j b o (nU _ e)) λx c i f=>?_;rcases Nat.lt_or_eq_of_le f with e3|e3
      . exact a x c i e3
      . subst e3
        exact⟨_,j _ _ (qt _ rfl),rfl⟩
  . rename_i d
    rw[if_neg d]at h;refine mA (mT ?_);exact qV r g s Q p h
def zq {M:Model}{Q:Env->mJ->Prop}(l:∀g s,o.lookup g=some s->s<c.heap.objs.size)(h:∀n:Heap,n.Ns c.heap.objs.size (λ_=>none)->(∀b gl,c.heap.get? b=some gl->n.get? b=some gl)->(∀g s,(wW (c.heap.objs.size+1) I.names o).lookup g=some s->c.heap.objs.size+1<=s->n.IsCell s none) ->
    Q (newEnv I c.heap.objs.size f (wW (c.heap.objs.size+1) I.names o) x none AR (some A) af0) { c with heap:=n }):
   wpAny M J (newFunctionEnv I f o [] x none AR (some A)) Q E c:=by
 unfold newFunctionEnv;have sz:∀gl:Obj,(c.heap.push gl).objs.size=c.heap.objs.size+1:=λgl=>NX ..;refine mA (agB (mA ?_));refine qV I.names o _ _ (λg s e=>?_) λd env a=>?_
 . show s<(c.heap.push _).objs.size
   rw[sz];exact QA (l g s e)
 . refine mA ?_
   rw[agO];refine mT (mT ?_);have a:∀g s,(wW (c.heap.push { cls:=wz (if(some A).isSome=true then "dict" else "frame"),data:=aiG #[] }).objs.size I.names o).lookup g=some s->(c.heap.push { cls:=wz (if(some A).isSome=true then "dict" else "frame"),data:=aiG #[] }).objs.size<=s->d.IsCell s none:=a;rw[sz]at a;have:=h d ⟨_,_,_,env _ _ (qt _ rfl),rfl,by intro k i;simp at i,λ_=>rfl⟩ (λb gl e=>env b gl (nU _ e)) a;show Q (newEnv I c.heap.objs.size f (wW (c.heap.push { cls:=wz (if(some A).isSome=true then "dict" else "frame"),data:=aiG #[] }).objs.size I.names o) x none AR (some A) af0) { c with heap:=d };rw[sz];exact this
def bj (X:Cx)(N:List Str)(scope:Scope)(C:Addr)(s3:mJ)(H:Hp)(fp:List Addr)(cv:List (Addr×Obj)):Cx where
 prog:=X.prog
 w:=X.w
 K:=X.kw
 mg:=X.mg
 base:=X.base
 A:=X.A
 N:=N
 s₀:=s3
 H₀:=H
 env:=compEnvC scope (cellsOf scope X.env C) C X.env
 outer:=X.stack
 stack:=X.stack
 ex:=fp
 calm:=X.calm
 fn:=λx=>scope.names.any λy=>y.1 == x&&y.2 == .cell
 pn:=X.pn++cv
 xe:=λ_ _=>False
 lx:=X.lx
structure fF (X:Cx)(N:List Str)(fr:List (Option Nat))(scope:Scope):Prop where
 kind:scope.kind = .function
 cells:∀y∈scope.names,y.2 = .cell->scope.names.lookup y.1=some .cell
 names:∀y∈scope.names,y.2 = .local->scope.names.lookup y.1=some .local
 free:∀y∈scope.names,y.2 = .free->scope.names.lookup y.1=some .free/\(X.env.kindOf y.1=some .cell\/X.env.kindOf y.1=some .free)
 len:fr.length=N.length
 slots:∀(j i:Nat),fr[j]? = some (some i)->∃x,N[j]? = some x/\X.N[i]? = some x/\scope.names.lookup x=some .free
noncomputable def cu {a:Type}(fr:List (Option Nat))(c:List (Option a)):List (Option a):=fr.map λo=>match o with|some i=>(c[i]?).join|none=>none
def xb:(ZY I A).kind=I.kind:=rfl
def GK (h:(x,f)∈ma I A):(x,zb)∈I.names/\A.cells.lookup x=some f:=by
 unfold ma at h;rw[aeP,RI]at h;obtain⟨y,a,e⟩:=h;split at e
 . rename_i b
   cases hc:A.cells.lookup y.1 with
   |none=>rw[hc]at e;cases e
   |some c =>
    rw[hc]at e;cases e;have:y.2=zb:=by simpa using b
    exact⟨by rw[<- this];exact a,hc⟩
 . cases e
theorem n_ {b:Type}:∀{l:List (Str×b)} {x:Str} {c:b},(x,c)∈l->∃d,l.lookup x=some d
 | [],_,_,h=>nomatch h
 | (y,d)::r,x,c,h=>by
  by_cases e:x=y
  . subst e;exact⟨d,by simp⟩
  . rcases nQ.mp h with z|z
    . cases z;exact absurd rfl e
    . obtain⟨a,q⟩:=n_ z
      exact⟨a,by rw[yE];simp[show(x == y)=false by simpa using e,q]⟩
def fQ (h:(ma I A).lookup x=some f):(x,zb)∈I.names/\A.cells.lookup x=some f:=GK (z6 h)
def xg (b:(x,zb)∈I.names)(a:A.cells.lookup x=some f):(ma I A).lookup x=some f:=by
 have m:(x,f)∈ma I A:=by unfold ma;rw[aeP,RI];exact⟨_,b,by simp[a]⟩
 obtain⟨d,q⟩:=n_ m;have:=(fQ q).2;rw[a]at this;cases this;exact q
def xh {scope:Scope}{env:Env}(h:(ZY scope env).names.lookup x=some .cell\/(ZY scope env).names.lookup x=some .free):(x,zb)∈scope.names\/(x,B2)∈scope.names:=by
 have m:∃k,(x,k)∈(ZY scope env).names/\(k = .cell\/k = .free):=by
   rcases h with h|h
   . exact⟨_,z6 h,.inl rfl⟩
   . exact⟨_,z6 h,.inr rfl⟩
 obtain⟨k,m,b⟩:=m;unfold ZY at m;rw[oa]at m;obtain⟨⟨n,a⟩,hm,e⟩:=m;dsimp only at e;split at e
 . rename_i z
   cases e;simp only[nc]at z;have:a=zb:=by simpa using z.1.1
   subst this;exact .inl hm
 . cases e
   rcases b with rfl|rfl
   . exact .inr hm
   . exact .inl hm
theorem ji {env:Env}:∀{names:List (Str×BB)} {x:Str},names.lookup x=some .free ->
  (names.map λ(n,k)=>if(k == zb&&env.scope.kind == .function&&env.kindOf n == some .cell)then(n,B2)else(n,k)).lookup x=some .cell \/
  (names.map λ(n,k)=>if(k == zb&&env.scope.kind == .function&&env.kindOf n == some .cell)then(n,B2)else(n,k)).lookup x=some .free
 | [],_,h=>by simp at h
 | (n,k)::r,x,h=>by
  have c:=@ji env r x;show List.lookup x ((if(k == zb&&env.scope.kind == .function&&env.kindOf n == some .cell)=true then(n,B2)else(n,k))::_)=_\/List.lookup x ((if(k == zb&&env.scope.kind == .function&&env.kindOf n == some .cell)=true then(n,B2)else(n,k))::_)=_;cases hx:x == n with
  |true =>
   simp only[yE,hx]at h;cases h;split
   . left;simp[yE,hx]
   . right;simp[yE,hx]
  |false =>
   simp only[yE,hx]at h;split
   . simp only[yE,hx];exact c h
   . simp only[yE,hx];exact c h
def SE (h:mH X b y H c):∀x g,(ma I X.env).lookup x=some g->g<c.heap.objs.size:=λx g e=>by obtain⟨v,o,a,_⟩:=h.cell x g (fQ e).2;exact n7 a
def BN {scope:Scope}{tk:Nat}(ok:fF X R Z scope)(I:mH X b y H c)(B:∀fr∈O,gU X b H fr)(C:∀fr∈O,fr<c.heap.objs.size)(J:z.Ns c.heap.objs.size λ_=>none)(E:∀fr o,c.heap.get? fr=some o->z.get? fr=some o)(K:∀x N,(cellsOf scope X.env c.heap.objs.size).lookup x=some N->c.heap.objs.size+1<=N->z.IsCell N none):
   mH (bj X R scope c.heap.objs.size c H O b) [] (cu Z y) H { c with heap:=z,toks:=tk }:=by
 have r:mH X b y H { c with heap:=z,toks:=tk }:=I.kept E;have wA:∀fr∈lF X.stack,fr∈X.env.locals::X.fs:=I.rX;have lc:∀x N,(cellsOf scope X.env c.heap.objs.size).lookup x=some N->(c.heap.objs.size+1<=N/\z.IsCell N none)\/X.env.cells.lookup x=some N:=λx N e=>by
   rcases lK e with⟨_,A⟩|⟨A,_⟩
   . exact .inl ⟨A,K x N e A⟩
   . exact .inr (fQ A).2
 have lo:∀x N,X.env.cells.lookup x=some N->N<c.heap.objs.size:=λx N e=>by obtain⟨v,o,eo,_⟩:=I.cell x N e;exact n7 eo
 have Y:∀g,(g,zb)∈scope.names->(g,B2) ∉ scope.names:=λg z l=>by have:=(ok.free _ z rfl).1;rw[show scope.names.lookup g=some .cell from ok.cells _ l rfl]at this;cases this
 refine⟨⟨I.ok.mod,?_,I.ok.glob,I.ok.blt,nA _,?_,?_,?_,I.ok.hd,I.ok.frames,.inl rfl,?_,I.bs,qJ I.ok.oF I.sz,?_,?_,I.stack,I.zC⟩,rfl,I.bare,Un.kept E,
   ⟨_,J,?_⟩,?_,I.aW.fresh (nA _),?_,?_,r.aW,?_⟩
 . show(ZY scope X.env).kind = .function
   rw[xb];exact ok.kind
 . refine xa (λx N e=>QA (lo x N (fQ e).2)) λx g N z l=>?_
   exact I.ok.inj x g N (fQ z).2 (fQ l).2
 . intro x h
   rcases xh (scope:=scope) (env:=X.env) h with m|m
   . obtain⟨N,hc⟩:=I.ok.has x (ok.free _ m rfl).2
     exact⟨N,sC (Y x m) (xg m hc)⟩
   . exact w_ (.inl m)
 . intro x N h e
   rcases lK e with⟨_,A⟩|⟨_,A⟩
   . exact aeD A
   . refine absurd ?_ A
     have h:(scope.names.any λg=>g.1 == x&&g.2 == .cell)=true:=h;rw[aeQ]at h;obtain⟨⟨g,k⟩,s,M⟩:=h;simp only[nc]at M;have e3:k=B2:=by simpa using M.2
     rw[<- eq_of_beq M.1,<- e3];exact s
 . intro fr f
   refine⟨sI (C fr f),λx N e=>?_⟩;rcases lc x N e with⟨A,_⟩|A
   . exact λq=>absurd (C fr f) (Nat.not_lt.mpr (by rw[<- q];exact aeD A))
   . exact(B fr f).2.2.2.2.1 x N A
 . intro fr o e f
   obtain⟨_,_,_,A,_⟩:=B fr f;rcases A with A|A
   . exact I.ok.qP fr o e A
   . exact absurd (wh (wh (n7 e) I.ok.oF) A) (D7 _)
 . intro fr f A
   obtain⟨_,n1,n2,_⟩:=B fr f;rcases nQ.mp (wA fr A)with q|q
   . exact n1 q
   . exact n2 q
 . intro j x v z l h3
   have a:(cu Z y)[j]? = some (some v):=l;unfold cu at a;rw[qy]at a;cases Q:Z[j]? with
   |none=>rw[Q]at a;cases a
   |some o =>
     rw[Q]at a;cases o with
     |none=>cases a
     |some i =>
       obtain⟨g,s,hi,rY⟩:=ok.slots j i Q;have e:x=g:=by have zT:R[j]? = some x:=z;rw[s]at zT;cases zT;rfl
       subst e;have U:y[i]? = some (some v):=by
         simp only[Iv,adR]at a;cases q:y[i]? with
         |none=>rw[q]at a;cases a|some w=>rw[q]at a;simp at a;rw[a]
       have m:=z6 rY;obtain⟨_,vU⟩:=ok.free _ m rfl;obtain⟨mm,hn,hl⟩:=r.loc;obtain⟨u,ru,lk⟩:=hl i x v hi U (by rcases vU with k|k;exact .inr (.inl k);exact .inr (.inr k));refine⟨u,ru,.inr ⟨ji rY,?_⟩⟩;rcases lk with⟨kl,_⟩|⟨_,N,hc,gB⟩
       . rcases vU with k|k<;>(rw[k]at kl;cases kl)
       . exact⟨N,sC (Y x m) (xg m hc),gB⟩
 . intro x N e
   rcases lc x N e with⟨_,A⟩|A
   . exact⟨_,A⟩
   . exact r.cell x N A
 . intro x N e
   rcases lc x N e with⟨A,_⟩|A
   . exact I.aW.fresh (aeD A)
   . exact I.ik x N A
 . intro p hp
   have zQ:p∈X.pn++b:=by have q:p∈(X.pn++b) ++ []:=hp;simpa using q
   obtain⟨e,n,ne,nf,d⟩:=r.pin p zQ;refine⟨e,n,sI ?_,λA=>?_,d⟩
   . exact n7 (I.pin p zQ).1
   . rcases nQ.mp (wA _ A)with q|q
     . exact ne q
     . exact nf q
 . show(cu Z y).length=R.length
   unfold cu;rw[ro];exact ok.len
noncomputable def dq (t:FG)(c:FT)(e:FE):List D->Sg->G->Option (List D×G)
 | [],_,g=>some ([],g)|d::ds,h,g=>(t d h g).bind λq=>(c q.1 q.2).bind λk=>if k.1=true then(e q.1 k.2).bind λr=>(dq t c e ds q.1 r.2).bind λz=>some (r.1::z.1,z.2)else dq t c e ds q.1 k.2
noncomputable def Xm (X:Cx)(g:List Expr)(t:TT):Prop :=
 ∀(i:List (Addr×Obj)) (s:mJ) (h:m6) (H:Hp) (Q:Bool->Hp->Prop),mH X i h H s->t h H Q ->
  wpAny (model X.prog X.w) X.A (forIn g true λc r=>if r=true then do let ok <- isTrue c X.env (eval c X.env);pure (UU ok)else pure (UU r)) (TP X i h Q) X.xe s
structure iw (X:Cx)(ifs:List Expr)(f:FT):Prop where of ::
 un:Xm X ifs (mE X.kw f)
noncomputable def cC:FT:=λ_ g=>some (true,g)
def GL:iw X [] cC:=.of (λn s q H Q I h=>by obtain⟨i,a,g,b,c,G0,d,h,p⟩:=h;cases h;exact wpAny_tests_nil ⟨H,I,p H i Ext.refl G0⟩)
def GN {f:FT}(h:DT X e f):iw X [e] f:=.of (λc s g H Q I q=>wpAny_tests_one (h.un c s g H Q I q))
def Ext.IJ {y v H' s p x u}(a:Ext y v H' s)(b:Ext H' (Ix.hide s p) x u):Ext y v x ⟨u.ix,s.hd,u.kd⟩/\u=Ix.hide ⟨u.ix,s.hd,u.kd⟩ p:=by
 have e:u.hd=p::s.hd:=b.cK;obtain⟨j,f,g⟩:=a.more;obtain⟨d,r,B⟩:=b.more;refine⟨⟨λc o h n=>b.same c o (a.same c o h n) (a.old h n),λc h=>b.there c (a.there c h),⟨j++d,?_,λc z=>?_⟩,a.cK,λi l=>(b.mD i (show i < s.ix.length by rw[f,nh];lia)).trans (a.mD i l)⟩,?_⟩
 . show u.ix=_
   rw[r];show s.ix++d=_;rw[f,zU]
 . rcases nY.mp z with z|z
   . exact g c z
   . cases q:y c with
     |none=>rfl|some o=>exact absurd (B c z) (a.there c (by rw[q];simp))
 . cases u with
   |mk ix hd kd=>dsimp only at e;rw[e];rfl
def Ext.IK {d b H' ιo p o}(a:Ext d b H' ιo)(f:d p=none):Ext d b (upd H' p o) ιo :=
 ⟨λc u h n=>by rw[aG (aN h f)];exact a.same c u h n,λc h=>by
  by_cases e:c=p
  . subst e;rw[aQ];simp
  . rw[aG e];exact a.there c h,a.more,a.cK,a.mD⟩
def Ext.Xn {e d H' c p}(a:Ext e d H' c)(f:e p=none):jU e d H' (Ix.hide c p):=
 ⟨a.same,a.there,a.more,⟨[p],by show p::c.hd=_;rw[a.cK];rfl,λb z=>by simp at z;subst z;exact f⟩,a.mD⟩
abbrev Sh:=G->Option (List D)
abbrev oP:=Sg->G->Option (Sh×Nat×G)
def sD (K:KW)(J:It)(H:Hp)(q:Ix)(r:Sh)(L:Nat):Prop :=
 ∀(i:Nat) g c n,jU H q g c->aw K g c n->∀p,r n=some p->p.length=L->(L<=i->J.stop i g) /\ ∀d,p[i]? = some d->J.go i g /\ ∀x h,J.C2 i g x h->Ext g c h c/\aw K h c n/\Rel K h c d x
inductive Ow (K:KW)(f:oP)(σ:m6)(H:Hp)(R:(It->Hp->Prop)):Prop
 |mk (ι:Ix) (σd:Sg) (g:G) (sh:Sh) (L:Nat) (g':G) (h0:aw K H ι g) (h1:bM K H ι σd σ) (h2:f σd g=some (sh,L,g')) (h3:∀H' ι' J,Ext H ι H' ι'->aw K H' ι' g'->sD K J H' ι' sh L->R J H'):Ow K f σ H R
structure sE (X:Cx)(tg iter:Expr)(f:oP):Prop where of ::
 un:PI X tg iter (Ow X.kw f)
noncomputable def dZ (h:Sh)(L:Nat)(t:FG)(c:FT)(e:FE):Nat->Sg->G->Option (List D×G)
 | 0,_,g=>(h g).bind λi=>if i.length=L then some ([],g)else none|r+1,n,g=>(h g).bind λi=>if i.length=L then(i[L-(r+1)]?).bind λd=>(t d n g).bind λq=>(c q.1 q.2).bind λk=>if k.1=true then(e q.1 k.2).bind λa=>(dZ h L t c e r q.1 a.2).bind λz=>some (a.1::z.1,z.2)else dZ h L t c e r q.1 k.2 else none
def BO {p:Sh}{t:FG}{c:FT}{e:FE}{r:Sg}{g q:G}{all:List D}(h:dZ p n t c e 0 r g=some (all,q)):∃i,p g=some i/\i.length=n/\all = []/\q=g:=by
 simp only[dZ]at h;obtain⟨i,a,h⟩:=bind_some h;split at h
 . rename_i z
   cases h;exact⟨i,a,z,rfl,rfl⟩
 . cases h
def BP {r:Sh}{t:FG}{c:FT}{e:FE}{u:Sg}{g:G}{o:List D×G}(h:dZ r n t c e (p+1) u g=some o):∃i d,r g=some i/\i.length=n/\i[n-(p+1)]? = some d/\((t d u g).bind λq=>(c q.1 q.2).bind λk=>if k.1=true then(e q.1 k.2).bind λv=>(dZ r n t c e p q.1 v.2).bind λz=>some (v.1::z.1,z.2)else dZ r n t c e p q.1 k.2)=some o:=by
 simp only[dZ]at h;obtain⟨i,a,h⟩:=bind_some h;split at h
 . rename_i z
   obtain⟨d,hd,h⟩:=bind_some h;exact⟨i,d,a,z,hd,h⟩
 . cases h
inductive CompI (X':Cx)(t:FG)(c:FT)(e:FE)(fp:List Addr)(Dl:Addr)(tn:Nat->Heap->Prop)(sh:Sh)(L:Nat)(all:List D)(H1:Hp)(ι1:Ix)(g':G)(n:Nat)(s:mJ):Prop
 |mk (i:Nat) (σ:m6) (H:Hp) (ιo:Ix) (σd:Sg) (g:G) (vs:List V) (acc more:List D) (hn:n=L+1-i) (eR:i<=L) (I:mH X' [] σ H s) (ti:tn i s.heap) (IL:∀b∈fp,H b=none) (E1:Ext H1 ι1 H ιo) (G1:aw X'.kw H (Ix.hide ιo Dl) g) (S1:bM X'.kw H (Ix.hide ιo Dl) σd σ)
  (IM:H Dl=some (.lst vs)) (xi:ai X'.kw H (Ix.hide ιo Dl) acc vs) (DU:acc.length<=i) (hf:dZ sh L t c e (L-i) σd g=some (more,g')) (ea:all=acc++more):CompI X' t c e fp Dl tn sh L all H1 ι1 g' n s
def DV {X':Cx}{t:FG}{c:FT}{tg:FE}{J:It}{ifs:Addr}{N:Nat->Heap->Prop}{all:List D}{sh:Sh}{L:Ix}{g':G}{R:Result->mJ->Prop}(U:X'.xe=λ_ _=>False)(S:X'.calm=true)(T:Turn X'.prog X'.w X'.kw e J O f N)(P:∀b∈O,gU X' [] X'.H₀ b)(Y:sD X'.kw J H L sh n)(hD:H ifs=none)(hz:n<=nE)(W:DG X' e t)(Z:iw X' d c)(he:DE X' K tg)(fin:∀s' σ' H' ιo vs,mH X' [] σ' H' s'->(∀b∈O,H' b=none)->Ext H L H' ιo->aw X'.kw H' (Ix.hide ιo ifs) g'->H' ifs=some (.lst vs)->ai X'.kw H' (Ix.hide ιo ifs) all vs->R (.ok .next) s'):
   ∀(s:mJ) (σ:m6) (elt:Hp) (ιo:Ix) (σd:Sg) (g:G),mH X' [] σ elt s->N 0 s.heap->(∀b∈O,elt b=none)->Ext H L elt ιo->aw X'.kw elt (Ix.hide ιo ifs) g->bM X'.kw elt (Ix.hide ιo ifs) σd σ->elt ifs=some (.lst [])->dZ sh n t c tg n σd g=some (all,g') ->
    PM (model X'.prog X'.w) X'.A (.compLoop (.ListComp K [⟨e,C,d,0⟩] I B) 0 (.ref f) (.ref ifs) X'.env) R s:=by
 intro s σ elt ιo σd g M t0 UR E0 G0 S0 hH oQ;have qR:∀{H':Hp},(∀b∈O,H' b=none)->∀b∈O,gU X' [] H' b:=λhn b hb=>⟨hn b hb,(P b hb).2⟩
 refine codeAny_loop rfl (CompI X' t c tg O ifs N sh n all H L g') ?_ (n+1)
   ⟨0,σ,elt,ιo,σd,g,[],[],all,rfl,tj _,M,t0,UR,E0,G0,S0,hH,by simp[ai],nA _,by simpa using oQ,rfl⟩
 clear oQ hH S0 G0 E0 UR t0 M g σd ιo elt σ s;rintro scope s ⟨i,σ,elt,ιo,σd,g,vs,acc,more,rfl,eR,M,ti,IL,E1,G1,S1,IM,xi,DU,hf,rfl⟩;show wpAny _ X'.A ((compTurn (.ListComp K [⟨e,C,d,0⟩] I B) 0 (.ref f) (.ref ifs) X'.env).onRaise (λx=>do noteFrame x X'.env;theTreesLotGoes x)) _ _ s;refine wpAny_noted ?_;rw[compTurn_list];refine mA (ad9 (mA ?_));have j1:=Y i elt (Ix.hide ιo ifs) g (E1.Xn hD) G1;by_cases bP:i<n
 . rw[show n-i=(n-(i+1))+1 by lia]at hf
   obtain⟨xs,d0,qG,Ox,DX,hf⟩:=BP hf;rw[show n-(n-(i+1)+1)=i by lia]at DX;obtain⟨st,go⟩:=j1 xs qG Ox;obtain⟨go,yl⟩:=go d0 DX;refine aX (T.item X' rfl rfl rfl S i [] s σ elt _ M (qR IL) ti go) λr s4 aS=>?_;obtain⟨u,hr,h4⟩:=aS;subst hr;refine mA (aX h4 λ_ s5 aS=>?_);obtain⟨x,H5,I5,r5,y5,t5,C8⟩:=aS;obtain⟨e5,G5,aC⟩:=yl x H5 y5;obtain⟨⟨σ6,g6⟩,h6,hf⟩:=bind_some hf;obtain⟨⟨k7,g7⟩,h7,hf⟩:=bind_some hf;have aq:=I5.pinned (qR C8) (T.obj _ _ t5);have lift:∀{α:Type} {tr:Sem α} {Q:α->mJ->Prop} {E:Value->mJ->Prop} {s:mJ},wpAny (model X'.prog X'.w) X'.A tr Q X'.xe s->wpAny (model X'.prog X'.w) X'.A tr Q E s:=λh=>ae0 h (λ_ _ q=>q) λ_ _ z=>by rw[U]at z;exact z.elim
   have again:∀{s9:mJ} {σ9:m6} {fp:Hp} {ι9:Ix} {IP:Sg} {g9:G} {IQ:List V} {acc9:List D} {pQ:List D},mH X' ([]++oI O s5.heap) σ9 fp s9->Ext H L fp ι9->aw X'.kw fp (Ix.hide ι9 ifs) g9->bM X'.kw fp (Ix.hide ι9 ifs) IP σ9 ->
     fp ifs=some (.lst IQ)->ai X'.kw fp (Ix.hide ι9 ifs) acc9 IQ->acc9.length<=i+1->dZ sh n t c tg (n-(i+1)) IP g9=some (pQ,g')->acc++more=acc9++pQ ->
     ∃m,m<n+1-i/\CompI X' t c tg O ifs N sh n (acc++more) H L g' m s9:=by
    intro s9 σ9 fp ι9 IP g9 IQ acc9 pQ I9 E9 G9 S9 h9 r9 l9 f9 a9;refine⟨n+1-(i+1),by lia,i+1,σ9,fp,ι9,IP,g9,IQ,acc9,pQ,rfl,bP,I9.nt,T.keep _ _ _ t5 λb hb o tg=>(I9.pin (b,o) (N1 _ (N1 _ (kg hb tg)))).1,λb hb=>?_,E9,G9,S9,h9,r9,l9,f9,a9⟩;obtain⟨o,tg,iter⟩:=T.obj _ _ t5 b hb;exact(I9.pin (b,o) (N1 _ (N1 _ (kg hb tg)))).2.1
   refine mA (lift (aX (W.un _ s5 σ H5 x u (λσ' H'=>∃l,Ext H5 (Ix.hide ιo ifs) H' l/\aw X'.kw H' l g6/\bM X'.kw H' l σ6 σ') aq r5 ⟨Ix.hide ιo ifs,σd,g,d0,σ6,g6,G5,S1.ext e5,aC,h6,λH6 l IS e6 G6 S6=>⟨l,e6,G6,S6⟩⟩) λ_ s6 q6=>?_));obtain⟨IS,H6,I6,l,e6,G6,S6⟩:=q6;refine mA (lift (aX (Z.un _ s6 IS H6 (λb H'=>b=k7 /\ ∃p,Ext H6 l H' p/\aw X'.kw H' p g7) I6 ⟨l,σ6,g6,k7,g7,G6,S6,h7,λH7 p e7 G7=>⟨rfl,p,e7,G7⟩⟩) λok s7 q7=>?_));obtain⟨H7,I7,rfl,p,e7,G7⟩:=q7;have IT:=(e5.trans e6).trans e7;obtain⟨E7,ab⟩:=E1.IJ IT;have ah:H7 ifs=some (.lst vs):=IT.same ifs _ IM (G1.cK ifs tc).1;have r7:=ai.ext IT _ xi;have S7:=S6.ext e7;cases ok with
   |false =>
    simp only[sJ,if_false]at hf;refine mT ⟨rfl,?_⟩;rw[ab]at G7 S7 r7;exact again I7 E7 G7 S7 ah r7 (by lia) hf rfl
   |true =>
    simp only[if_true]at hf;obtain⟨⟨d8,g8⟩,h8,hf⟩:=bind_some hf;obtain⟨⟨pQ,g9⟩,h9,hf⟩:=bind_some hf;obtain⟨rfl,rfl⟩:d8::pQ=more/\g9=g':=by cases hf;exact⟨rfl,rfl⟩
    refine mA (mA (lift (aX (he.un _ s7 IS H7 (λv H'=>∃ι8,Ext H7 p H' ι8/\aw X'.kw H' ι8 g8/\Rel X'.kw H' ι8 d8 v) I7 ⟨p,σ6,g7,d8,g8,G7,S7,h8,λH8 ι8 v e8 G8 r8=>⟨ι8,e8,G8,r8⟩⟩) λy s8 q8=>?_)));obtain⟨v8,H8,I8,ar,ι8,e8,G8,r8⟩:=q8;have Oy:=IT.trans e8;obtain⟨E8,aB⟩:=E1.IJ Oy;have DY:H8 ifs=some (.lst vs):=Oy.same ifs _ IM (G1.cK ifs tc).1;have IU:=ai.ext Oy _ xi;have S8:=S7.ext e8;have hlen:vs.length<nE:=by rw[<- xi.length];lia
    rw[aB]at G8 S8 IU r8;refine mA (lift (aX (uY (X:=X') _ s8 IS H8 (.ref ifs) [v8] (.ref ifs) [y] (λ_ H'=>H'=upd H8 ifs (.lst (vs ++ [v8]))) I8 rfl (.cons ar .nil) ⟨ifs,vs,v8,rfl,rfl,DY,hlen,rfl⟩) λ_ s9 q9=>?_));obtain⟨_,fp,I9,_,rfl⟩:=q9;refine mT (mT ⟨rfl,?_⟩);refine again (acc9:=acc ++ [d8]) I9 (E8.IK hD) (G8.grow DY) ⟨S8.1,λj iter q=>let⟨v,a,b⟩:=S8.2 j iter q;⟨v,a,Rel.grow DY iter b⟩⟩ aQ ?_ (by simp;lia) h9 (by simp);exact ai.append (ai.grow DY _ IU) (by simp only[ai];exact⟨v8,[],rfl,Rel.grow DY _ r8,rfl⟩)
 . have ei:i=n:=by lia
   subst ei;rw[Vc]at hf;obtain⟨xs,qG,Ox,rfl,rfl⟩:=BO hf;obtain⟨st,go⟩:=j1 xs qG Ox;refine aX (T.done X' rfl rfl rfl S _ [] s σ elt _ M (qR IL) ti (st (nA _))) λr s4 aS=>?_;obtain⟨hr,I4⟩:=aS;subst hr;exact mT (fin s4 σ elt ιo vs I4 IL E1 G1 IM (by simpa using xi))
def bC (mk:List D->G->Option (D×G))(a:FI)(fr:List (Option Nat))(t:FG)(c:FT)(e:FE):FE:=λh g=>(a h g).bind λr=>if az r.1.length=true then(dq t c e r.1 (cu fr h) r.2).bind λq=>mk q.1 q.2 else none
def kU (mk:List D->G->Option (D×G))(a:oP)(fr:List (Option Nat))(t:FG)(c:FT)(e:FE):FE:=λh g=>(a h g).bind λr=>if az r.2.1=true then(dZ r.1 r.2.1 t c e r.2.1 (cu fr h) r.2.2).bind λq=>mk q.1 q.2 else none
noncomputable def bD (ds:List D)(g:G):Option (D×G):=some (.lst ds,g)
noncomputable def j4 (ds:List D)(g:G):Option (D×G):=some (.ref g.length,g ++ [ds])
def bM.sub {K H ι e σ}(fr:List (Option Nat))(h:bM K H ι e σ):bM K H ι (cu fr e) (cu fr σ):=by
 refine⟨by simp[cu],λj d q=>?_⟩;unfold cu at q ⊢;rw[qy]at q ⊢;cases hf:fr[j]? with
 |none=>rw[hf]at q;cases q
 |some o =>
  rw[hf]at q;cases o with
  |none=>cases q
  |some i =>
   have a:e[i]? = some (some d):=by
    simp only[Iv,adR]at q;cases z:e[i]? with
    |none=>rw[z]at q;cases q|some w=>rw[z]at q;simp at q;rw[q]
   obtain⟨v,b,c⟩:=h.2 i d a;exact⟨v,by simp[b],c⟩
def oR {fi:oP}{t:FG}{σ:FT}{s:FE}{cv:List (Addr×Obj)}{ι:Ix}{ifs:Sg}{g g1 g':G}{all:List D}{sh:Sh}(U:X.xe=λ_ _=>False)(tg:X.calm=true)(ok:fF X R Z I)(E:sE X e C fi)(O:∀N Y H fp cv,DG (bj X R I N Y H fp cv) e t/\iw (bj X R I N Y H fp cv) d σ/\DE (bj X R I N Y H fp cv) K s)(P:∀x,FV C X.env x=pure x)(dh:mH X cv y H c)(G0:aw X.kw H ι g)(iter:bM X.kw H ι ifs y)(M:fi ifs g=some (sh,n,g1))(hz:az n=true)(S:dZ sh n t σ s n (cu Z ifs) g1=some (all,g'))(fin:∀s' H' ιo vs Dl N,mH X cv y H' s'->gU X cv H' N->(∃m,s'.heap.Ns N m)->Ext H ι H' ιo->aw X.kw H' (Ix.hide ιo Dl) g'->H' Dl=some (.lst vs)->ai X.kw H' (Ix.hide ιo Dl) all vs->Dl ∉ ιo.hd->H Dl=none->compPost (model X.prog X.w) X.A X.xe use Q (.ref Dl) N (.ok .next) s'):
  wpAny (model X.prog X.w) X.A (comprehension (.ListComp K [⟨e,C,d,0⟩] I B) I X.env j (newList []) false (eval C X.env) use) Q X.xe c:=by
 have free:∀x∈I.names,x.2 = .free->∃σ,X.env.cells.lookup x.1=some σ:=λx hx hk=>dh.ok.has x.1 (ok.free x hx hk).2;refine wpAny_comprehension_free (use:=use) rfl P (vK free) ok.kind ok.names (aX (E.un cv c y H (λJ H'=>∃h,Ext H ι H' h/\aw X.kw H' h g1/\sD X.kw J H' h sh n) dh ⟨ι,ifs,g,sh,n,g1,G0,iter,M,λH1 h J r pos J1=>⟨h,r,pos,J1⟩⟩) λxv s1 zT=>aX zT λNg s2 q2=>?_);obtain⟨it,fp,tn,J,H1,rfl,I1,T,t1,f1,h,r,pos,J1⟩:=q2;refine AF ?_;have l:H1 s2.heap.objs.size=none:=I1.aW.fresh (nA _);generalize Oz:({ s2 with heap:=s2.heap.push { cls:=.type "list",dict:=none,data:=.seq ([]:List Value).toArray } }:mJ)=Y;have I3:mH X cv y (upd H1 s2.heap.objs.size (.lst [])) Y:=by rw[<- Oz];exact I1.laid (t':=s2.toks) (λb u s=>nU _ s) (nA _) ⟨tj _,[],0,.nil,qt _ rfl⟩
 have k3:∀b o,s2.heap.get? b=some o->Y.heap.get? b=some o:=λb o s=>by rw[<- Oz];exact nU _ s
 have US:Y.heap.objs.size=s2.heap.objs.size+1:=by rw[<- Oz];exact NX ..
 have u6:∀b∈fp,b<s2.heap.objs.size:=λb f=>let⟨o,eo,_⟩:=T.obj _ _ t1 b f;n7 eo;have i:∀b∈fp,gU X cv (upd H1 s2.heap.objs.size (.lst [])) b:=λb f=>⟨by rw[aG (sI (u6 b f))];exact(f1 b f).1,(f1 b f).2⟩
 refine zq (SE I3) λh4 Xp k4 kc=>?_;have I4:=BN (tk:=Y.toks) ok I3 i (λb f=>by rw[US];exact QA (u6 b f)) Xp k4 kc;obtain⟨hg,hi,he⟩:=O Y.heap.objs.size Y (upd H1 s2.heap.objs.size (.lst [])) fp cv;have t4:tn 0 h4:=T.keep _ _ _ t1 λb f o s=>k4 b o (k3 b o s);have fx:∀b∈fp,gU (bj X R I Y.heap.objs.size Y (upd H1 s2.heap.objs.size (.lst [])) fp cv) [] (upd H1 s2.heap.objs.size (.lst [])) b:=λb f=>by
  refine⟨(i b f).1,?_,?_,.inl f,?_,?_⟩
  . exact sI (by rw[US];exact QA (u6 b f))
  . exact I4.ok.wB b f
  . exact(I4.ok.MP b f).2
  . intro p hp
    have zQ:p∈X.pn++cv:=by have q:p∈(X.pn++cv) ++ []:=hp;simpa using q
    exact(f1 b f).2.2.2.2.2 p zQ
 have loop:PM (model X.prog X.w) X.A (.compLoop (.ListComp K [⟨e,C,d,0⟩] I B) 0 (.ref it) (.ref s2.heap.objs.size) (compEnvC I (cellsOf I X.env Y.heap.objs.size) Y.heap.objs.size X.env))
    (compPost (model X.prog X.w) X.A X.xe use Q (.ref s2.heap.objs.size) Y.heap.objs.size) { Y with heap:=h4 }:=by
  refine DV (X':=bj X R I Y.heap.objs.size Y (upd H1 s2.heap.objs.size (.lst [])) fp cv) (all:=all) (g':=g') rfl tg T fx J1 l (az.le hz) hg hi he ?_ _ _ _ h (cu Z ifs) g1 I4 t4 (λb f=>(i b f).1) ((Ext.refl (H:=H1) (ι:=h)).IK l) (pos.hide l) ?_ aQ S
  . intro s' σ' H' ιo vs elt DZ E' G' ab r'
    have I5:mH X cv y H' s':=I3.RW (ch:=fp) elt.os elt.base elt.aW elt.bare λb f=>⟨(i b f).2.2.2.1,(i b f).2.1,(i b f).2.2.2.2.1,(i b f).2.2.2.2.2⟩
    obtain⟨m,hm,_⟩:=elt.loc;refine fin s' H' ιo vs _ _ I5 ?_ ⟨m,hm⟩ (r.trans E') G' ab r' ?_ ?_
    . have z:=I3.t8 (H':=H') (b:=Y.heap.objs.size) (nA _) elt.free
      exact z
    . rw[E'.cK];exact pos.iV l
    . cases q:H s2.heap.objs.size with
      |none=>rfl|some o=>exact absurd l (r.there _ (by rw[q];simp))
  . have S1:bM X.kw H1 h (cu Z ifs) (cu Z y):=(iter.ext r).sub Z
    exact⟨S1.1,λscope L q=>let⟨v,a,b⟩:=S1.2 scope L q;⟨v,a,Rel.hide l L b⟩⟩
 exact codeAny_compStart_list loop (T.self _ 0 _ _ _ t4 loop)
def qW {H ι H' a K g' all vs b d h Q}(e:Ext H ι H' a)(f:aw K H' (Ix.hide a b) g')(hD:H' b=some (.lst vs))(r:ai K H' (Ix.hide a b) all vs)(j:b ∉ a.hd)(i:bD all g'=some (d,h))(p:gi K H ι d h Q):Q (.ref b) H':=by cases i;refine p H' a _ e f.show ?_;simp only[Rel];exact⟨b,vs,rfl,.inl ⟨.inl hD,(f.cK b tc).1,j⟩,ai.show _ r⟩
def aw.OA {K H ι g p J C}(h:aw K H (Ix.hide ι p) g)(A:H p=some (.lst C))(B:p ∉ ι.hd)(r:ai K H (Ix.hide ι p) J C):aw K H (ι.more p 0) (g ++ [J]):=by
 have Z:p ∉ ι.ix:=(h.cK p tc).1;have Q:∀{n:Nat} {a:Addr} {b:Bool},eF (Ix.hide ι p) n a b->eF (ι.more p 0) n a b:=fun {n a b} f=>by
   have M:n < ι.ix.length:=(nz.mp f.1).1;refine⟨?_,?_⟩
   . show(ι.ix ++ [p])[n]? = some a
     rw[r_ M];exact f.1
   . show kb (if n=ι.ix.length then 0 else ι.kd n)=b
     rw[if_neg (by lia)];exact f.2
 have up:∀(d:D) (v:V),Rel K H (Ix.hide ι p) d v->Rel K H (ι.more p 0) d v:=λd=>by
   refine D.rec (motive_1:=λd=>∀v,Rel K H (Ix.hide ι p) d v->Rel K H (ι.more p 0) d v) (motive_2:=λds=>∀C,ai K H (Ix.hide ι p) ds C->ai K H (ι.more p 0) ds C)
     ?_ ?_ ?_ ?_ ?_ ?_ ?_ ?_ ?_ ?_ ?_ ?_ d
   . intro v h;simpa[Rel]using h
   . intro b v h;simpa[Rel]using h
   . intro b v h;simpa[Rel]using h
   . intro b v h;simpa[Rel]using h
   . intro J I v h
     simp only[Rel]at h ⊢;obtain⟨a,E,j,f,s⟩:=h;refine⟨a,E,j,?_,I _ s⟩;rcases f with⟨f,n⟩|f
     . refine .inl ⟨f,λz=>?_⟩
       rcases nY.mp z with z|z
       . exact n z
       . simp at z;subst z
         rcases f with f|⟨o,f⟩<;>(rw[A]at f;cases f)
     . exact .inr f
   . intro J I v h
     simp only[Rel]at h ⊢;obtain⟨a,E,j,f,s⟩:=h;refine⟨a,E,j,?_,I _ s⟩;rcases f with⟨f,n,k⟩|f
     . refine .inl ⟨f,λz=>?_,λz=>k (qz _ z)⟩
       rcases nY.mp z with z|z
       . exact n z
       . simp at z;subst z;exact k tc
     . exact .inr f
   . intro v h
     simp only[Rel]at h ⊢;obtain⟨a,j,f,s⟩:=h;refine⟨a,j,f,λz=>?_⟩;rcases nY.mp z with z|z
     . exact s z
     . simp at z;subst z;rw[A]at f;cases f
   . intro n v h
     simp only[Rel]at h ⊢;obtain⟨a,j,f⟩:=h;exact⟨a,j,Q f⟩
   . intro n v h
     simp only[Rel]at h ⊢;obtain⟨a,j,f⟩:=h;exact⟨a,j,Q f⟩
   . intro x ds I v h
     simp only[Rel]at h ⊢;obtain⟨a,E,j,f,s⟩:=h;refine⟨a,E,j,f.mono λc u z q=>⟨q.1,λm=>?_,λy m=>q.2.2 y (qz _ m)⟩,I _ s⟩;rcases nY.mp m with m|m
     . exact q.2.1 m
     . simp at m;have y:=q.1;rw[m,A]at y;rw[<- DK y]at z;cases z
   . intro C h;simpa[ai]using h
   . intro d ds N3 DB C h
     simp only[ai]at h ⊢;obtain⟨v,O,j,f,s⟩:=h;exact⟨v,O,j,N3 v f,DB O s⟩
 have R:∀(ds:List D) (C:List V),ai K H (Ix.hide ι p) ds C->ai K H (ι.more p 0) ds C:=λds=>by
   induction ds with
   |nil=>intro C h;simpa[ai]using h
   |cons d ds I =>
     intro C h;simp only[ai]at h ⊢;obtain⟨v,O,j,f,s⟩:=h;exact⟨v,O,j,up d v f,I O s⟩
 refine⟨?_,by simp[<- h.len,Ix.hide,Ix.more],λb hb=>⟨λz=>?_,(h.cK b (qz _ hb)).2⟩,λi U q=>?_,λq f=>⟨(h.tb q f).1,λm=>?_⟩⟩
 . show(ι.ix ++ [p]).Nodup
   rw[UK];refine⟨h.nd,by simp,λa ha b hb=>?_⟩;simp at hb;subst hb;intro e;subst e;exact Z ha
 . rcases nY.mp z with z|z
   . exact(h.cK b (qz _ hb)).1 z
   . simp at z;subst z;exact B hb
 . have M:ι.ix.length=g.length:=h.len
   by_cases X:i<g.length
   . rw[r_ X]at q
     obtain⟨a,o,E,h1,h2,ov,h3⟩:=h.at_ i U q;refine⟨a,o,E,(by show(ι.ix ++ [p])[i]? = some a;rw[r_ (by rw[M];exact X)];exact h1),h2,?_,R _ _ h3⟩;show OV K _ _ (if i=ι.ix.length then 0 else ι.kd i) o E;rw[if_neg (by lia)];exact ov
   . rw[CY (by lia)]at q
     have Y:i-g.length=0:=by
       cases e:i-g.length with
       |zero=>rfl|succ k=>rw[e]at q;simp at q
     rw[Y]at q;have e:J=U:=by simpa using q
     subst e;refine⟨p,_,C,?_,A,?_,R _ _ r⟩
     . show(ι.ix ++ [p])[i]? = some p
       rw[CY (by rw[M];lia),M,Y];rfl
     . show OV K _ _ (if i=ι.ix.length then 0 else ι.kd i) _ C
       rw[if_pos (by lia)];exact .l C
 . rcases nY.mp m with m|m
   . exact(h.tb q f).2 m
   . simp at m;have z:=(h.tb q f).1;rw[m,A]at z;cases z
def qX {H ι H' f K g' all vs h d l Q}(e:Ext H ι H' f)(o:H h=none)(j:aw K H' (Ix.hide f h) g')(hD:H' h=some (.lst vs))(r:ai K H' (Ix.hide f h) all vs)(q:h ∉ f.hd)(n:j4 all g'=some (d,l))(p:gi K H ι d l Q):Q (.ref h) H':=by
 cases n;obtain⟨m,g,c⟩:=e.more;refine p H' (f.more h 0) _ ⟨e.same,e.there,⟨m ++ [h],by show f.ix ++ [h]=_;rw[g,zU],λa z=>?_⟩,e.cK,λi b=>?_⟩ (j.OA hD q r) ?_
 . rcases nY.mp z with z|z
   . exact c a z
   . simp at z;subst z;exact o
 . show(if i=f.ix.length then 0 else f.kd i)=ι.kd i
   rw[if_neg (by rw[g,nh];lia)];exact e.mD i b
 . simp only[Rel]
   exact⟨h,rfl,eF.new j.len⟩
def GO {fi:oP}{t:FG}{c:FT}{O:FE}(Y:X.xe=λ_ _=>False)(E:X.calm=true)(ok:fF X R Z I)(A:sE X e C fi)(J:∀M s3 H fp U,DG (bj X R I M s3 H fp U) e t/\iw (bj X R I M s3 H fp U) d c/\DE (bj X R I M s3 H fp U) K O)(pos:∀x,FV C X.env x=pure x):DE X (.ListComp K [⟨e,C,d,0⟩] I B) (kU bD fi Z t c O):=.of (by
 intro U s σ H Q ifs h;obtain⟨ι,σd,g,iter,gg,G0,q,h,p⟩:=h;obtain⟨⟨sh,L,g1⟩,n,h⟩:=bind_some h;dsimp only at h;split at h
 . rename_i hz
   obtain⟨⟨all,g'⟩,f,h⟩:=bind_some h;rw[eval_ListComp];refine oR (use:=none) Y E ok A J pos ifs G0 q n hz f λs' l ιo vs Dl M I' fC y i G' hD r a oQ=>?_;obtain⟨m,hm⟩:=y;refine⟨m,hm,λIV z=>⟨.ref Dl,l,?_,rfl,qW i G' hD r a h p⟩⟩;obtain⟨f0,f1,f2,v,f4,u⟩:=fC;exact I'.turned (t':=s'.toks) (λb o j O=>z.extBut b o j O) f0 f1 v f4 u
 . cases h)
def iX {fi:oP}{tg:FG}{c:FT}{i:FE}{mk:List D->G->Option (D×G)}(E:∀{H ι H' Y g' all vs Dl J gg Q},Ext H ι H' Y->H Dl=none->aw X.kw H' (Ix.hide Y Dl) g'->H' Dl=some (.lst vs)->ai X.kw H' (Ix.hide Y Dl) all vs->Dl ∉ Y.hd->mk all g'=some (J,gg)->gi X.kw H ι J gg Q->Q (.ref Dl) H')(N:X.xe=λ_ _=>False)(px:X.calm=true)(ok:fF X R Z I)(iter:sE X e C fi)(T:∀pos s3 H fp cv,DG (bj X R I pos s3 H fp cv) e tg/\iw (bj X R I pos s3 H fp cv) d c/\DE (bj X R I pos s3 H fp cv) K i)(P:X.N.Nodup)(M:X.N[n]? = some x)(S:Ee X.env.scope x)(O:OJ (.ListComp K [⟨e,C,d,0⟩] I t) (some (.Name x B)) j.line X.env=pure true)(W:∀x,FV C X.env x=pure x)(U:X.fn x=true\/X.env.scope.names.lookup x=some .local):DS X (.Assign [.Name x B] (.ListComp K [⟨e,C,d,0⟩] I t) j) (aD (kU mk fi Z tg c i) (gN n)):=.of (by
 intro cv s σ H Dn scope h;obtain⟨ι,σd,g,r,cb,gg,G0,S0,h0,p⟩:=h;obtain⟨⟨J,elt⟩,zT,hr⟩:=bind_some h0;have eT:some (F.nx,σd.set n (some J),elt)=some (r,cb,gg):=hr;clear h0;obtain⟨⟨sh,L,g1⟩,h1,f⟩:=bind_some (x:=fi σd g) zT;dsimp only at f;split at f
 . rename_i hz
   obtain⟨⟨all,g'⟩,h2,h4⟩:=bind_some f;rw[exec_Assign_Name_used _ _ _ _ O];refine mA (ad9 (mA ?_));show wpAny _ X.A (do let _ <- comprehension (.ListComp K [⟨e,C,d,0⟩] I t) I X.env _ (newList []) false (eval C X.env) (some (Hv (.Name x B) X.env))) _ _ s;refine mA (ae0 (oR (use:=some (Hv (.Name x B) X.env)) (Q:=λ_ ifs=>SP X cv Dn .next ifs) N px ok iter T W scope G0 S0 h1 hz h2 λifs H' Y vs Dl pos I' fC D0 e' G' hD r hn oQ=>?_) (λ_ ifs hq=>mT (mT hq)) λ_ _ i=>i);obtain⟨m,hm⟩:=D0;show wpAny _ X.A (Hv (.Name x B) X.env (.ref Dl)) _ _ _;refine wpAny_assign_Name (uM I' P M S (v:=.ref Dl) rfl (λwI u aS=>?_) U);obtain⟨a,sb,l⟩:=aS;obtain⟨f0,f1,f2,f3,f4,f5⟩:=fC;have D1:pos≠a:=by
    rcases l with rfl|l
    . exact f1
    . exact λz=>f4 _ _ l z.symm
   obtain⟨oc,es,ep,ho,rest⟩:=hm;refine⟨m,⟨oc,es,ep,(sb.2 pos D1).trans ho,rest⟩,λIV q=>?_⟩;refine⟨σ.set n (some (.ref Dl)),H',u.turned (t':=wI.toks) (λb o hb i=>q.extBut b o hb i) f0 f1 f3 f4 f5,?_⟩;cases eT;exact E (Q:=λv H'=>Dn.nx (σ.set n (some v)) H') e' oQ G' hD r hn h4 λH2 ι2 v y G2 r2=>p H2 ι2 y G2 _ ((S0.ext y).set r2 n)
 . cases f)
def D2 {fi:oP}{t:FG}{c:FT}{O:FE}(Y:X.xe=λ_ _=>False)(E:X.calm=true)(ok:fF X R Z I)(A:sE X e C fi)(J:∀M s3 H fp U,DG (bj X R I M s3 H fp U) e t/\iw (bj X R I M s3 H fp U) d c/\DE (bj X R I M s3 H fp U) K O)(pos:∀x,FV C X.env x=pure x):DE X (.ListComp K [⟨e,C,d,0⟩] I B) (kU j4 fi Z t c O):=.of (by
 intro U s σ H Q ifs h;obtain⟨ι,σd,g,iter,gg,G0,q,h,p⟩:=h;obtain⟨⟨sh,L,g1⟩,n,h⟩:=bind_some h;dsimp only at h;split at h
 . rename_i hz
   obtain⟨⟨all,g'⟩,f,h⟩:=bind_some h;rw[eval_ListComp];refine oR (use:=none) Y E ok A J pos ifs G0 q n hz f λs' l ιo vs Dl M I' fC z i G' hD r a v=>?_;obtain⟨m,hm⟩:=z;refine⟨m,hm,λIV sb=>⟨.ref Dl,l,?_,rfl,qX i v G' hD r a h p⟩⟩;obtain⟨f0,f1,f2,y,f4,u⟩:=fC;exact I'.turned (t':=s'.toks) (λb o j O=>sb.extBut b o j O) f0 f1 y f4 u
 . cases h)
noncomputable def D3 (a:FI):oP:=λc g=>(a c g).map λr=>(λ_=>some r.1,r.1.length,r.2)
def oS {A:FI}(h:DI X e C A):sE X e C (D3 A):=.of (PI.imp h.un λR H Q q=>by
 obtain⟨B,r,g,y,L,z,G0,n,c,p⟩:=q;obtain⟨⟨ds,E⟩,j,I⟩:=p7.mp c;cases I;exact⟨B,r,g,ds,E,G0,n,j,λd f J s u b=>p d f J s u λi M v O l a U o x=>by cases o;exact b i M v O l a⟩)
theorem ue {ds:List D}{t:FG}{c:FT}{e:FE}:∀(k:Nat) (i:Sg) (g:G),k<=ds.length->dZ (λ_=>some ds) ds.length t c e k i g=dq t c e (ds.drop (ds.length-k)) i g
 | 0,i,g,_=>by simp[dZ,dq]
 |k+1,i,g,h=>by
  have a:ds.length-(k+1)<ds.length:=by lia
  rw[Ws a,show ds.length-(k+1)+1=ds.length-k by lia];simp only[dZ,dq,nv,if_true,nP a];refine congrArg _ (funext λq=>congrArg _ (funext λb=>?_));split
  . refine congrArg _ (funext λr=>?_)
    rw[ue k _ _ (by lia)]
  . rw[ue k _ _ (by lia)]
def pR {mk:List D->G->Option (D×G)}{a:FI}{t:FG}{c:FT}{e:FE}:bC mk a Z t c e=kU mk (D3 a) Z t c e:=by
 funext σ g;unfold bC kU D3;cases a σ g with
 |none=>rfl
 |some r =>
  simp only[nv,Iv];rw[ue _ _ _ (nA _),Vc,afn]
def K1 {r:FI}{t:FG}{c:FT}{u:FE}(b:X.xe=λ_ _=>False)(i:X.calm=true)(ok:fF X R Z I)(a:DI X e C r)(f:∀g n H p q,DG (bj X R I g n H p q) e t/\iw (bj X R I g n H p q) d c/\DE (bj X R I g n H p q) K u)(h:∀x,FV C X.env x=pure x):DE X (.ListComp K [⟨e,C,d,0⟩] I B) (bC bD r Z t c u):=by
 rw[pR];exact GO b i ok (oS a) f h
def BQ {Q:FI}{U:FG}{c:FT}{i:FE}(l:X.xe=λ_ _=>False)(s:X.calm=true)(ok:fF X R Z I)(h:DI X e C Q)(v:∀g J H M O,DG (bj X R I g J H M O) e U/\iw (bj X R I g J H M O) d c/\DE (bj X R I g J H M O) K i)(q:X.N.Nodup)(E:X.N[n]? = some x)(u:Ee X.env.scope x)(o:OJ (.ListComp K [⟨e,C,d,0⟩] I t) (some (.Name x B)) j.line X.env=pure true)(z:∀x,FV C X.env x=pure x)(y:X.fn x=true\/X.env.scope.names.lookup x=some .local):
  DS X (.Assign [.Name x B] (.ListComp K [⟨e,C,d,0⟩] I t) j) (aD (bC bD Q Z U c i) (gN n)):=
 by rw[pR];exact iX (λf _ b hD r a Y p=>qW f b hD r a Y p) l s ok (oS h) v q E u o z y
def zr {Q:FI}{l:FG}{c:FT}{i:FE}(U:X.xe=λ_ _=>False)(u:X.calm=true)(ok:fF X R Z I)(E:DI X e C Q)(y:∀g J H M O,DG (bj X R I g J H M O) e l/\iw (bj X R I g J H M O) d c/\DE (bj X R I g J H M O) K i)(s:X.N.Nodup)(o:X.N[n]? = some x)(v:Ee X.env.scope x)(q:OJ (.ListComp K [⟨e,C,d,0⟩] I t) (some (.Name x B)) j.line X.env=pure true)(A:∀x,FV C X.env x=pure x)(z:X.fn x=true\/X.env.scope.names.lookup x=some .local):
  DS X (.Assign [.Name x B] (.ListComp K [⟨e,C,d,0⟩] I t) j) (aD (bC j4 Q Z l c i) (gN n)):=
 by rw[pR];exact iX (λh a Y hD r b f p=>qX h a Y hD r b f p) U u ok (oS E) y s o v q A z
noncomputable def gF (c:Sh)(L:Nat)(t:FG)(b:FS):Nat->FS
 | 0,i,g=>(c g).bind λh=>if h.length=L then some (.nx,i,g)else none
 |r+1,i,g=>(c g).bind λh=>if h.length=L then(h[L-(r+1)]?).bind λd=>(t d i g).bind λq=>(b q.1 q.2).bind λa=>match a.1 with
   |.nx=>gF c L t b r a.2.1 a.2.2|.ct=>gF c L t b r a.2.1 a.2.2|.bk=>some (.nx,a.2.1,a.2.2)|.rt d=>some (.rt d,a.2.1,a.2.2)
  else none
def nF (a:oP)(t:FG)(b:FS):FS:=λc g=>(a c g).bind λr=>gF r.1 r.2.1 t b r.2.1 c r.2.2
inductive GP (X:Cx)(t:FG)(b:FS)(sh:Sh)(L:Nat)(H1:Hp)(ι1:Ix)(r:F)(cb:Sg)(g':G)(i:Nat)(σ2:m6)(H2:Hp):Prop
 |mk (ι2:Ix) (sx:Sg) (g2:G) (e2:Ext H1 ι1 H2 ι2) (G2:aw X.kw H2 ι2 g2) (S2:bM X.kw H2 ι2 sx σ2) (hf:gF sh L t b (L-i) sx g2=some (r,cb,g')):GP X t b sh L H1 ι1 r cb g' i σ2 H2
def zV {pos:oP}{t:FG}{b:FS}(N:Z9 (model X.prog X.w) X.A X.env X.xe)(I:X.calm=true)(body:sE X C e pos)(E:DG X C t)(K:mG X a b)(M:∀x,FV e X.env x=pure x):DS X (.For C e a [] B) (nF pos t b):=.of (PS.imp (Nk N I body.un E.un K.un M) λDn σ H h=>by
 obtain⟨ι,R,g,r,cb,g',G0,S0,h,p⟩:=h;obtain⟨⟨sh,L,g1⟩,h1,h⟩:=bind_some h;refine⟨ι,R,g,sh,L,g1,G0,S0,h1,λH1 O J f G1 J1=>?_⟩;dsimp only at h;refine⟨λi m s j=>m=L-i/\i<=L/\GP X t b sh L H1 O r cb g' i s j,
   ⟨L,by simp,tj _,O,R,g1,Ext.refl,G1,S0.ext f,by simpa using h⟩,?_⟩
 rintro i m s j ⟨rfl,body,u,sx,g2,o,G2,S2,hf⟩;have j1:=J1 i j u g2 o.d7 G2;by_cases bP:i<L
 . rw[show L-i=(L-(i+1))+1 by lia]at hf
   simp only[gF]at hf;obtain⟨xs,hx,hf⟩:=bind_some hf;split at hf
   . rename_i hl
     obtain⟨d0,DX,hf⟩:=bind_some hf;rw[show L-(L-(i+1)+1)=i by lia]at DX;obtain⟨⟨U,g3⟩,h3,hf⟩:=bind_some hf;obtain⟨⟨r4,Q,z⟩,h4,hf⟩:=bind_some hf;obtain⟨st,go⟩:=j1 xs hx hl;obtain⟨go,yl⟩:=go d0 DX;refine .inr ⟨go,λY H5=>GP X t b sh L H1 O r cb g' (i+1) Y H5,?_,?_⟩
     . rintro Y H5 ⟨ι5,ab,g5,e5,G5,S5,h5⟩
       exact⟨L-(i+1),by lia,rfl,bP,ι5,ab,g5,e5,G5,S5,h5⟩
     . intro x H' y
       obtain⟨e3,G3,r3⟩:=yl x H' y;refine⟨u,sx,g2,d0,U,g3,G3,S2.ext e3,r3,h3,λH6 ι6 σ6 e6 G6 S6=>?_⟩;refine⟨ι6,U,g3,r4,Q,z,G6,S6,h4,λH7 l e7 c=>?_⟩;have n:=o.trans (e3.trans (e6.trans e7));cases r4 with
       |nx=>exact λq Z=>⟨l,Q,z,n,c,Z,hf⟩|ct=>exact λq Z=>⟨l,Q,z,n,c,Z,hf⟩|bk=>cases hf;exact λq Z=>p H7 l (f.trans n) c q Z|rt d=>cases hf;exact λv r7=>p H7 l (f.trans n) c v r7
   . cases hf
 . have iter:i=L:=by lia
   subst iter;rw[Vc]at hf;simp only[gF]at hf;obtain⟨xs,hx,hf⟩:=bind_some hf;split at hf
   . rename_i hl
     cases hf;obtain⟨st,_⟩:=j1 xs hx hl;exact .inl ⟨st (nA _),p j u (f.trans o) G2 s S2⟩
   . cases hf)
theorem zX {ds:List D}{t:FG}{b:FS}:∀(k:Nat) (c:Sg) (g:G),k<=ds.length->gF (λ_=>some ds) ds.length t b k c g=forL t b (ds.drop (ds.length-k)) c g
 | 0,c,g,_=>by simp[gF,forL]
 |k+1,c,g,h=>by
  have a:ds.length-(k+1)<ds.length:=by lia
  rw[Ws a,show ds.length-(k+1)+1=ds.length-k by lia];simp only[gF,forL,nv,if_true,nP a,zX k _ _ (aeD h)]<;>rfl
def OB {a:FI}{t:FG}{b:FS}:dB a t b=nF (D3 a) t b:=by
 funext σ g;unfold dB nF D3;cases a σ g with
 |none=>rfl
 |some r =>
  simp only[nv,Iv];rw[zX _ _ _ (nA _),Vc,afn]
def OC {c:FI}{t:FG}{b:FS}(j:Z9 (model X.prog X.w) X.A X.env X.xe)(f:X.calm=true)(g:DI X e C c)(d:DG X e t)(h:mG X a b)(i:∀x,FV C X.env x=pure x):DS X (.For e C a [] B) (dB c t b):=by
 rw[OB];exact zV j f (oS g) d h i
noncomputable def bX (c:Int->Int->Bool)(f:Int->Int->Int)(b a:D)(g:G):Option (D×G):=match b,a with
 |.int i,.int j=>if c i j=true then some (.int (f i j),g)else none|_,_=>none
noncomputable def sF (f:Int->Int->Bool)(b a:D)(g:G):Option (D×G):=match b,a with
 |.int i,.int j=>some (.bl (f i j),g)|_,_=>none
noncomputable def dJ (_ _:Int):Bool:=true
noncomputable def c_ (i j:Int):Bool:=Pf i.natAbs 18446744073709551615||Pf j.natAbs 18446744073709551615
noncomputable def fA (_ j:Int):Bool:=Pf 1 j.toNat&&Pf j.toNat 1073741823
noncomputable def cR (_ j:Int):Bool:=Pf 1 j.toNat
noncomputable def km (i j:Int):Bool:=(match j with|.ofNat n=>Pf n 1000000|.negSucc _=>false)&&Pf i.natAbs 18446744073709551615
section
def mK {C:Int->Int->Prop}{A:Int->Int->Int}(h:bO X w (rI C λi j=>.int (A i j)))(B:∀i j,l i j=true->C i j):bO X w (dW X.kw (bX l A)):=by
 intro c s E H x y v u Q I e f q;obtain⟨J,g,o,n,d,r,G0,a,b,q,p⟩:=q;cases o with
 |int i =>
  cases n with
  |int j =>
   simp only[Rel]at a b;subst a;subst b;simp only[bX]at q;split at q
   . rename_i z
     cases q;exact h c s E H _ _ v u Q I e f ⟨i,j,rfl,rfl,B i j z,p H J _ Ext.refl G0 (by simp[Rel])⟩
   . cases q
  |_=>cases q
 |_=>cases q
def zY {x:Int->Int->V}{y:V}(h:rI (λ_ _=>True) x g y H m):qx x g y H m:=by obtain⟨i,j,a,b,_,q⟩:=h;exact⟨i,j,a,b,q⟩
def bO.imp {r c:R2}(h:bO X w r)(i:∀x y H Q,c x y H Q->r x y H Q):bO X w c:=λg s n H x y v u Q I a b q=>h g s n H x y v u Q I a b (i _ _ _ _ q)
def OD:bO X (tA .Sub) (dW X.kw (bX dJ (· - ·))):=mK (bO.imp Np λ_ _ _ _=>zY) λ_ _ _=>trivial
def K2:bO X (tA .Add) (dW X.kw (bX dJ (· + ·))):=mK (bO.imp Nn λ_ _ _ _=>zY) λ_ _ _=>trivial
def K3:bO X (tA .Mult) (dW X.kw (bX c_ (· * ·))):=mK Nq λi j h=>by
 unfold c_ at h;simp only[zg]at h;rcases h with h|h
 . have:=NC h
   exact .inl ⟨by lia,by lia⟩
 . have:=NC h
   exact .inr ⟨by lia,by lia⟩
def K4:bO X (tA .FloorDiv) (dW X.kw (bX fA (· / ·))):=mK Ki λi j h=>by unfold fA at h;simp only[nc]at h;have a:=NC h.1;have b:=NC h.2;exact⟨by lia,by lia⟩
def OE:bO X (tA .Mod) (dW X.kw (bX cR (· % ·))):=mK Nr λi j h=>by have a:=NC (show Pf 1 j.toNat=true from h);show 0<j;lia
def OF:bO X (tA .Pow) (dW X.kw (bX km (λi j=>i ^ j.toNat))):=mK Nt λi j h=>by
 unfold km at h;simp only[nc]at h;have b:=NC h.2;cases j with
 |ofNat n =>
  have a:=NC (show Pf n 1000000=true from h.1);exact⟨afE n,(by show((n:Nat):Int)<=1000000;lia),(by lia)⟩
 |negSucc n=>exact absurd h.1 (by simp)
def vZ (h:bO X w (qx λi j=>.bl (l i j))):bO X w (dW X.kw (sF l)):=by
 intro r s B H x y v u Q I c e q;obtain⟨C,g,n,f,d,o,G0,a,b,q,p⟩:=q;cases n with
 |int i =>
  cases f with
  |int j =>
   simp only[Rel]at a b;subst a;subst b;cases q;exact h r s B H _ _ v u Q I c e ⟨i,j,rfl,rfl,p H C _ Ext.refl G0 (by simp[Rel])⟩
  |_=>cases q
 |_=>cases q
def SF:bO X (wR .Lt) (dW X.kw (sF λi j=>decide (i<j))):=vZ Sb
def SG:bO X (wR .LtE) (dW X.kw (sF λi j=>decide (i<=j))):=vZ Sd
def SH:bO X (wR .Gt) (dW X.kw (sF λi j=>decide (j<i))):=vZ Se
def SI:bO X (wR .GtE) (dW X.kw (sF λi j=>decide (j<=i))):=vZ Sf
noncomputable def nG (d:D)(g:G):Option (D×G):=match d with|.int i=>some (.int (-i),g)|_=>none
def OG:C9 X (unaryOp .USub) (N_ X.kw nG):=by
 intro h s n H x v Q I a q;obtain⟨r,g,b,d,e,G0,c,q,p⟩:=q;cases b with
 |int i =>
  cases c;cases q;exact Nu h s n H _ v Q I a ⟨i,rfl,p H r _ Ext.refl G0 (by simp[Rel])⟩
 |_=>cases q
mutual
noncomputable def flat:D->Bool
 |.ref _=>false|.dU=>false|.aA _=>false|.fn _ _=>false|.tup c=>aO c|.lst c=>aO c|_=>true
noncomputable def aO:List D->Bool
 | []=>true|d::ds=>flat d&&aO ds
end
mutual
noncomputable def bq:D->D->Bool
 |.aB,d=>match d with|.aB=>true|_=>false
 |.bl a,d=>match d with|.bl b=>a == b|.int b=>(if a then 1 else 0)== b|_=>false
 |.int a,d=>match d with|.bl b=>a == (if b then 1 else 0)|.int b=>a == b|_=>false
 |.str a,d=>match d with|.str b=>a == b|_=>false
 |.tup c,d=>match d with|.tup g=>gY c g|_=>false
 |.lst c,d=>match d with|.lst g=>gY c g|_=>false
 |_,_=>false
noncomputable def gY:List D->List D->Bool
 | [],[]=>true|x::c,y::g=>bq x y&&gY c g|_,_=>false
end
mutual
noncomputable def dep:D->Nat
 |.tup c=>bF c+1|.lst c=>bF c+1|_=>0
noncomputable def bF:List D->Nat
 | []=>0|d::ds=>max (dep d) (bF ds)
end
mutual
theorem kW:∀d:D,flat d=true->bq d d=true
 |.aB,_=>by simp[bq]|.bl _,_=>by simp[bq]|.int _,_=>by simp[bq]|.str _,_=>by simp[bq]|.tup c,h=>by simp only[bq];exact oT c h|.lst c,h=>by simp only[bq];exact oT c h
theorem oT:∀ds:List D,aO ds=true->gY ds ds=true
 | [],_=>by simp[gY]|d::ds,h=>by simp only[aO,nc]at h;simp only[gY,nc];exact⟨kW d h.1,oT ds h.2⟩
end
theorem qY:∀c g:List D,gY c g=((sv (min c.length g.length)).all (λj=>bq (c[j]?.getD .aB) (g[j]?.getD .aB))&&c.length == g.length)
 | [],[]=>by simp[gY]| [],y::g=>by simp[gY]|x::c,[]=>by simp[gY]|x::c,y::g=>by simp only[gY,qY c g,xk,Nat.succ_min_succ,agC,Z_,adF,ahZ,List.all_map,Ru,List.getElem?_cons_succ];rw[Bool.and_assoc];congr 2;simp
def pS {g:List V}(I:mH X b y H c)(h:fJ X.kw H f U)(i:dQ X.kw H f g):False:=by obtain⟨e,_,n,_⟩:=I.tuple h;obtain⟨p,_,d,_⟩:=I.list i;exact SeqAt.ne_of_list_tuple d.isList n rfl
mutual
theorem Rel.inj {J:List (Addr×Obj)}{M:m6}{H:Hp}{s:mJ}{B:Ix}(I:mH X J M H s):∀(O g:D) {v:V},flat O=true->flat g=true->Rel X.kw H B O v->Rel X.kw H B g v->O=g
 |.aB,g,v,_,p,r,q=>by cases r;cases g<;>simp_all[Rel,flat]|.bl _,g,v,_,p,r,q=>by cases r;cases g<;>simp_all[Rel,flat]|.int _,g,v,_,p,r,q=>by cases r;cases g<;>simp_all[Rel,flat]|.str _,g,v,_,p,r,q=>by cases r;cases g<;>simp_all[Rel,flat]
 |.tup Q,g,v,u,p,r,q=>by
  obtain⟨a,i,rfl,c,f⟩:=r;cases g with
  |tup C =>
   obtain⟨h,R,e,b,d⟩:=q;cases e;have:=I.oH c.sq b.sq;subst this;rw[ai.inj I Q C u p f d]
  |lst C =>
   obtain⟨h,R,e,b,d⟩:=q;cases e;exact(pS I c.sq b.sq).elim
  |dU=>cases p|ref n=>cases p|aA n=>cases p|fn x=>cases p|_=>simp[Rel]at q
 |.lst Q,g,v,u,p,r,q=>by
  obtain⟨a,i,rfl,c,f⟩:=r;cases g with
  |lst C =>
   obtain⟨h,R,e,b,d⟩:=q;cases e;have:=I.qQ c.sq b.sq;subst this;rw[ai.inj I Q C u p f d]
  |tup C =>
   obtain⟨h,R,e,b,d⟩:=q;cases e;exact(pS I b.sq c.sq).elim
  |dU=>cases p|ref n=>cases p|aA n=>cases p|fn x=>cases p|_=>simp[Rel]at q
 |.dU,g,v,u,_,_,_=>by cases u|.ref _,g,v,u,_,_,_=>by cases u|.aA _,g,v,u,_,_,_=>by cases u|.fn _ _,g,v,u,_,_,_=>by cases u
theorem ai.inj {J:List (Addr×Obj)}{M:m6}{H:Hp}{s:mJ}{B:Ix}(I:mH X J M H s):∀(ds y:List D) {E:List V},aO ds=true->aO y=true->ai X.kw H B ds E->ai X.kw H B y E->ds=y
 | [],y,E,_,_,r,q=>by
  cases r;cases y with
  |nil=>rfl|cons e y=>simp[ai]at q
 |d::ds,y,E,u,p,r,q=>by
  obtain⟨v,l,rfl,a,b⟩:=r;cases y with
  |nil=>simp[ai]at q
  |cons e y =>
   obtain⟨j,f,h,c,i⟩:=q;cases h;simp only[aO,nc]at u p;rw[Rel.inj I d e u.1 p.1 a c,ai.inj I ds y u.2 p.2 b i]
end
def Rel.zZ {K H ι d v b t}(r:Rel K H ι d v)(f:m5 v (.float b t)):False:=by
 cases d with
 |aB=>cases r;cases f|bl _=>cases r;cases f|int _=>cases r;obtain⟨t,e⟩:=f;cases e
 |str _=>cases r;obtain⟨t,e⟩:=f;cases e
 |tup _=>obtain⟨a,c,rfl,_⟩:=r;cases f
 |lst _=>obtain⟨a,c,rfl,_⟩:=r;cases f
 |dU=>obtain⟨a,rfl,_⟩:=r;cases f
 |ref _=>obtain⟨a,rfl,_⟩:=r;cases f
 |aA _=>obtain⟨a,rfl,_⟩:=r;cases f
 |fn _=>obtain⟨a,_,rfl,_⟩:=r;cases f
def in1_units (A:qr):A.in1.units=A.units+1:=rfl
section
open SeqAt
def sH {v:Value}(h:RcAt J c T v Y)(e:T=v->Y=true)(d:∀b t,T ≠ .float b t):EqAt J c T v Y:=λprog w E Q a=>by
 unfold eqBool;refine v3 ?_;refine EY (λA=>?_) (λ_=>?_)
 . rw[e (eq_of_beq A)]at a
   exact mA (DF (mT a))
 . cases T with
   |float b t=>exact absurd rfl (d b t)|_=>exact mA (h prog w E _ (adp a))
inductive Kd (s:mJ):D->Value->Prop
 |aB:Kd s .aB .none
 |bl:∀b,Kd s (.bl b) (.bool b)
 |int:∀b t,Kd s (.int b) (.int b t)
 |str:∀b t,Kd s (.str b) (.str b t)
 |tup:∀xs a aq,s.heap.IsTuple a aq->Kd s (.tup xs) (.ref a)
 |lst:∀xs a aq,s.heap.IsList a aq->Kd s (.lst xs) (.ref a)
def kd {i:Ix}(I:mH X b y H c){d:D}(f:flat d=true)(r:Rel X.kw H i d g)(h:m5 g T):Kd c d T:=by
 cases d with
 |aB=>cases r;cases h;exact .aB|bl x=>cases r;cases h;exact .bl x|int x=>cases r;obtain⟨t,rfl⟩:=h;exact .int x t
 |str x=>cases r;obtain⟨t,rfl⟩:=h;exact .str x t
 |tup _=>obtain⟨a,_,rfl,q,_⟩:=r;cases h;obtain⟨_,_,t,_⟩:=I.tuple q.sq;exact .tup _ _ _ t
 |lst _=>obtain⟨a,_,rfl,q,_⟩:=r;cases h;obtain⟨_,_,t,_⟩:=I.list q.sq;exact .lst _ _ _ t.isList
 |_=>cases f
noncomputable def mix:D->D->Bool
 |.tup _,.tup _=>false|.lst _,.lst _=>false|_,_=>true
set_option maxHeartbeats 4000000 in
def hZ {a b : D}{v: Value}(A : Kd c a T)(g : Kd c b v)(m : mix a b = true)(hu : J.units + dep a < cLine): RcAt J c T v (bq a b) /\ RcNeAt J c T v (!bq a b):= by
 have hu : J.units < cLine := by lia
 cases A <;> cases g <;> first
   | (cases m; done)
   | (simp only[bq, aea, agN]
      with_reducible constructor <;> first
       |exact .none_none
       |exact .none_bool _
       |exact .none_int _ _
       |exact .none_str _ _
       |exact .none_tuple ‹_› (by lia)
       |exact .none_list ‹_› (by lia)
       |exact .bool_none _
       |exact .bool_bool _ _
       |exact .bool_int _ _ _
       |exact .bool_str _ _ _
       |exact .bool_tuple _ ‹_› (by lia)
       |exact .bool_list _ ‹_› (by lia)
       |exact .int_none _ _
       |exact .int_bool _ _ _
       |exact .int_int _ _ _ _
       |exact .int_str _ _ _ _
       |exact .int_tuple _ _ ‹_› (by lia)
       |exact .int_list _ _ ‹_› (by lia)
       |exact .str_none _ _
       |exact .str_bool _ _ _
       |exact .str_int _ _ _ _
       |exact .str_str _ _ _ _
       |exact .str_tuple _ _ ‹_› (by lia)
       |exact .str_list _ _ ‹_› (by lia)
       |exact .tuple_none ‹_› (by lia)
       |exact .tuple_bool _ ‹_› (by lia)
       |exact .tuple_int _ _ ‹_› (by lia)
       |exact .tuple_str _ _ ‹_› (by lia)
       |exact .tuple_list ‹_› ‹_› (by lia)
       |exact .list_none ‹_› (by lia)
       |exact .list_bool _ ‹_› (by lia)
       |exact .list_int _ _ ‹_› (by lia)
       |exact .list_str _ _ ‹_› (by lia)
       |exact .list_tuple ‹_› ‹_› (by lia))
section
variable {ι:Ix}
mutual
theorem IX (I:mH X b y H c):∀(d1 R:D) {A:qr} {x s:V} {u v:Value},flat d1=true->flat R=true->Rel X.kw H ι d1 x->Rel X.kw H ι R s->m5 x u->m5 s v->A.units+dep d1<cLine->RcAt A c u v (bq d1 R)/\RcNeAt A c u v (!bq d1 R)
 |.tup J,R,A,x,s,u,v,E,M,O,U,Q,rv,hu=>by
  cases R with
  |tup C =>
   obtain⟨a,Y,rfl,hq,r⟩:=O;cases Q;obtain⟨q,gj,l,_⟩:=I.tuple hq.sq;obtain⟨a',Z,rfl,ck,eT⟩:=U;cases rv;obtain⟨i,z,p,_⟩:=I.tuple ck.sq;simp only[dep]at hu;simp only[bq,qY];rw[show J.length=q.toArray.size by rw[pd,<- gj.length];exact r.length,show C.length=i.toArray.size by rw[pd,<- z.length];exact eT.length];have k:=uf I J C (A:=A.in1) E M r eT gj z (by rw[in1_units];lia);exact⟨.tuples l p (by lia) λj o n=>by simpa using k j (by simpa using o) (by simpa using n),.tuples l p (by lia) λj o n=>by simpa using k j (by simpa using o) (by simpa using n)⟩
  |_=>exact hZ (kd I E O Q) (kd I M U rv) rfl hu
 |.lst J,R,A,x,s,u,v,E,M,O,U,Q,rv,hu=>by
  cases R with
  |lst C =>
   obtain⟨a,Y,rfl,hq,r⟩:=O;cases Q;obtain⟨q,gj,l,_⟩:=I.list hq.sq;obtain⟨a',Z,rfl,ck,eT⟩:=U;cases rv;obtain⟨i,z,p,_⟩:=I.list ck.sq;simp only[dep]at hu;simp only[bq,qY];rw[show J.length=q.toArray.size by rw[pd,<- gj.length];exact r.length,show C.length=i.toArray.size by rw[pd,<- z.length];exact eT.length];by_cases hs:q.toArray.size=i.toArray.size
   . rw[show(q.toArray.size == i.toArray.size)=true by simpa using hs,Bool.and_true,<- hs,Nat.min_self]
     have k:=uf I J C (A:=A.in1) E M r eT gj z (by rw[in1_units];lia);exact⟨.lists l.isList p.isList hs (by lia) λj o n=>by simpa using k j (by simpa using o) (by simpa using n),.lists l.isList p.isList hs (by lia) λj o n=>by simpa using k j (by simpa using o) (by simpa using n)⟩
   . rw[show(q.toArray.size == i.toArray.size)=false by simpa using hs,aiw,agN]
     exact⟨.lists_lengths l.isList p.isList (by simpa using hs) (by lia),.lists_lengths l.isList p.isList (by simpa using hs) (by lia)⟩
  |_=>exact hZ (kd I E O Q) (kd I M U rv) rfl hu
 |.aB,_,_,_,_,_,_,a,B,g,d,e,f,h=>hZ (kd I a g e) (kd I B d f) rfl h|.bl _,_,_,_,_,_,_,a,B,g,d,e,f,h=>hZ (kd I a g e) (kd I B d f) rfl h|.int _,_,_,_,_,_,_,a,B,g,d,e,f,h=>hZ (kd I a g e) (kd I B d f) rfl h|.str _,_,_,_,_,_,_,a,B,g,d,e,f,h=>hZ (kd I a g e) (kd I B d f) rfl h|.dU,_,_,_,_,_,_,a,B,g,d,e,f,h=>hZ (kd I a g e) (kd I B d f) rfl h|.ref _,_,_,_,_,_,_,a,B,g,d,e,f,h=>hZ (kd I a g e) (kd I B d f) rfl h|.aA _,_,_,_,_,_,_,a,B,g,d,e,f,h=>hZ (kd I a g e) (kd I B d f) rfl h|.fn _ _,_,_,_,_,_,_,a,B,g,d,e,f,h=>hZ (kd I a g e) (kd I B d f) rfl h
theorem uf (I:mH X b y H c):∀(J C:List D) {A:qr} {Y Z:List V} {us zs:List Value},aO J=true->aO C=true->ai X.kw H ι J Y->ai X.kw H ι C Z->Vals Y us->Vals Z zs->A.units+bF J<cLine ->
  ∀(j:Nat) (h1:j<us.length) (h2:j<zs.length),EqAt A c us[j] zs[j] (bq (J[j]?.getD .aB) (C[j]?.getD .aB))
 | [],C,A,Y,Z,us,zs,_,_,O,_,Q,_,_,j,h1,_=>by cases O;cases Q;simp at h1
 |d::ds,C,A,Y,Z,us,zs,E,M,O,U,Q,rz,hu,j,h1,h2=>by
  obtain⟨v,o,rfl,a,h⟩:=O;simp only[bF]at hu;simp only[aO,nc]at E;cases Q with
  |cons IY rur =>
   cases C with
   |nil=>cases U;cases rz;simp at h2
   |cons e es =>
    obtain⟨w,wr,rfl,hw,g⟩:=U;simp only[aO,nc]at M;cases rz with
    |cons UW rzr =>
     cases j with
     |zero =>
      have rc:=(IX I d e (A:=A) E.1 M.1 a hw IY UW (by lia)).1;simp only[List.getElem_cons_zero,adF,ahZ];refine sH rc (λf=>?_) (λB t i=>Rel.zZ a (by rw[i]at IY;exact IY));subst f;have l:=IY.inj UW;subst l;have n:=Rel.inj I d e E.1 M.1 a hw;subst n;exact kW d E.1
     |succ j =>
      have:=uf I ds es (A:=A) E.2 M.2 h g rur rzr (by lia) j (by simpa using h1) (by simpa using h2);simpa using this
end
end
end
def oEq (a b:D)(g:G):Option (D×G):=if(flat a&&flat b&&decide (dep a<=60))=true then some (.bl (bq a b),g)else none
def SK (hu:X.A.units+64<cLine):bO X (wR .Eq) (dW X.kw oEq):=by
 intro r s B H x y v u Q I a e q;obtain⟨n,g,h,f,d,i,G0,b,c,q,p⟩:=q;unfold oEq at q;split at q
 . rename_i z
   simp only[nc,decide_eq_true_eq]at z;cases q;exact(IX I h f z.1.1 z.1.2 b c a e (by lia)).1 _ _ _ _ ⟨.bl _,H,I,rfl,p H n _ Ext.refl G0 (by simp[Rel])⟩
 . cases q
noncomputable def sM:D->Bool
 |.aB=>true|_=>false
def GQ (b a:D)(g:G):Option (D×G):=match a with|.aB=>some (.bl (sM b),g)|_=>none
def K5 {K H ι d v}(r:Rel K H ι d v):decide (v=V.aB)=sM d:=by
 cases d with
 |aB=>cases r;rfl|bl _=>cases r;rfl|int _=>cases r;rfl|str _=>cases r;rfl|tup _=>obtain⟨a,b,rfl,_⟩:=r;rfl
 |lst _=>obtain⟨a,b,rfl,_⟩:=r;rfl
 |dU=>obtain⟨a,rfl,_⟩:=r;rfl
 |ref _=>obtain⟨a,rfl,_⟩:=r;rfl
 |aA _=>obtain⟨a,rfl,_⟩:=r;rfl
 |fn _=>obtain⟨a,_,rfl,_⟩:=r;rfl
def OL:bO X (wR .Is) (dW X.kw GQ):=by
 intro n s r H x y v u Q I a e q;obtain⟨B,g,i,f,d,h,G0,b,c,q,p⟩:=q;cases f with
 |aB =>
  cases c;simp only[GQ]at q;cases q;exact Nw n s r H _ _ v u Q I a e ⟨rfl,by rw[K5 b];exact p H B _ Ext.refl G0 (by simp[Rel])⟩
 |_=>cases q
noncomputable def bb (d:D)(g:G):Option (List D):=match d with
 |.tup c=>some c|.lst c=>some c|.ref n=>g[n]?|_=>none
def lL {K H ι g d v xs}(G0:aw K H ι g)(r:Rel K H ι d v)(h:bb d g=some xs):∃a p,v = .ref a/\(dQ K H a p\/fJ K H a p)/\ai K H ι xs p:=by
 cases d with
 |tup q=>cases h;obtain⟨a,p,rfl,c,b⟩:=r;exact⟨a,p,rfl,.inr c.sq,b⟩
 |lst q=>cases h;obtain⟨a,p,rfl,c,b⟩:=r;exact⟨a,p,rfl,.inl c.sq,b⟩
 |ref n =>
  obtain⟨a,rfl,f⟩:=r;obtain⟨p,e,i⟩:=G0.at h f;exact⟨a,p,rfl,.inl (.of e),i⟩
 |_=>cases h
def fj (b a:D)(g:G):Option (D×G):=match a with
 |.int i=>(bb b g).bind λc=>(cJ c i).map λd=>(d,g)|_=>none
def K6 {K H ι}{g:List D}{d:D}(r:ai K H ι g U)(h:cJ g i=some d):∃v,cJ U i=some v/\Rel K H ι d v:=by unfold cJ at h ⊢;rw[<- r.length];obtain⟨j,b,e⟩:=bind_some h;obtain⟨v,a,c⟩:=r.get e;exact⟨v,by rw[b];exact a,c⟩
def K7:n6 X (dW X.kw fj):=by
 intro value slice B s C H x y v u Q I c l q f;obtain⟨E,g,R,J,d,U,G0,r,M,q,p⟩:=q;cases J with
 |int i =>
  cases M;simp only[fj]at q;obtain⟨O,z,q⟩:=bind_some q;cases h2:cJ O i with
  |none=>rw[h2]at q;cases q
  |some e =>
   rw[h2]at q;cases q;obtain⟨a,j,rfl,b,n⟩:=lL G0 r z;obtain⟨w,h,o⟩:=K6 n h2;have fin:=p H E w Ext.refl G0 o;rcases b with b|b
   . exact Dj value slice B s C H _ _ v u Q I c l (.inl ⟨a,j,i,w,rfl,rfl,b,h,fin⟩) f
   . exact Dj value slice B s C H _ _ v u Q I c l (.inr (.inl ⟨a,j,i,w,rfl,rfl,b,h,fin⟩)) f
 |_=>cases q
def bL (ds:List D)(g:G):Option (D×G):=match ds with| [d]=>(bb d g).map λc=>(.int c.length,g)|_=>none
def OM:dY X (.builtin "len") (mF X.kw bL):=by
 intro n s u H C x Q I r q;obtain⟨y,g,ds,d,j,G0,f,q,p⟩:=q;cases ds with
 |nil=>cases q|cons e B =>
 cases B with
 |cons _ _=>cases q
 |nil =>
  simp only[bL]at q;cases hx:bb e g with
  |none=>rw[hx]at q;cases q
  |some E =>
   rw[hx]at q;cases q;obtain⟨v,_,rfl,c,rfl⟩:=f;obtain⟨a,h,rfl,i,b⟩:=lL G0 c hx;exact wO n s u H _ x Q I r ⟨a,h,rfl,i,by rw[<- b.length];exact p H y _ Ext.refl G0 (by simp[Rel])⟩
noncomputable def me (ds:List D)(g:G):Option (D×G):=match ds with| [.int i,.int j]=>some (.int (if j<i then j else i),g)|_=>none
def ON (c:X.calm=true):dY X (.builtin "min") (mF X.kw me):=by
 intro h s i H v n Q I r q;obtain⟨u,g,ds,d,b,G0,a,q,p⟩:=q;unfold me at q;split at q
 . cases q
   obtain⟨_,_,rfl,rfl,_,_,rfl,rfl,rfl⟩:=a;exact Dd c h s i H _ n Q I r ⟨_,_,rfl,p H u _ Ext.refl G0 (by simp[Rel])⟩
 . cases q
noncomputable def iZ (ds:List D)(g:G):Option (D×G):=match ds with| [.int i]=>some (.int i,g)| [.bl k]=>some (.int (if k then 1 else 0),g)|_=>none
def OO:dY X (.type "int") (mF X.kw iZ):=by
 intro c s h H u i Q I r q;obtain⟨n,g,ds,d,b,G0,a,q,p⟩:=q;unfold iZ at q;split at q
 . cases q
   obtain⟨_,_,rfl,rfl,rfl⟩:=a;exact uQ c s h H _ i Q I r (.inl ⟨_,rfl,p H n _ Ext.refl G0 (by simp[Rel])⟩)
 . cases q
   obtain⟨_,_,rfl,rfl,rfl⟩:=a;exact uQ c s h H _ i Q I r (.inr ⟨_,rfl,p H n _ Ext.refl G0 (by simp[Rel])⟩)
 . cases q
def gZ (ds:List D)(g:G):Option (D×G):=match ds with| [d]=>(bb d g).bind λc=>if az c.length=true then some (.tup c,g)else none|_=>none
def OP:dY X (.type "tuple") (mF X.kw gZ):=by
 intro C s E H U J Q I r q;obtain⟨M,g,ds,d,Y,G0,u,q,p⟩:=q;cases ds with
 |nil=>cases q|cons e O =>
 cases O with
 |cons _ _=>cases q
 |nil =>
  simp only[gZ]at q;obtain⟨Z,h,q⟩:=bind_some q;split at q
  . rename_i z
    cases q;obtain⟨v,_,rfl,f,rfl⟩:=u;cases e with
    |tup zs =>
     cases h;obtain⟨a,B,rfl,b,i⟩:=f;exact n8 C s E H _ J Q I r ⟨a,B,rfl,.inr ⟨b.sq,p H M _ Ext.refl G0 (by simp only[Rel];exact⟨a,B,rfl,b,i⟩)⟩⟩
    |_ =>
     obtain⟨a,B,rfl,b,i⟩:=lL G0 f h;have n:dQ X.kw H a B:=by
      rcases b with b|b
      . exact b
      . exfalso
        first
         | (cases h;done)
         | (obtain⟨o,IZ,j,y,_⟩:=f;cases j;exact pS I b y.sq)
         | (obtain⟨o,j,R⟩:=f;cases j;obtain⟨ws,x,h2⟩:=G0.at h R;exact pS I b (.of x))
     refine n8 C s E H _ J Q I r ⟨a,B,rfl,.inl ⟨n,λl c=>p _ _ _ (Ext.lay c) (G0.lay c) ?_⟩⟩;simp only[Rel];exact⟨l,B,rfl,.inl ⟨.inl aQ,G0.fresh c⟩,ai.ext (Ext.lay c) _ i⟩
  . cases q
end
inductive Ty|int|bool|str|tuple|list|dict
noncomputable def Ty.name:Ty->String
 |.int=>"int"|.bool=>"bool"|.str=>"str"|.tuple=>"tuple"|.list=>"list"|.dict=>"dict"
noncomputable def lM:Ty->D->Bool
 |.int,.int _=>true|.int,.bl _=>true|.bool,.bl _=>true|.str,.str _=>true
 |.tuple,.tup _=>true|.list,.lst _=>true|.list,.ref _=>true|.dict,.dU=>true|.dict,.aA _=>true
 |_,_=>false
noncomputable def HL:D->Bool
 |.fn _ _=>true|_=>false
def BR (T:Ty)(f:FE):FE:=λc g=>(f c g).bind λr=>if HL r.1=true then none else some (.bl (lM T r.1),r.2)
def baq {R:List (Addr×Obj)}{M:Ix}{x:G}{d:D}(E:Ty)(I:mH X R y H c)(G0:aw X.kw H M x)(r:Rel X.kw H M d g)(C:HL d=false)(B:m5 g T)(h:∀U,Q (.bool (lM E d)) { c with toks:=U }):
  wpAny (model X.prog X.w) X.A (call (.builtin "isinstance") [T,.type E.name]) Q X.xe c:=by
 cases d with
 |aB=>cases r;cases B;exact Sx PySem.W.kitx_none I.g_ af5 (b:=lM E .aB) (by cases E<;>rfl) (λz=>nomatch z) h|bl b=>cases r;cases B;exact Sx PySem.W.kitx_bool I.g_ af5 (b:=lM E (.bl b)) (by cases E<;>rfl) (λz=>nomatch z) h|int b=>cases r;obtain⟨t,rfl⟩:=B;exact Sx PySem.W.kitx_int I.g_ af5 (b:=lM E (.int b)) (by cases E<;>rfl) (λz=>nomatch z) h
 |str b=>cases r;obtain⟨t,rfl⟩:=B;exact Sx PySem.W.kitx_str I.g_ af5 (b:=lM E (.str b)) (by cases E<;>rfl) (λz=>nomatch z) h
 |tup J =>
  obtain⟨a,j,rfl,q,hr⟩:=r;cases B;obtain⟨O,_,⟨o,e,f,_⟩,_⟩:=I.tuple q.sq;exact Sx PySem.W.kitx_tuple I.g_ ⟨o,e,f⟩ (b:=lM E (.tup J)) (by cases E<;>rfl) (λz=>nomatch z) h
 |lst J =>
  obtain⟨a,j,rfl,q,hr⟩:=r;cases B;obtain⟨O,_,⟨o,n,e,f,_⟩,_⟩:=I.list q.sq;exact Sx ahH I.g_ ⟨o,e,f⟩ (b:=lM E (.lst J)) (by cases E<;>rfl) (λz=>nomatch z) h
 |ref n =>
  obtain⟨a,rfl,i⟩:=r;cases B;have l:n<x.length:=by rw[<- G0.len];exact(nz.mp i.1).1
  obtain⟨j,e,f⟩:=G0.at (nP l) i;obtain⟨O,_,⟨o,n,e,f,_⟩,_⟩:=I.list (dQ.of e);exact Sx ahH I.g_ ⟨o,e,f⟩ (b:=true&&lM E (.lst [])) (by cases E<;>rfl) (λz=>nomatch z) (by cases E<;>exact h)
 |dU =>
  obtain⟨a,rfl,i,_⟩:=r;cases B;obtain⟨_,_,j,_,p⟩:=(show dX X.prog X.w H c.heap a (.dK []) from I.aW a _ i)
  obtain⟨o,v,Y,e,f,_⟩:=p;exact Sx ahI I.g_ ⟨o,e,f.1⟩ (b:=lM E .dU) (by cases E<;>rfl) (λz=>nomatch z) h
 |aA n =>
  obtain⟨a,rfl,i⟩:=r;cases B;have l:n<x.length:=by rw[<- G0.len];exact(nz.mp i.1).1
  obtain⟨v,j,s,e,_⟩:=G0.sk (nP l) i;have f:=((show dX X.prog X.w H c.heap a (dO a v s) from I.aW a _ e)).1;exact Sx ahI I.g_ ⟨_,f,rfl⟩ (b:=lM E (.aA n)) (by cases E<;>rfl) (λz=>nomatch z) h
 |fn u=>cases C
def OQ {K:FE}(T:Ty)(M:X.mg "isinstance" = none)(C:X.mg (th T.name)=none)(N:DE X e K)(L:Gl X "isinstance")(A:Gl X (th T.name))(J:nN [e,.Name (th T.name) B] X.env=(false,eval e X.env)::nN [.Name (th T.name) B] X.env):DE X (.Call (.Name "isinstance" j) [e,.Name (th T.name) B] [] t) (BR T K):=.of (by
 have z:NW (th T.name)=some (.type T.name):=by
   cases T
   . exact aij
   . exact PyProof.Rows.boot_bool
   . exact PyProof.Rows.boot_str
   . exact ahR
   . exact PyProof.Rows.boot_list
   . exact PyProof.Rows.boot_dict
 have f:dY X (.builtin "isinstance") (λO H Q=>∃x E g d,O = [x,.ty T.name]/\aw X.kw H E g/\Rel X.kw H E d x/\HL d=false/\Q (.bl (lM T d)) H):=by intro cv s R H O us Q I r q;obtain⟨x,E,g,d,rfl,G0,U,nf,q⟩:=q;obtain⟨u,w',rfl,a,o⟩:=baj r;cases o;exact baq T I G0 U nf a λtk=>⟨.bl _,H,I.tok _,rfl,q⟩
 refine PE.imp (wL f L M PyProof.Rows.boot_isinstance (iD N.un (iD (J9 (v:=.ty T.name) A C z rfl (by cases T<;>decide) (by cases T<;>decide)) my (by rfl)) J) (by decide) (by decide) J) λR H Q h=>?_;obtain⟨E,Y,g,d,y,G0,l,h,j⟩:=h;obtain⟨⟨Z,g1⟩,p,h⟩:=bind_some h;dsimp only at h;split at h
 . cases h
 rename_i nf;cases h;exact tD.bind G0 l p λH1 c v n b S1 i=>⟨v,c,y,Z,rfl,b,i,by simpa using nf,j H1 c _ n b (by simp[Rel])⟩)
end
variable {A j:List D}{a:G}{h:Fn}{v:D}{l:Sg}{K:FE}{Z:FS}
section
open PyProof.Rows
open Sem (wp)
open Builtin
variable {Z:TO}
def bas (l b:Addr)(y x:Array Value)(n v:Nat)(o p:Option Addr)(u q:Array (Option Value))(r:y.isEmpty=true):
  Meets (u3.«tuple.__add__» ⟨[.ref l,.ref b],[]⟩) (λ_ R s=>s.heap.get? l=some { cls:=.type "tuple",dict:=o,data:=.seq y n,slots:=u }/\s.heap.get? b=some { cls:=.type "tuple",dict:=p,data:=.seq x v,slots:=q }/\R (.ok (.ret (FY b))) { s with heap:=s.heap,toks:=s.toks }):=
 .of_wp λprog w A R s h=>by obtain⟨e,g,d,f,os⟩:=s;obtain⟨a,c,h⟩:=h;have B:=adB;have C:=ac3;have j:=aeI;have E:=agp;have i:=agq;wp_walk using Qs a,Qs c;exact⟨_,rfl,h⟩
def qZ:fillsNumberSlot (.type "tuple") "mul" = pure false :=
 af6 (id:="tuple.__mul__") (r:=some (.builtin "tuple.__rmul__")) F.slot_tuple_mul.lookup (by decide +kernel) F.slot_tuple_rmul.lookup (by decide +kernel)
def xj:ag1 (.type "tuple")=pure (some (.builtin "tuple.__mul__")):=by unfold ag1;rw[aeR (T:="tuple") (name:="__mul__") (id:="tuple.__mul__") F.slot_tuple_mul.lookup (by decide +kernel),aeR (T:="tuple") (name:="__rmul__") (id:="tuple.__rmul__") F.slot_tuple_rmul.lookup (by decide +kernel)];rfl
def vL (a:Int)(t:Tok)(l:Addr)(p:Array Value)(n:Nat)(f:Option Addr)(i:Array (Option Value)):
  Meets (u3.«int.__mul__» ⟨[.int a t,.ref l],[]⟩) (λ_ R s=>s.heap.get? l=some { cls:=.type "tuple",dict:=f,data:=.seq p n,slots:=i }/\R (.ok (.ret ag2)) s):=
 .of_wp λprog w A R s h=>by obtain⟨b,g,d,c,os⟩:=s;obtain⟨e,h⟩:=h;wp_walk;exact⟨_,rfl,h⟩
def BS (l:Addr)(v:Array Value)(n:Nat)(e:Option Addr)(f:Array (Option Value))(x:Int)(u:Tok)(j:¬(decide (x < -(2 ^ 63))||decide (x>=2 ^ 63))=true)(p:¬(v.isEmpty||x == 1)=true)(r:¬(decide (x<=0)||v.isEmpty)=true)
  (i:¬(v.size:Int)*x>(2 ^ 63-1) / 8) (o:¬agD ((v.size:Int)*x)=true) (q:((nW x.toNat v).foldl (· ++ ·) #[]).size<=nE):
  Meets (u3.«tuple.__mul__» ⟨[.ref l,.int x u],[]⟩) (λ_ R s=>s.heap.get? l=some { cls:=.type "tuple",dict:=e,data:=.seq v n,slots:=f }/\R (.ok (.ret (FY s.heap.objs.size))) { s with heap:=s.heap.push { cls:=wz "tuple",data:=Data.seq ((nW x.toNat v).foldl (· ++ ·) #[]) },toks:=s.toks }):=
 .of_wp λprog w A R s h=>by
  obtain⟨b,g,d,c,os⟩:=s;obtain⟨a,h⟩:=h;have y:=adB;have B:=ac3
  wp_walk using Qs a
  refine aeh (decide_eq_false j) ?_
  wp_walk using Qs a
  refine aeh (decide_eq_false i) ?_
  wp_walk using Qs a
  exact⟨_,rfl,h⟩
def zt (l:Addr)(p:Array Value)(n:Nat)(e:Option Addr)(f:Array (Option Value))(x:Int)(u:Tok)(i:¬(decide (x < -(2 ^ 63))||decide (x>=2 ^ 63))=true)(j:(p.isEmpty||x == 1)=true):
  Meets (u3.«tuple.__mul__» ⟨[.ref l,.int x u],[]⟩) (λ_ R s=>s.heap.get? l=some { cls:=.type "tuple",dict:=e,data:=.seq p n,slots:=f }/\R (.ok (.ret (FY l))) { s with heap:=s.heap,toks:=s.toks }):=
 .of_wp λprog w A R s h=>by
  obtain⟨b,g,d,c,os⟩:=s;obtain⟨a,h⟩:=h;have q:=adB;have r:=ac3
  wp_walk using Qs a
  refine aeh (decide_eq_false i) ?_
  wp_walk using Qs a
  exact⟨_,rfl,h⟩
def zu (l:Addr)(p:Array Value)(n:Nat)(e:Option Addr)(f:Array (Option Value))(x:Int)(u:Tok)(i:¬(decide (x < -(2 ^ 63))||decide (x>=2 ^ 63))=true)(j:¬(p.isEmpty||x == 1)=true)(o:(decide (x<=0)||p.isEmpty)=true):
  Meets (u3.«tuple.__mul__» ⟨[.ref l,.int x u],[]⟩) (λ_ R s=>s.heap.get? l=some { cls:=.type "tuple",dict:=e,data:=.seq p n,slots:=f }/\R (.ok (.ret (FY s.heap.objs.size))) { s with heap:=s.heap.push { cls:=wz "tuple",data:=Data.seq #[] },toks:=s.toks }):=
 .of_wp λprog w A R s h=>by
  obtain⟨b,g,d,c,os⟩:=s;obtain⟨a,h⟩:=h;have q:=adB;have r:=ac3
  wp_walk using Qs a
  refine aeh (decide_eq_false i) ?_
  wp_walk using Qs a
  exact⟨_,rfl,h⟩
def SM (K:KW):R2:=λx y H Q=>∃a k c,x = .int k/\y = .ref a/\fJ K H a c /\ -(2 ^ 63)<=k/\k<2 ^ 63/\c.length*k.toNat<=16777216 /\
 ((c = []\/k=1)->Q (.ref a) H)/\(c ≠ []->k<=0->∀p,H p=none->Q (.ref p) (upd H p (.tup [])))/\(c ≠ []->2<=k->∀p,H p=none->Q (.ref p) (upd H p (.tup (nW k.toNat c).flatten)))
def K8:bO X (tA .Mult) (SM X.kw):=by
 intro cv s σ H x y v u Q I M O h;obtain⟨a,k,B,rfl,rfl,hq,h1,h2,o,R,Y,Z⟩:=h;cases O;obtain⟨t,rfl⟩:=M;obtain⟨c,r,ht,ab⟩:=I.tuple hq;have z:=r.length;obtain⟨⟨cls,f,data,i⟩,d,hc,n,hd⟩:=id ht;simp only at hc hd;subst hc hd;have l:¬(decide (k < -(2 ^ 63))||decide (k>=2 ^ 63))=true:=by rw[zg,decide_eq_true_eq,decide_eq_true_eq];lia
 refine PySem.lm_binaryOp_repeat_right (T:="tuple") (U:="int") (by decide) (λs'=>af2 s' k t) ⟨_,d,rfl⟩ F.fills_int_mul qZ F.slot_int_mul PySem.lm_noRepeat_int xj F.slot_int_index.lookup
   (UH F.slot_int_mul (af2 s k t) F.entry_int_mul (F.args_int_mul_2 _ _) (vL k t a c.toArray n f i) ⟨d,rfl,⟨_,d,rfl⟩,?_⟩)
 by_cases g:B = []\/k=1
 . refine UH F.slot_tuple_mul ⟨_,d,rfl⟩ F.entry_tuple_mul (F.args_tuple_mul_2 _ _) (zt a c.toArray n f i k t l ?_) ⟨d,.ref a,H,I,rfl,R g⟩
   rcases g with g|g
   . subst g
     cases r;simp
   . subst g;simp
 . have j:B ≠ []:=λe=>g (.inl e)
   have D6:k≠1:=λe=>g (.inr e);have E:c ≠ []:=λe=>j (by subst e;cases r;rfl);have n1:¬(c.toArray.isEmpty||k == 1)=true:=by simp[E,D6]
   have fresh:H s.heap.objs.size=none:=I.aW.fresh (nA _);by_cases C:k<=0
   . refine UH F.slot_tuple_mul ⟨_,d,rfl⟩ F.entry_tuple_mul (F.args_tuple_mul_2 _ _) (zu a c.toArray n f i k t l n1 (by simp[C])) ⟨d,?_⟩
     refine⟨.ref _,_,I.laid (t':=s.toks) (λb u e=>nU _ e) (nA _) ?_,rfl,Y j C _ fresh⟩;exact⟨tj _,[],.nil,⟨_,qt _ rfl,rfl,⟨_,rfl⟩,rfl⟩⟩
   . have q:agY (λx1 x2=>x1++x2) #[] (nW k.toNat c.toArray)=(nW k.toNat c).flatten.toArray:=by
       have:=bam c k.toNat [];rw[QX]at this;exact this
     have p:nE=16777216:=L3;have jS:(c.length:Int)*k<=16777216:=by have J:((B.length*k.toNat:Nat):Int)<=16777216:=Int.ofNat_le.mpr o;rw[Int.natCast_mul,Wg (by lia),z]at J;exact J
     refine UH F.slot_tuple_mul ⟨_,d,rfl⟩ F.entry_tuple_mul (F.args_tuple_mul_2 _ _) (BS a c.toArray n f i k t l n1 (by simp[C,E]) (by rw[pd];lia) ?_ ?_) ⟨d,?_⟩
     . rw[pd]
       unfold agD;simp;lia
     . rw[q,pd,len_rep,<- z,XU,p];exact o
     . rw[q]
       refine⟨.ref _,_,I.laid (t':=s.toks) (λb u e=>nU _ e) (nA _) ?_,rfl,Z j (by lia) _ fresh⟩;exact⟨by rw[len_rep,XU,p];exact o,_,r.rep k.toNat,⟨_,qt _ rfl,rfl,⟨_,rfl⟩,rfl⟩⟩
theorem ai.rep {K H ι}{c:List D}{g:List V}(r:ai K H ι c g):∀k:Nat,ai K H ι (nW k c).flatten (nW k g).flatten
 | 0=>by simp[ai]|k+1=>by rw[UQ,UQ,Qx,Qx];exact ai.append r (ai.rep r k)
def cP (b a:D)(g:G):Option (D×G):=match b,a with
 |.int i,.int j=>if c_ i j=true then some (.int (i*j),g)else none|.int k,.tup c=>if(fK k&&az (c.length*k.toNat))=true then some (.tup (nW k.toNat c).flatten,g)else none|_,_=>none
def xl:bO X (tA .Mult) (dW X.kw cP):=by
 intro J s M H x y v u Q I n O q;obtain⟨E,g,Y,Z,d,R,G0,h,l,q,p⟩:=q;unfold cP at q;split at q
 . split at q
   . rename_i i j z
     exact K3 J s M H x y v u Q I n O ⟨E,g,.int i,.int j,d,R,G0,h,l,by simp only[bX];rw[if_pos z];exact q,p⟩
   . cases q
 . split at q
   . rename_i k B z
     simp only[nc]at z;have z1:=fK.and z.1;have U:=az.le z.2;cases q;simp only[Rel]at h l;obtain⟨a,r,rfl,hq,b⟩:=l;subst h;have o:=b.length;have new:∀{zs:List D} {C:List V},ai X.kw H E zs C->zs=(nW k.toNat B).flatten->∀q,H q=none->Q (.ref q) (upd H q (.tup C)):=fun {zs C} rz ez q e=>by subst ez;refine p _ _ _ (Ext.lay e) (G0.lay e) ?_;simp only[Rel];exact⟨q,C,rfl,.inl ⟨.inl aQ,G0.fresh e⟩,ai.ext (Ext.lay e) _ rz⟩
     refine K8 J s M H _ _ v u Q I n O ⟨a,k,r,rfl,rfl,hq.sq,(by lia),(by lia),by rw[<- o];exact U,λc=>?_,λhx hk=>?_,λhx hk=>?_⟩
     . refine p H E _ Ext.refl G0 ?_
       simp only[Rel];refine⟨a,r,rfl,hq,?_⟩;rcases c with c|c
       . subst c
         have:B = []:=adN (by simpa using o);subst this;have f:(nW k.toNat ([]:List D)).flatten = []:=by simp
         rw[f];exact b
       . subst c
         have f:(nW (1:Int).toNat B).flatten=B:=by simp
         rw[f];exact b
     . refine new (zs:=[]) (by simp[ai]) ?_
       have:k.toNat=0:=by lia
       rw[this];simp
     . exact new (b.rep k.toNat) rfl
   . cases q
 . cases q
def GR:bO X (tA .Add) (λx y H Q=>∃a b B,x = .ref a/\y = .ref b/\fJ X.kw H a []/\fJ X.kw H b B/\Q (.ref b) H):=by
 intro R s U H x y v u Q I i C h;obtain⟨a,b,B,rfl,rfl,E,o,q⟩:=h;cases i;cases C;obtain⟨J,p,l,_⟩:=I.tuple E;obtain⟨M,Y,j,_⟩:=I.tuple o;obtain⟨⟨cls,O,data,sl⟩,f,e,n,hd⟩:=id l;obtain⟨⟨Z,z,data2,r⟩,c,d,n2,g⟩:=id j;simp only at e hd d g;subst e hd d g;exact age ⟨_,f,rfl⟩ ⟨_,c,rfl⟩ agf ag7 aeF aeC (aek _ _)
  (bas a b J.toArray M.toArray n n2 O z sl r (by cases p;simp)) ⟨f,c,.ref b,H,I,rfl,q⟩
def z9:bO X (tA .Add) (λx y H Q=>∃a b B C,x = .ref a/\y = .ref b/\dQ X.kw H a B/\dQ X.kw H b C/\B.length+C.length<=nE /\ ∀p,H p=none->Q (.ref p) (upd H p (.lst (B++C)))):=by
 intro Z s σ H x y v u Q I J M h;obtain⟨a,b,B,C,rfl,rfl,O,hb,hz,q⟩:=h;cases J;cases M;obtain⟨d,j,p1,_⟩:=I.list O;obtain⟨c,E,R,_⟩:=I.list hb;obtain⟨⟨cls,dd,data,sl⟩,n,o,l,z,hd⟩:=id p1;obtain⟨⟨Gm,uW,data2,U⟩,n2,f,i,r,g⟩:=id R;simp only at l hd i g z r;subst l hd i g z r;have e:d.toArray++c.toArray=(d++c).toArray:=by simp
 have Y:d.length+c.length<=nE:=by rw[<- j.length,<- E.length];exact hz
 refine age ⟨_,o,rfl⟩ ⟨_,f,rfl⟩ noFill_list_add seq_list_add PySem.F.slot_list_add PySem.F.entry_list_add (PySem.F.args_list_add_2 _ _) (list_addW a b d.toArray c.toArray n n2 none none sl U (by simpa using Y)) ⟨o,f,?_⟩;rw[e];exact⟨.ref _,_,I.W_ (t':=s.toks) (j.append E) (by rw[nh];exact hz),rfl,q _ I.fresh⟩
noncomputable def fB (d:D)(g:G):Option (List D):=match d with
 |.lst c=>some c|.ref n=>g[n]?|_=>none
def iy {K H ι g d v xs}(G0:aw K H ι g)(r:Rel K H ι d v)(h:fB d g=some xs):∃a p,v = .ref a/\dQ K H a p/\ai K H ι xs p:=by
 cases d with
 |lst q =>
  cases h;obtain⟨a,p,rfl,e,b⟩:=r;exact⟨a,p,rfl,e.sq,b⟩
 |ref n =>
  obtain⟨a,rfl,f⟩:=r;obtain⟨p,c,i⟩:=G0.at h f;exact⟨a,p,rfl,.of c,i⟩
 |_=>cases h
def bo (b a:D)(g:G):Option (D×G):=match b,a with
 |.int i,.int j=>some (.int (i+j),g)|.tup c,.tup h=>if az (c.length+h.length)=true then some (.tup (c++h),g)else none|.str i,.str j=>if az (i.length+j.length)=true then some (.str (i++j),g)else none
 |b,a=>match fB b g,fB a g with
  |some c,some h=>if az (c.length+h.length)=true then some (.lst (c++h),g)else none|_,_=>none
def OR:bO X (tA .Add) (dW X.kw bo):=by
 intro B s C H x y v u Q I o E q;obtain⟨O,g,d1,d2,d,Z,G0,l,n,q,p⟩:=q;unfold bo at q;split at q
 . rename_i i j
   exact K2 B s C H x y v u Q I o E ⟨O,g,.int i,.int j,d,Z,G0,l,n,q,p⟩
 . split at q
   . rename_i U Y z
     cases q;simp only[Rel]at l n;obtain⟨a,J,rfl,hq,f⟩:=l;obtain⟨b,M,rfl,r,h⟩:=n;by_cases hx:J = []
     . subst hx
       have:U = []:=adN (by simpa using f.length);subst this;refine GR B s C H _ _ v u Q I o E ⟨a,b,M,rfl,rfl,hq.sq,r.sq,p H O _ Ext.refl G0 ?_⟩;simp only[Rel,QX];exact⟨b,M,rfl,r,h⟩
     . refine Kq B s C H _ _ v u Q I o E ⟨a,b,J,M,rfl,rfl,hq.sq,r.sq,hx,by rw[<- f.length,<- h.length];exact az.le z,λe=>?_,λe R c=>?_⟩
       . subst e
         have:Y = []:=adN (by simpa using h.length);subst this;refine p H O _ Ext.refl G0 ?_;simp only[Rel,wQ];exact⟨a,J,rfl,hq,f⟩
       . refine p _ _ _ (Ext.lay c) (G0.lay c) ?_
         simp only[Rel];exact⟨R,_,rfl,.inl ⟨.inl aQ,G0.fresh c⟩,ai.ext (Ext.lay c) _ (ai.append f h)⟩
   . cases q
 . split at q
   . rename_i x1 y1 z
     cases q;simp only[Rel]at l n;subst l n;exact BA B s C H _ _ v u Q I o E ⟨x1,y1,rfl,rfl,az.le z,p H O _ Ext.refl G0 (by simp[Rel])⟩
   . cases q
 . split at q
   . rename_i U Y e1 e2
     split at q
     . rename_i z
       cases q;obtain⟨a,J,rfl,hq,f⟩:=iy G0 l e1;obtain⟨b,M,rfl,r,h⟩:=iy G0 n e2;refine z9 B s C H _ _ v u Q I o E ⟨a,b,J,M,rfl,rfl,hq,r,by rw[<- f.length,<- h.length];exact az.le z,λR c=>?_⟩;refine p _ _ _ (Ext.lay c) (G0.lay c) ?_;simp only[Rel];exact⟨R,_,rfl,.inl ⟨.inl aQ,G0.fresh c,G0.iV c⟩,ai.ext (Ext.lay c) _ (ai.append f h)⟩
     . cases q
   . cases q
abbrev FO:=Sg->G->Option (Option Int×G)
inductive UY (K:KW)(f:FO)(σ:m6)(H:Hp)(Q:(Option Int->Hp->Prop)):Prop
 |mk (ι:Ix) (σd:Sg) (g:G) (o:Option Int) (g':G) (h0:aw K H ι g) (h1:bM K H ι σd σ) (h2:f σd g=some (o,g')) (h3:so K H ι g' (Q o)):UY K f σ H Q
structure DO (X:Cx)(e:Option Expr)(f:FO):Prop where of ::
 un:PO X e (UY X.kw f)
def PO.imp {e:Option Expr}{g:TO}(h:PO X e Z)(i:∀c H Q,g c H Q->Z c H Q):PO X e g:=λn s c H Q I q=>h n s c H Q I (i c H Q q)
noncomputable def eH:FO:=λ_ g=>some (none,g)
noncomputable def bG (f:FE):FO:=λc g=>(f c g).bind λr=>match r.1 with|.int i=>some (some i,r.2)|_=>none
def K9:DO X none eH:=.of (PO.imp Ko λn H Q h=>by obtain⟨i,a,g,o,b,G0,c,h,p⟩:=h;cases h;exact p H i Ext.refl G0)
def z_ (h:DE X e K):DO X (some e) (bG K):=.of (PO.imp (Kp h.un) λx H Q h=>by
 obtain⟨y,r,g,o,s,G0,c,h,p⟩:=h;obtain⟨⟨d,B⟩,b,h⟩:=bind_some h;cases d with
 |int i =>
  cases h;exact tD.bind G0 c b λu n v j l q a=>⟨i,by simpa[Rel]using a,p u n j l⟩
 |_=>cases h)
noncomputable def tf (c:List D)(a b:Option Int):List D:=(c.drop (bw c.length 0 a)).take (bw c.length c.length b-bw c.length 0 a)
noncomputable def mL (n:Nat)(a b:Option Int):Bool:=decide (bw n 0 a=0)&&decide (bw n n b=n)
def OS (d:D)(a b:Option Int)(g:G):Option (D×G):=match d with
 |.tup c=>if mL c.length a b=true then none else some (.tup (tf c a b),g)|.lst c=>some (.lst (tf c a b),g)|.ref n=>match g[n]? with|some c=>some (.lst (tf c a b),g)|none=>none
 |_=>none
def ai.OT {K H ι}(r:ai K H ι A U)(b a:Option Int):ai K H ι (tf A b a) (oM U b a):=by unfold tf oM;rw[<- r.length];exact ai.take _ (ai.drop _ r)
def OU (K:KW):V->Option Int->Option Int->Hp->VK->Prop:=λx c a H Q=>ND K x c a H Q\/NN K x c a H Q
def K_:qA X (OU X.kw):=by
 intro g s n H x v b f p c i Q I a d e pu h;rcases h with h|h
 . exact NF g s n H x v b f p c i Q I a d e pu h
 . exact Ks g s n H x v b f p c i Q I a d e pu h
def big (I:mH X b y H c):O2<c.heap.objs.size:=by obtain⟨o,g,h,e,_⟩:=I.mod.glob;have a:=n7 (I.bk _ _ e);exact agh (by decide) a
def GS:DE X (.Dict [] [] B) (fC .dU):=.of (by
 intro i s n H Q I h;obtain⟨q,c,g,d,f,G0,a,h,p⟩:=h;cases h;have hf:H s.heap.objs.size=none:=I.aW.fresh (nA _);refine wpAny_Dict_empty ⟨.ref s.heap.objs.size,upd H s.heap.objs.size (.dK []),I.laid (t':=s.toks) (λb u e=>nU _ e) (nA _) ?_,rfl,p _ _ _ (Ext.lay hf) (G0.lay hf) ?_⟩
 . exact⟨tj _,beq_eq_false_iff_ne.mpr (om (sI (big I))),[],.nil,Heap.DictOf.new _⟩
 . simp only[Rel]
   exact⟨_,rfl,aQ,G0.fresh hf⟩)
end
section
open PyProof.Rows
def oLt:=sF λi j=>decide (i<j)
def oLe:=sF λi j=>decide (i<=j)
def mM:=sF λi j=>decide (j<i)
def Aa:=sF λi j=>decide (j<=i)
noncomputable def ug (S:Scope)(a N:List Str)(fr:List (Option Nat))(c:Scope):Bool :=
 decide (c.kind = .function)&&c.names.all (λy=>!decide (y.2 = .cell)||decide (c.names.lookup y.1=some .cell))&&c.names.all (λy=>!decide (y.2 = .local)||decide (c.names.lookup y.1=some .local)) &&
 c.names.all (λy=>!decide (y.2 = .free)||(decide (c.names.lookup y.1=some .free)&&(decide (S.names.lookup y.1=some .cell)||decide (S.names.lookup y.1=some .free)))) &&
 decide (fr.length=N.length)&&(sv fr.length).all (λj=>match fr[j]? with
  |some (some i)=>match N[j]? with
   |some x=>decide (a[i]? = some x)&&decide (c.names.lookup x=some .free)|none=>false
  |_=>true)
def D8 {fr:List (Option Nat)}{S:Scope}{q:List Str}(r:X.env.scope=S)(s:X.N=q)(h:ug S q R fr I=true):fF X R fr I:=by
 unfold ug at h;simp only[nc,decide_eq_true_eq,Js,zg,x3,decide_eq_false_iff_not]at h;obtain⟨⟨⟨⟨⟨d,p⟩,c⟩,n⟩,f⟩,b⟩:=h;refine⟨d,λy a e=>?_,λy a e=>?_,λy a e=>?_,f,λj i hf=>?_⟩
 . rcases p y a with z|z
   . exact absurd e z
   . exact z
 . rcases c y a with z|z
   . exact absurd e z
   . exact z
 . rcases n y a with z|z
   . exact absurd e z
   . refine⟨z.1,?_⟩
     show X.env.scope.names.lookup y.1=_\/X.env.scope.names.lookup y.1=_;rw[r];exact z.2
 . have o:j∈sv fr.length:=aet.mpr (nz.mp hf).1
   have:=b j o;rw[hf]at this;dsimp only at this;split at this
   . rename_i x l
     simp only[nc,decide_eq_true_eq]at this;exact⟨x,l,by rw[s];exact this.1,this.2⟩
   . cases this
noncomputable def da (f:FE):FI:=λh g=>(f h g).bind λr=>match r.1 with|.tup c=>some (c,r.2)|.lst c=>some (c,r.2)|_=>none
def xn (n:DE X C K):DI X e C (da K):=.of (by
 intro q s r H R I h;obtain⟨u,a,g,ds,b,G0,f,h,p⟩:=h;obtain⟨⟨i,y⟩,v,d⟩:=bind_some h;cases i with
 |tup x =>
  have c:vX K a g=some (ds,b):=by unfold vX;rw[v];exact d
  exact(Ot n).un q s r H R I ⟨u,a,g,ds,b,G0,f,c,p⟩
 |lst x =>
  have c:vY K a g=some (ds,b):=by unfold vY;rw[v];exact d
  exact(Ou n).un q s r H R I ⟨u,a,g,ds,b,G0,f,c,p⟩
 |_=>cases d)
end
section
variable {X:List (Option Nat)}{c R:FT}{m:List D->G->Option (D×G)}{t:FG}{U:FE}{T:FA}{j:Int}{Q:FS}{O:qF}{M:FI}{g:G}
@[simp] def BU {d}:fC d l g=some (d,g):=rfl
@[simp] def La:aa n l g=(match l[n]? with|some (some c)=>some (c,g)|_=>none):=rfl
@[simp] def aau {o:D->D->G->Option (D×G)}:ag o K U l g=(K l g).bind λr=>(U l r.2).bind λq=>o r.1 q.1 q.2:=rfl
@[simp] def aav {o:D->G->Option (D×G)}:sr o K l g=(K l g).bind λr=>o r.1 r.2:=rfl
@[simp] def aaw:fg (some (.bl Y,g))=some (Y,g):=rfl
@[simp] def cw:ax K l g=fg (K l g):=rfl
@[simp] def Ab:gW K l g=(K l g).bind λr=>(l_ r.1 r.2).map λb=>(b,r.2):=rfl
@[simp] def UZ:l_ (.bl Y) g=some Y:=rfl
@[simp] def SN:l_ (.int i) g=some (i != 0):=rfl
@[simp] def pT:gX c R l g=(c l g).bind λr=>if r.1=true then R l r.2 else some (false,r.2):=rfl
@[simp] def OW:w5 c R l g=(c l g).bind λr=>if r.1=true then some (true,r.2)else R l r.2:=rfl
@[simp] def Lb:w6 c l g=(c l g).bind λr=>some (!r.1,r.2):=rfl
@[simp] def GU:ip K U l g=(fg (K l g)).bind λr=>if r.1=true then U l r.2 else some (.bl false,r.2):=rfl
@[simp] def Lc:uc c K U l g=(c l g).bind λr=>if r.1=true then K l r.2 else U l r.2:=rfl
@[simp] def cF:af l g=some ([],g):=rfl
@[simp] def bV:ae K T l g=(K l g).bind λr=>(T l r.2).bind λq=>some (r.1::q.1,q.2):=rfl
@[simp] def mN:aH m T l g=(T l g).bind λr=>m r.1 r.2:=rfl
def Ld:az n=decide (n<=16777216):=rfl
@[simp] def SO (h:n<=16777216):az n=true:=decide_eq_true h
@[simp] def U0:ay A g=if az A.length=true then some (.tup A,g)else none:=rfl
@[simp] def U1:dI A g=if az A.length=true then some (.lst A,g)else none:=rfl
@[simp] def U2:mkRef A g=if az A.length=true then some (.ref g.length,g ++ [A])else none:=rfl
@[simp] def Xq:aR l g=some (.nx,l,g):=rfl
@[simp] def pU:av Z Q l g=(Z l g).bind λr=>match r.1 with|.nx=>Q r.2.1 r.2.2|_=>some r:=rfl
@[simp] def Ac:aM K l g=(K l g).bind λr=>some (.rt r.1,l,r.2):=rfl
@[simp] def D9:b9 c Z Q l g=(c l g).bind λr=>if r.1=true then Z l r.2 else Q l r.2:=rfl
@[simp] def xo:cQ K l g=(K l g).bind λr=>some (.nx,l,r.2):=rfl
@[simp] def kE:aD K t l g=(K l g).bind λr=>(t r.1 l r.2).bind λq=>some (.nx,q.1,q.2):=rfl
@[simp] def acJ:gN n v l g=some (l.set n (some v),g):=rfl
@[simp] def Xr:fz [] l g=some (l,g):=rfl
@[simp] def U3:a_ t O (v::A) l g=(t v l g).bind λq=>O A q.1 q.2:=rfl
@[simp] def acK:gT n O (.tup A) l g=if A.length=n then O A l g else none:=rfl
@[simp] def gm:aj h T l g=(T l g).bind λr=>h r.1 r.2:=rfl
@[simp] def Zf {T:Ty}:BR T K l g=(K l g).bind λr=>if HL r.1=true then none else some (.bl (lM T r.1),r.2):=rfl
@[simp] def gG:dB M t Z l g=(M l g).bind λr=>forL t Z r.1 l r.2:=rfl
@[simp] def Zg:da K l g=(K l g).bind λr=>match r.1 with|.tup c=>some (c,r.2)|.lst c=>some (c,r.2)|_=>none:=rfl
@[simp] def Xs:vX K l g=(K l g).bind λr=>match r.1 with|.tup c=>some (c,r.2)|_=>none:=rfl
@[simp] def Xt:vY K l g=(K l g).bind λr=>match r.1 with|.lst c=>some (c,r.2)|_=>none:=rfl
@[simp] def gp:bC m M X t c K l g=(M l g).bind λr=>if az r.1.length=true then(dq t c K r.1 (cu X l) r.2).bind λq=>m q.1 q.2 else none:=rfl
@[simp] def Zh:bD A g=some (.lst A,g):=rfl
@[simp] def Xu:cC l g=some (true,g):=rfl
@[simp] def aax {c:Int->Int->Bool}{f:Int->Int->Int}:bX c f (.int i) (.int j) g=if c i j=true then some (.int (f i j),g)else none:=rfl
@[simp] def Xv:dJ i j=true:=rfl
@[simp] def aay:oLt (.int i) (.int j) g=some (.bl (decide (i<j)),g):=rfl
@[simp] def aaz:oLe (.int i) (.int j) g=some (.bl (decide (i<=j)),g):=rfl
@[simp] def aaA:mM (.int i) (.int j) g=some (.bl (decide (j<i)),g):=rfl
@[simp] def aaB:Aa (.int i) (.int j) g=some (.bl (decide (j<=i)),g):=rfl
@[simp] def Zi:nG (.int i) g=some (.int (-i),g):=rfl
@[simp] def Zj:bo (.int i) (.int j) g=some (.int (i+j),g):=rfl
@[simp] def Zk:cP (.int i) (.int j) g=if c_ i j=true then some (.int (i*j),g)else none:=rfl
@[simp] def aaC:fj v (.int i) g=(bb v g).bind λc=>(cJ c i).map λe=>(e,g):=rfl
@[simp] def Zl:bb (.tup A) g=some A:=rfl
@[simp] def Zm:bb (.lst A) g=some A:=rfl
@[simp] def Zn:bb (.ref n) g=g[n]?:=rfl
@[simp] def Zo:bL [v] g=(bb v g).map λc=>(.int c.length,g):=rfl
@[simp] def Zp:me [.int i,.int j] g=some (.int (if j<i then j else i),g):=rfl
@[simp] def Xw:iZ [.bl Y] g=some (.int (if Y then 1 else 0),g):=rfl
@[simp] def Xx:iZ [.int i] g=some (.int i,g):=rfl
@[simp] def Ad:gZ [v] g=(bb v g).bind λc=>if az c.length=true then some (.tup c,g)else none:=rfl
@[simp] def Zq:oEq (.int i) (.int j) g=some (.bl (i == j),g):=rfl
@[simp] def Zr {j:Bool}:oEq (.bl Y) (.bl j) g=some (.bl (Y == j),g):=rfl
@[simp] def Zs {j:Str}:oEq (.str x) (.str j) g=some (.bl (x == j),g):=rfl
@[simp] def Zt:GQ v .aB g=some (.bl (sM v),g):=rfl
def bp {σ':Sg}(i:A.length=p)(h:Z (A.map some++nW (n-p) none) g=some (.rt v,σ',a))(f:a.length=g.length):ak false n p Z A g=some (v,a):=by
 unfold ak;rw[if_pos i,h];have e:HT g.length v a=some (v,a):=by unfold HT;rw[if_pos f]
 simpa using e
def Ae {σ':Sg}(e:A.length=p)(h:Z (A.map some++nW (n-p) none) g=some (.rt v,σ',a)):ak true n p Z A g=some (v,a):=by unfold ak;rw[if_pos e,h];rfl
theorem d5 {t:FG}{c:FT}{e:FE}{h:D->D}(I:Sg->Prop):∀(ds:List D) (p:Sg) (g:G),I p->(∀d∈ds,∀p,I p->∃n,t d p g=some (n,g)/\c n g=some (true,g)/\e n g=some (h d,g)/\I n)->dq t c e ds p g=some (ds.map h,g)
 | [],_,_,_,_=>rfl|d::ds,p,g,r,q=>by obtain⟨n,b,i,a,f⟩:=q d tc p r;simp only[dq,b,i,a,nv,if_true,d5 I ds n g f λx j=>q x (qz _ j),x8]
@[simp] def Xy {a:Type}{c:List (Option a)}:cu [] c = []:=rfl
@[simp] def U4 {a:Type}{c:List (Option a)}:cu (none::X) c=none::cu X c:=rfl
@[simp] def U5 {a:Type}{c:List (Option a)}:cu (some n::X) c=(c[n]?).join::cu X c:=rfl
end
section
open PyProof.Rows
noncomputable def BV (c:Bool):D->Bool
 |.bl b=>b == c|_=>false
def isLit (a b:D):Option Bool:=match b with
 |.aB=>some (sM a)|.bl c=>some (BV c a)|_=>none
def qH (c a:D)(g:G):Option (D×G):=(isLit c a).map λb=>(.bl b,g)
def OX {K H ι d v u c}(r:Rel K H ι d v)(f:m5 v u):(u == afZ c)=BV c d/\PySem.plainIs u (.bool c)=true:=by
 cases d with
 |aB=>cases r;cases f;exact⟨rfl,rfl⟩|bl b=>cases r;cases f;exact⟨by cases b<;>cases c<;>rfl,rfl⟩|int _=>cases r;obtain⟨t,rfl⟩:=f;exact⟨rfl,rfl⟩
 |str _=>cases r;obtain⟨t,rfl⟩:=f;exact⟨rfl,rfl⟩
 |tup _=>obtain⟨a,e,rfl,_⟩:=r;cases f;exact⟨rfl,rfl⟩
 |lst _=>obtain⟨a,e,rfl,_⟩:=r;cases f;exact⟨rfl,rfl⟩
 |dU=>obtain⟨a,rfl,_⟩:=r;cases f;exact⟨rfl,rfl⟩
 |ref _=>obtain⟨a,rfl,_⟩:=r;cases f;exact⟨rfl,rfl⟩
 |aA _=>obtain⟨a,rfl,_⟩:=r;cases f;exact⟨rfl,rfl⟩
 |fn _=>obtain⟨a,_,rfl,_⟩:=r;cases f;exact⟨rfl,rfl⟩
def SQ:bO X (wR .Is) (dW X.kw qH):=by
 intro r s B H x y v u Q I a h q;obtain⟨n,g,l,i,d,j,G0,b,f,q,p⟩:=q;cases i with
 |aB=>exact OL r s B H x y v u Q I a h ⟨n,g,l,.aB,d,j,G0,b,f,q,p⟩
 |bl c =>
  cases f;cases h;simp only[qH,isLit,Iv]at q;cases q;obtain⟨e,z⟩:=OX (c:=c) b a;refine wpAny_is_plain z ?_;rw[e];exact⟨.bl _,H,I,rfl,p H n _ Ext.refl G0 (by simp[Rel])⟩
 |_=>cases q
@[simp] def aaD {c:D}:qH v c a=(isLit v c).map λb=>(.bl b,a):=rfl
@[simp] def U6:isLit v .aB=some (sM v):=rfl
@[simp] def U7:isLit v (.bl Y)=some (BV Y v):=rfl
@[simp] def Zu {c:Bool}:BV c (.bl Y)=(Y == c):=rfl
noncomputable def Ix.none (c:Ix):Ix:=⟨[],c.ix++c.hd,c.kd⟩
noncomputable def GV:HO->Bool
 |.tup _=>true|.nX _ _=>true|.dK _=>true|.jg _=>true|_=>false
mutual
theorem Rel.toN {K H ι}:∀(d:D) {v:V},bU 0 d=true->Rel K H ι d v->Rel K H (Ix.none ι) d v
 |.aB,v,_,h=>h|.bl _,v,_,h=>h|.int _,v,_,h=>h|.str _,v,_,h=>h
 |.tup n,v,z,h=>by
  simp only[Rel]at h ⊢;obtain⟨a,i,e,b,f⟩:=h;refine⟨a,i,e,?_,ai.toN n z f⟩;rcases b with⟨b,hn⟩|b
  . exact .inl ⟨b,by simp[Ix.none]⟩
  . exact .inr b
 |.lst n,v,z,h=>by
  simp only[Rel]at h ⊢;obtain⟨a,i,e,b,f⟩:=h;refine⟨a,i,e,?_,ai.toN n z f⟩;rcases b with⟨b,hn,hh⟩|b
  . exact .inl ⟨b,by simp[Ix.none],λm=>(nY.mp m).elim hn hh⟩
  . exact .inr b
 |.dU,v,_,h=>by simp only[Rel]at h ⊢;obtain⟨a,e,b,f⟩:=h;exact⟨a,e,b,by simp[Ix.none]⟩
 |.ref k,v,z,h=>by simp[bU]at z|.aA k,v,z,h=>by simp[bU]at z|.fn x ds,v,z,h=>by simp only[Rel]at h ⊢;obtain⟨a,i,e,b,f⟩:=h;exact⟨a,i,e,b.mono λc u _ q=>⟨q.1,by simp[Ix.none],λy m=>(nY.mp m).elim q.2.1 (q.2.2 y)⟩,ai.toN ds z f⟩
theorem ai.toN {K H ι}:∀(ds:List D) {g:List V},aF 0 ds=true->ai K H ι ds g->ai K H (Ix.none ι) ds g
 | [],g,_,h=>h|d::ds,g,z,h=>by simp only[ai]at h ⊢;simp only[aF,nc]at z;obtain⟨v,a,e,c,b⟩:=h;exact⟨v,a,e,Rel.toN d z.1 c,ai.toN ds z.2 b⟩
end
mutual
theorem Rel.sO {K H g p}(r:p.hd=g.ix++g.hd)(n:∀a∈g.ix,∃o,H a=some o/\GV o=false):∀(d:D) {v:V},bU 0 d=true->Rel K H p d v->Rel K H g d v
 |.aB,v,_,h=>h|.bl _,v,_,h=>h|.int _,v,_,h=>h|.str _,v,_,h=>h
 |.tup C,v,z,h=>by
  simp only[Rel]at h ⊢;obtain⟨a,l,i,b,j⟩:=h;refine⟨a,l,i,?_,ai.sO r n C z j⟩;rcases b with⟨b,hn⟩|b
  . refine .inl ⟨b,λm=>?_⟩
    obtain⟨E,e,f⟩:=n a m;rcases b with b|⟨o,b⟩<;>rw[e]at b<;>cases b<;>cases f
  . exact .inr b
 |.lst C,v,z,h=>by
  simp only[Rel]at h ⊢;obtain⟨a,l,i,b,j⟩:=h;refine⟨a,l,i,?_,ai.sO r n C z j⟩;rcases b with⟨b,hn,hk⟩|b
  . rw[r]at hk
    exact .inl ⟨b,λm=>hk (nY.mpr (.inl m)),λm=>hk (nY.mpr (.inr m))⟩
  . exact .inr b
 |.dU,v,_,h=>by simp only[Rel]at h ⊢;obtain⟨a,i,b,j⟩:=h;refine⟨a,i,b,λm=>?_⟩;obtain⟨E,e,f⟩:=n a m;rw[e]at b;cases b;cases f
 |.ref k,v,z,h=>by simp[bU]at z|.aA k,v,z,h=>by simp[bU]at z
 |.fn x ds,v,z,h=>by
  simp only[Rel]at h ⊢;obtain⟨a,l,i,b,j⟩:=h;exact⟨a,l,i,b.mono λc u y q=>⟨q.1,λm=>(by
    cases he:UL u with
    |true=>exact q.2.2 he (by rw[r];exact ads _ m)
    |false =>
     obtain⟨E,e,f⟩:=n c m;rw[q.1]at e;cases e;cases u<;>first| (cases f;done)| (cases he;done)| (cases y;done)),λz m=>q.2.2 z (by rw[r];exact N1 _ m)⟩,ai.sO r n ds z j⟩
theorem ai.sO {K H g i}(r:i.hd=g.ix++g.hd)(j:∀a∈g.ix,∃o,H a=some o/\GV o=false):∀(ds:List D) {B:List V},aF 0 ds=true->ai K H i ds B->ai K H g ds B
 | [],B,_,h=>h|d::ds,B,z,h=>by simp only[ai]at h ⊢;simp only[aF,nc]at z;obtain⟨v,b,f,e,c⟩:=h;exact⟨v,b,f,Rel.sO r j d z.1 e,ai.sO r j ds z.2 c⟩
end
def aw.lst {K H q g}(h:aw K H q g)(p:f∈q.ix):∃o,H f=some o/\GV o=false:=by
 obtain⟨i,d,e⟩:=Qa.mp p;have l:i<g.length:=by rw[<- h.len];exact d
 obtain⟨b,o,n,c,j,a,_⟩:=h.at_ i _ (nP l);rw[nP d,e]at c;cases c;generalize q.kd i=r at a;exact⟨o,j,by cases a<;>rfl⟩
def ia (fn:Fn):Fn:=λds g=>if aF 0 ds=true then(fn ds []).bind λr=>if bU 0 r.1=true then some (r.1,g)else none else none
def jL {ds g d g'}(fn:ia h ds g=some (d,g')):aF 0 ds=true/\(∃gx,h ds []=some (d,gx))/\bU 0 d=true/\g'=g:=by
 unfold ia at fn;split at fn
 . rename_i z
   obtain⟨⟨c,i⟩,b,fn⟩:=bind_some fn;split at fn
   . rename_i a
     cases fn;exact⟨z,⟨i,b⟩,a,rfl⟩
   . cases fn
 . cases fn
def Le {K:KW}{k n f fd ps}(F:eE q K.w K.fr K.mg z iT k f fd ps (lJ K n h)):eE q K.w K.fr K.mg z iT k f fd ps (lJ K n (ia h)):=
 eE.imp F λl H Q E ⟨u,B,g,ds,d,M,G0,r,P,p⟩=>by
  obtain⟨fn,⟨gx,hx⟩,I,rfl⟩:=jL P;refine⟨u,Ix.none B,[],ds,d,gx,⟨VX,rfl,λb y=>⟨by simp[Ix.none],?_⟩,λi O base=>by simp at base,λbase hq=>⟨(G0.tb base hq).1,by simp[Ix.none]⟩⟩,ai.toN ds fn r,hx,λj J v e R x=>?_⟩
  . rcases nY.mp y with m|m
    . exact G0.lE m
    . exact(G0.cK b m).2
  . have same:∀a∈B.ix,j a=H a:=λa c=>by
      obtain⟨l,C,_⟩:=G0.lst c;rw[C];exact e.same a _ C (by simp[Ix.none])
    have s:Ext H B j B:=⟨λa o base _=>e.same a o base (by simp[Ix.none]),e.there,⟨[],by simp,λ_ base=>by simp at base⟩,rfl,λ_ _=>rfl⟩
    refine p j B v s (G0.ext s same) (Rel.sO e.cK (λa c=>?_) d I x);obtain⟨l,C,f⟩:=G0.lst c;exact⟨l,by rw[same a c];exact C,f⟩
def BX (fn:∀ds g r,h ds g=some r->ds.length=n):∀ds g r,ia h ds g=some r->ds.length=n:=λds g r q=>by obtain⟨_,⟨gx,a⟩,_⟩:=jL (d:=r.1) (g':=r.2) q;exact fn _ _ _ a
end
section
variable {Q:D×G->Prop}
def ni {b:Type}(o:Option b)(Q:b->Prop):Prop:=∃a,o=some a/\Q a
section
variable {α β:Type}{o:Option α}{Q R:α->Prop}
@[simp] def gH {a:α}:ni (some a) Q=Q a:=by simp[ni]
@[simp] def Zv:ni (none:Option α) Q=False:=by simp[ni]
@[simp] def bav {f:α->Option β}{Q:β->Prop}:ni (o.bind f) Q=ni o λa=>ni (f a) Q:=by cases o<;>simp[ni]
@[simp] def baw {f:α->β}{Q:β->Prop}:ni (o.map f) Q=ni o λa=>Q (f a):=by cases o<;>simp[ni]
def NT (h:ni o R)(i:∀a,R a->Q a):ni o Q:=by obtain⟨a,e,r⟩:=h;exact⟨a,e,i a r⟩
end
@[simp] def aaE {o:Option (D×G)}{Q:Bool×G->Prop}:ni (fg o) Q=ni o λr=>∃b,r.1 = .bl b/\Q (b,r.2):=by
 cases o with
 |none=>simp[fg]
 |some r =>
  obtain⟨d,g⟩:=r;cases d with
  |bl b=>cases b<;>simp[fg]|_=>simp[fg]
@[simp] def GW:bo (.tup A) (.tup j) a=if az (A.length+j.length)=true then some (.tup (A++j),a)else none:=rfl
@[simp] def Xz:bo (.lst A) (.lst j) a=if az (A.length+j.length)=true then some (.lst (A++j),a)else none:=rfl
@[simp] def XA {y:Str}:bo (.str x) (.str y) a=if az (x.length+y.length)=true then some (.str (x++y),a)else none:=rfl
@[simp] def Lf:eH l a=some (none,a):=rfl
@[simp] def XB:bG K l a=(K l a).bind λr=>match r.1 with|.int c=>some (some c,r.2)|_=>none:=rfl
def XC {g:G}{xs:List D}{k:Int}(c:k<=1000)(d:-1000<=k)(b:xs.length<=1000):cP (.int k) (.tup xs) g=some (.tup (nW k.toNat xs).flatten,g):=by
 show(if(fK k&&az (xs.length*k.toNat))=true then some (D.tup (nW k.toNat xs).flatten,g)else none)=_;rw[if_pos];have a:k.toNat<=1000:=by lia
 have:xs.length*k.toNat<=1000*1000:=afo b a;rw[fK.of (by lia) (by lia),SO (by lia)];rfl
def xp (h:p<=n):bw n n (some (p:Int))=p:=by rw[zE];lia
def jx (h:p<=n):bw n 0 (some (p:Int))=p:=by rw[zE];lia
theorem fG {t:FG}{b:FS}{Q:F×Sg×G->Prop}(I:Nat->Sg->G->Prop):∀(ds:List D) (i:Nat) (n:Sg) (g:G),I i n g ->
  (∀(j:Nat) (d:D) n g,ds[j]? = some d->I (i+j) n g->ni (t d n g) λq=>ni (b q.1 q.2) λr=>match r.1 with
   |.nx=>I (i+j+1) r.2.1 r.2.2|.ct=>I (i+j+1) r.2.1 r.2.2|.bk=>Q (.nx,r.2.1,r.2.2)|.rt d=>Q (.rt d,r.2.1,r.2.2))->(∀n g,I (i+ds.length) n g->Q (.nx,n,g))->ni (forL t b ds n g) Q
 | [],i,n,g,p,_,he=>by simp only[forL,gH];exact he n g p
 |d::ds,i,n,g,p,hs,he=>by
  simp only[forL,bav];refine NT (hs 0 d n g rfl p) λq f=>NT f λr a=>?_;have go:I (i+0+1) r.2.1 r.2.2->ni (forL t b ds r.2.1 r.2.2) Q:=λz =>
   fG I ds (i+1) _ _ z (λj d n g e h=>by have q:=hs (j+1) d n g (by simpa using e) (by rw[show i+(j+1)=i+1+j by lia];exact h);rw[show i+(j+1)+1=i+1+j+1 by lia]at q;exact q) λn g h=>he n g (by rw[xk,show i+(ds.length+1)=i+1+ds.length by lia];exact h)
  obtain⟨c,l⟩:=r;cases c with
  |nx=>exact go a|ct=>exact go a|bk=>simp only[gH];exact a|rt d=>simp only[gH];exact a
theorem kY {t:FG}{c:FT}{e:FE}{Q:List D×G->Prop}(I:Nat->List D->Sg->G->Prop):∀(ds:List D) (i:Nat) (u:Sg) (g:G) (p:List D),I i p u g ->
  (∀(j:Nat) (d:D) p u g,ds[j]? = some d->I (i+j) p u g->ni (t d u g) λq=>ni (c q.1 q.2) λk=>if k.1=true then ni (e q.1 k.2) λr=>I (i+j+1) (p ++ [r.1]) q.1 r.2 else I (i+j+1) p q.1 k.2) ->
  (∀v u g,I (i+ds.length) (p++v) u g->Q (v,g))->ni (dq t c e ds u g) Q
 | [],i,u,g,p,x,_,he=>by simp only[dq,gH];exact he [] u g (by simpa using x)
 |d::ds,i,u,g,p,x,hs,he=>by
  simp only[dq,bav];refine NT (hs 0 d p u g rfl x) λq n=>NT n λk b=>?_;have go:∀(a:List D) (s:Sg) (h:G) (R:List D×G->Prop),I (i+1) a s h->(∀v u g,I (i+1+ds.length) (a++v) u g->R (v,g))->ni (dq t c e ds s h) R:=λa s h R z he =>
    kY I ds (i+1) s h a z (λj d p u g e h=>by have q:=hs (j+1) d p u g (by simpa using e) (by rw[show i+(j+1)=i+1+j by lia];exact h);rw[show i+(j+1)+1=i+1+j+1 by lia]at q;exact q) he
  have l:i+(d::ds).length=i+1+ds.length:=by rw[xk];lia
  rw[l]at he;by_cases hc:k.1=true
  . rw[if_pos hc]at b ⊢
    simp only[bav];refine NT b λr f=>?_;refine go (p ++ [r.1]) q.1 r.2 _ f λv u g h=>?_;simp only[gH];exact he (r.1::v) u g (by simpa using h)
  . rw[if_neg hc]at b ⊢
    exact go p q.1 k.2 _ b he
def NV (l:A.length=p)(h:ni (Z (A.map some++nW (n-p) none) a) λr=>match r.1 with
  |.rt g=>r.2.2.length=a.length/\Q (g,r.2.2)|.nx=>r.2.2.length=a.length/\Q (.aB,r.2.2)|_=>False):ni (ak false n p Z A a) Q:=by
 obtain⟨⟨r,i,f⟩,e,q⟩:=h;unfold ak;rw[if_pos l,e];cases r with
 |rt g =>
  obtain⟨j,c⟩:=q;dsimp only at j c;refine⟨_,?_,c⟩;simp[HT,j]
 |nx =>
  obtain⟨j,c⟩:=q;dsimp only at j c;refine⟨_,?_,c⟩;simp[HT,j]
 |bk=>exact q.elim|ct=>exact q.elim
def Lg (i:A.length=p)(h:ni (Z (A.map some++nW (n-p) none) a) λr=>match r.1 with
  |.rt c=>Q (c,r.2.2)|.nx=>Q (.aB,r.2.2)|_=>False):ni (ak true n p Z A a) Q:=by
 obtain⟨⟨r,g,f⟩,e,q⟩:=h;unfold ak;rw[if_pos i,e];cases r with
 |rt c=>exact⟨_,rfl,q⟩|nx=>exact⟨_,rfl,q⟩|bk=>exact q.elim|ct=>exact q.elim
def mO (v:A.length=s)(h:ni (Z (A.map some++nW (n-s) none) a) λr=>match r.1 with
  |.rt g=>bU a.length g=true/\(r.2.2.take a.length).all (aF a.length)=true/\a.length<=r.2.2.length/\Q (g,r.2.2.take a.length)|.nx=>(r.2.2.take a.length).all (aF a.length)=true/\a.length<=r.2.2.length/\Q (.aB,r.2.2.take a.length)|_=>False):ni (ak false n s Z A a) Q:=by
 obtain⟨⟨r,y,b⟩,e,q⟩:=h;unfold ak;rw[if_pos v,e];have fin:∀g,bU a.length g=true->(b.take a.length).all (aF a.length)=true->a.length<=b.length->Q (g,b.take a.length)->ni (HT a.length g b) Q:=λg l u p j=>by
  by_cases x:b.length=a.length
  . rw[Jt (by lia)]at j
    exact⟨_,by unfold HT;rw[if_pos x],j⟩
  . refine⟨_,?_,j⟩
    unfold HT;rw[if_neg x,if_pos u];cases g with
    |ref k =>
     have z:k<a.length:=by simpa[bU]using l
     simp only[if_pos z]
    |_=>simp only[if_pos l]
 cases r with
 |rt g =>
  obtain⟨o,i,c,f⟩:=q;exact fin g o i c f
 |nx =>
  obtain⟨i,c,f⟩:=q;exact fin .aB rfl i c f
 |bk=>exact q.elim|ct=>exact q.elim
end
section
open PyProof.Rows
open SeqAt
variable {Z:List (Str×D)}
def sP {M:Model}{a:Type}(f:Nat->a->Sem (ForInStep a))(I:List Nat->a->mJ->Prop)(Q:a->mJ->Prop){b:a}(turn:∀x rest b c,I (x::rest) b c->wpAny M J (f x b) (λr i=>match r with|.yield g=>I rest g i|.done g=>Q g i) E c)(fin:∀b c,I [] b c->Q b c)(h:I (P8 n (p-n)) b c):wpAny M J (forIn [n:p] b f) Q E c:=by
 rw[ahe];refine adC f I Q turn fin _ b ?_;simpa[akB]using h
def vM (l:Addr)(J:Array Value)(n:Nat)(C:Option Addr)(H:Array (Option Value))(x:Value)(e:Value->Bool)(j:Nat)(I:j<J.size)
  (B:e J[j]=true) (E:∀m (hm:m<J.size),m<j->e J[m]=false):
  Meets (u3.«tuple.index» ⟨[.ref l,x],[]⟩)
   (λA R s=>s.heap.get? l=some { cls:=.type "tuple",dict:=C,data:=.seq J n,slots:=H }/\(∀y,y∈J->EqAt A.in1 s y x (e y))/\R (.ok (.ret (.int j s.toks))) { s with toks:=s.toks+1 }):=
 .of_wp λprog w A R s h=>by
  obtain⟨o,g,d,p,os⟩:=s;obtain⟨q,he,h⟩:=h
  wp_walk using wpAny_loadPart' q,sP _ (λrest b f=>b.1=none/\f=⟨o,g,d,p,os⟩ /\ ∃i,rest=P8 i (J.size-i)/\i<=j) _
  case turn =>
   rintro y rest b f ⟨r,rfl,i,a,z⟩;have c:i<J.size:=by lia
   have u:P8 i (J.size-i)=i::P8 (i+1) (J.size-(i+1)):=by rw[show J.size-i=(J.size-(i+1))+1 by lia,agk]
   rw[u]at a;injection a with h1 h2
   subst h1 h2;have v:J[y]? = some J[y]:=by simp[c]
   rw[v];refine mA (he _ (afW c) prog w _ _ ?_);by_cases M:y=j
   . subst M
     rw[B]
     wp_walk
     exact⟨_,rfl,h⟩
   . rw[E y c (by lia)]
     wp_walk
     exact⟨rfl,rfl,y+1,rfl,by lia⟩
  case fin =>
   rintro⟨O,Q⟩ f ⟨r,rfl,i,a,z⟩;have:(P8 i (J.size-i)).length=0:=by rw[<- a];rfl
   rw[List.length_range']at this;lia
  case h=>exact⟨rfl,rfl,0,by simp,tj _⟩
noncomputable def iM:D->Bool
 |.aB=>true|.bl _=>true|.int _=>true|.str _=>true|_=>false
noncomputable def toV:D->V
 |.bl b=>.bl b|.int i=>.int i|.str x=>.str x|_=>.aB
def pV {K H ι d v}(h:iM d=true)(r:Rel K H ι d v):v=toV d/\kh v=true:=by
 cases d with
 |aB=>cases r;exact⟨rfl,rfl⟩|bl _=>cases r;exact⟨rfl,rfl⟩|int _=>cases r;exact⟨rfl,rfl⟩|str _=>cases r;exact⟨rfl,rfl⟩|_=>cases h
def uh {K H ι d}(h:iM d=true):Rel K H ι d (toV d):=by
 cases d with
 |aB=>simp[Rel,toV]|bl _=>simp[Rel,toV]|int _=>simp[Rel,toV]|str _=>simp[Rel,toV]|_=>cases h
theorem xq {K H ι}:∀{i:List D} {g:List V},i.all iM=true->ai K H ι i g->g=i.map toV/\g.all kh=true
 | [],g,_,r=>by cases r;exact⟨rfl,rfl⟩|d::i,g,h,r=>by obtain⟨v,f,rfl,a,b⟩:=r;rw[Z_,nc]at h;obtain⟨e,n⟩:=pV h.1 a;obtain⟨c,p⟩:=xq h.2 b;subst e c;exact⟨rfl,by rw[Z_,n,p];rfl⟩
theorem xt {K H ι}:∀{c:List D},c.all iM=true->ai K H ι c (c.map toV)
 | [],_=>by simp[ai]|d::c,h=>by rw[Z_,nc]at h;simp only[x8,ai];exact⟨_,_,rfl,uh h.1,xt h.2⟩
def SR {b:D}(d:iM v=true)(c:iM b=true):uX (toV v) (toV b)=bq v b:=by cases v<;>cases b<;>first| (simp[toV,uX,bq];done)| (simp[iM]at d;done)| (simp[iM]at c;done)
def xu (K:KW)(d:D)(v:V):Prop:=(iM d=true/\v=toV d) \/
 ∃c a o g n,d = .tup c/\c.all iM=true/\v = .ref a/\K.fr.lookup a=some o/\o.cls = .type "tuple" /\ o.dict=none/\o.data = .seq g n/\g.size<=nE/\Vals (c.map toV) g.toList
def pW (w:World)(K:KW):List rG->List (Str×D)->Prop
 | [],cz=>cz = []|e::c,cz=>∃x d rest,cz=(x,d)::rest/\(∃t,e.key = .str x t)/\e.hash=hashStr w x/\(∃v,m5 v e.val/\xu K d v)/\pW w K c rest
structure jM (w:World)(K:KW)(a:Addr)(cz:List (Str×D)):Prop where
 ex:∃o es ep,K.fr.lookup a=some o/\o.ExactDict/\o.data = .dict es ep/\pW w K es.toList cz
 sys:(a == O2)=false
noncomputable def q_ (a:List (Str×D))(x:Str):Option D:=(a.find? λp=>decide (p.1=x)).map (·.2)
theorem pW.keys {P:uV}{w:World}{K:KW}:∀{g:List rG} {cz:List (Str×D)},pW w K g cz->∀e∈g,∃k,(fE P w).is k e.key=true/\e.hash=(fE P w).hash k
 | [],_,_,e,he=>nomatch he
 |i::g,cz,h,e,he=>by
  obtain⟨x,d,rest,rfl,⟨t,b⟩,c,_,a⟩:=h;rcases nQ.mp he with rfl|he
  . exact⟨.inr x,by rw[b];exact qp P w x t,c⟩
  . exact a.keys e he
def OY {y:Str}{t:Tok}:(fE q u).is (.inr x) (.str y t)=decide (y=x):=by
 show aeJ x (.str y t)=_;by_cases h:y=x
 . subst h;simp[aeJ]
 . simp[aeJ,h,om h]
theorem pW.find {P:uV}{w:World}{K:KW}{x:Str}:∀{g:List rG} {cz:List (Str×D)},pW w K g cz ->
  match q_ cz x with
  |some d=>∃u v,(g.find? λe=>(fE P w).is (.inr x) e.key).map (·.val)=some u/\m5 v u/\xu K d v|none=>(g.find? λe=>(fE P w).is (.inr x) e.key).map (·.val)=none
 | [],cz,h=>by have i:cz = []:=h;subst i;rfl
 |q::g,cz,h=>by
  obtain⟨y,d,rest,rfl,⟨t,c⟩,l,⟨v,j,f⟩,b⟩:=h;have n:=b.find (P:=P) (x:=x);have a:(fE P w).is (.inr x) q.key=decide (y=x):=by rw[c];exact OY
  unfold q_ at n ⊢;rw[aib,aib];by_cases p:y=x
  . subst p
    simp only[decide_true,a];exact⟨_,v,rfl,j,f⟩
  . simp only[p,decide_false,a]
    exact n
def jM.map {P:uV}{K:KW}(h:jM u K f Z)(r:K.fr.In z):∃w,z.MapOf (fE P u) f w /\ ∀x:Str,match q_ Z x with
  |some d=>∃a v,w (.inr x)=some a/\m5 v a/\xu K d v|none=>w (.inr x)=none:=by
 obtain⟨o,n,c,j,l,i,b⟩:=h.ex;refine⟨_,⟨o,n,c,r f o j,l,i,λe he=>b.keys e (by simpa using he),λk=>rfl⟩,λx=>?_⟩;have:=b.find (P:=P) (x:=x);unfold findBy;rw[<- Array.find?_toList];exact this
def XD (K:KW)(a:Addr)(b:List (Str×D)):R2:=λx y H Q=>∃k d,x = .ref a/\y = .str k/\q_ b k=some d /\ ∀v,xu K d v->Q v H
def OZ (hD:jM X.w X.kw f Z):n6 X (XD X.kw f Z):=by
 intro value slice g s B H x y v u Q I i z h j;obtain⟨k,d,rfl,rfl,hd,q⟩:=h;cases i;obtain⟨a,hm,hf⟩:=hD.map (P:=X.prog) I.g_;have b:=hf k;rw[hd]at b;obtain⟨e,c,o,n,l⟩:=b;obtain⟨t,rfl⟩:=z;exact adL (x:=e) hm.typeIs aeE.lookup
  (wpAny_getItem_of (k:=(.inr k:Key)) (Q:=λr p=>r=e/\EP X g B Q r p) (qp X.prog X.w k t) hm o ⟨rfl,c,H,I.tok _,n,q c l⟩) j
def BY (c:List D)(d:D):Option Nat:=c.findIdx? λy=>bq y d
def BZ (cz:List (Str×D))(b c:FE):FE:=λh g=>(b h g).bind λr=>match r.1 with
 |.str x=>match q_ cz x with
  |some (.tup i)=>(c h r.2).bind λq=>if(iM q.1&&i.all iM)=true then(BY i q.1).map λj=>(.int j,q.2)else none|_=>none
 |_=>none
def SS (K:KW):V->List V->Hp->VK->Prop:=λx a H Q=>∃c y j,xu K (.tup c) x/\a = [toV y]/\iM y=true/\c.all iM=true/\BY c y=some j/\Q (.int j) H
def D_:NG X "tuple.index" (SS X.kw):=by
 intro cv s σ H x vs v us Q I O R h;obtain⟨g,y,j,e,rfl,b,c,f,q⟩:=h;rcases e with⟨e,_⟩|⟨Ea,a,o,B,n,e0,qw,rfl,h1,h2,h3,h4,h5,h6⟩
 . cases e
 cases e0;cases O;obtain⟨u,rfl,U⟩:=R.one;have J:=I.g_ a o h1;obtain⟨cls,dd,data,sl⟩:=o;simp only at h2 h3 h4;subst h2 h3 h4;have Y:kh (toV y)=true:=(pV b (uh (K:=X.kw) (H:=H) (ι:=⟨[],[],λ_=>0⟩) b)).2;have Z:(g.map toV).all kh=true:=(xq c (xt (K:=X.kw) (H:=H) (ι:=⟨[],[],λ_=>0⟩) c)).2;unfold BY at f;rw[aeH]at f;obtain⟨bP,E,Di⟩:=f;have C:(g.map toV).length=B.toList.length:=h6.length;rw[ro]at C;have M:j<B.size:=by rw[<- aef];lia
 have item:∀m (hm:m<g.length) (r:m<B.size),Iy (toV y) B[m]=bq g[m] y:=λm hm r=>by obtain⟨u',p,r'⟩:=h6.get (i:=m) (x:=toV g[m]) (by rw[qy,nP hm];rfl);rw[adV,J6 r]at p;cases p;have l:iM g[m]=true:=Js.mp c _ (Ds hm);rw[Dk r' (pV l (uh (K:=X.kw) (H:=H) (ι:=⟨[],[],λ_=>0⟩) l)).2,SR l b]
 refine UH F.slot_tuple_index ⟨_,J,rfl⟩ F.entry_tuple_index (F.args_tuple_index_2 _ _) (vM a B n none sl u (Iy (toV y)) j M (by rw[item j bP M];exact E) (λm hm d=>by
   have sj:m<g.length:=by lia
   rw[item m sj hm];simpa using Di m d)) ⟨J,λz hz=>wN U Y h6 Z z (by simpa using hz),?_⟩
 exact⟨.int j,H,I.tok _,⟨_,rfl⟩,q⟩
def Lh {p A E:Pos}{J:FE}(hD:jM X.w X.kw f Z)(P:X.mg x=some (.ref f))(T:DE X e K)(R:DE X C J)(N:Gl X x)(S:pP e)(O:(x == ("__debug__":Str))=false)(L:aeM (.Subscript (.Name x p) e A) "index" X.env (eval (.Subscript (.Name x p) e A) X.env)=eval (.Subscript (.Name x p) e A) X.env)(M:((vE E (nN [C] X.env)).all (λC=>!C.1)&&(backToKw E (ahO [] X.env)).all (λC=>C.1.isSome)
   && decide ([C].length+([]:List Vj).length+(if([]:List Vj).isEmpty then 0 else 1)<30))=true)(U:(B.endLine == E.line)=true)(a:nN [C] X.env=(false,eval C X.env)::nN [] X.env):
  DE X (.Call (.Attribute (.Subscript (.Name x p) e A) "index" B) [C] [] E) (BZ Z K J):=.of (
 PE.imp (Sn PySem.F.plainAttrs_tuple PySem.F.slot_tuple_index PySem.F.type_tuple_index D_ (Iw (OZ hD) (t7 (v:=.ref f) N P rfl O) T.un S) (iD R.un my a) L M U a (by rfl)) λσ H Q h=>by
  obtain⟨ι,σd,g,d,g',G0,y,h,p⟩:=h;obtain⟨⟨d1,g1⟩,r,h⟩:=bind_some h;refine tD.bind G0 y r λH1 ι1 v e1 G1 I q=>?_;cases d1 with
  |str k =>
   cases q;dsimp only at h;cases hk:q_ Z k with
   |none=>rw[hk]at h;cases h
   |some d2 =>
    rw[hk]at h;cases d2 with
    |tup xs =>
     dsimp only at h;obtain⟨⟨c,g3⟩,l,h⟩:=bind_some h;refine⟨k,_,rfl,rfl,hk,λv b=>⟨?_,?_⟩⟩
     . rcases b with⟨b,_⟩|⟨Ea,a',o,aq,n,e0,qw,rfl,q1,q2,q3,q4,q5,q6⟩
       . cases b
       . exact .inr (.inl ⟨rfl,o,q1,q2,q3⟩)
     . refine tD.bind G1 I l λH2 Y u s i S2 r2=>?_
       dsimp only at h;split at h
       . rename_i z
         rw[nc]at z;cases hj:BY xs c with
         |none=>rw[hj]at h;cases h
         |some j =>
          rw[hj]at h;cases h;refine⟨xs,c,j,b,by rw[(pV z.1 r2).1],z.1,z.2,hj,p H2 Y _ (e1.trans s) i (by simp[Rel])⟩
       . cases h
    |_=>cases h
  |_=>cases h)
end
section
open PyProof.Rows
variable {Z:Array Value}{Y:FA}{M:Int->Int->Int}{j:Option Int}{w s k:Pos}{t g:FO}{m:Expr}{h:Value}
def xw (l:Addr)(B:Array Value)(n:Nat)(b:Addr)(p:Array Value)(y:Nat)(v:Array (Option Value))(u:¬(!B.isEmpty&&acn (B.size+p.size))=true)(r:B.size<=nE)(q:B.size+p.size<=nE+1):
  Meets (u3.«list.extend» ⟨[.ref l,.ref b],[]⟩) (λ_ R s=>s.heap.get? l=some { cls:=.type "list",dict:=none,data:=.seq B n,slots:=#[] }/\s.heap.get? b=some { cls:=.type "list",dict:=none,data:=.seq p y,slots:=v }/\R (.ok (.ret AR)) { s with heap:=s.heap.update l (Gx λx=>x++p),toks:=s.toks }):=
 .of_wp λprog w A R s h=>by
  obtain⟨f,g,d,i,os⟩:=s;obtain⟨a,e,h⟩:=h;have C:=adB;have E:=ac3;have o:=aeI;have H:=agp;have j:=agq;have c:(B++p).size<=nE+1:=by rw[Array.size_append];exact q
  wp_walk using (ae9 a rfl (hz:=r) (_hz':=c)),wpAny_loadPart' a,wpAny_loadPart' e
  exact⟨_,rfl,h⟩
def GX (K:KW):V->List V->Hp->VK->Prop:=λx a H Q=>∃l b c zs,x = .ref l/\a = [.ref b]/\H l=some (.lst c)/\dQ K H b zs/\c.length+zs.length<=nE/\Q .aB (upd H l (.lst (c++zs)))
def B1:UB X "list.extend" (GX X.kw):=by
 intro R s U H x Y v Z Q I o y h;obtain⟨l,b,xs,zs,rfl,rfl,f,B,hz,q⟩:=h;cases o;obtain⟨u,rfl,C⟩:=y.one;cases C;obtain⟨z,a,n,r,hl,e⟩:=I.NQ f;obtain⟨c,j,p,_⟩:=I.list B;obtain⟨⟨Gm,uW,data2,E⟩,n2,J,d,i,g⟩:=id p;simp only at d g i;subst d g i;have N0:=j.length;have M:a.toArray.size+c.toArray.size<=nE:=by rw[pd,pd];lia
 have O:¬(!a.toArray.isEmpty&&acn (a.toArray.size+c.toArray.size))=true:=by rw[wU M,aiw];exact Lo
 refine UH F.slot_list_extend ⟨_,e,rfl⟩ F.entry_list_extend (F.args_list_extend_2 _ _)
  (xw l a.toArray n b c.toArray n2 E O (by rw[pd];lia) (by lia)) ⟨e,J,?_⟩
 refine⟨.aB,_,I.NP (its':=a++c) f e (by simp) (r.append j) ?_,rfl,q⟩;rw[nh];lia
noncomputable def mf (i j:Nat)(fr:FA):FS:=λc g=>(fr c g).bind λr=>match r.1 with
 | [a,b]=>some (.nx,(c.set i (some a)).set j (some b),r.2)|_=>none
def O0 {y:Str}{kt k2 pt2}(L:X.calm=true)(P:X.N.Nodup)(K:X.N[n]? = some x)(M:X.N[p]? = some y)(O:n≠p)(fr:X.env.scope.names.lookup x=some .local)(I:X.env.scope.names.lookup y=some .local)(E:DA X [e,C] Y)(hw:TL [.Tuple [.Name x w,.Name y B] kt s] (.Tuple [e,C] k2 pt2) X.env=pure (some [x,y]))(J:VH [.Tuple [.Name x w,.Name y B] kt s] (.Tuple [e,C] k2 pt2) k.line X.env=pure false):
  DS X (.Assign [.Tuple [.Name x w,.Name y B] kt s] (.Tuple [e,C] k2 pt2) k) (mf n p Y):=.of (
 PS.imp (M9 L P K M O fr I E.un hw J) λU Z H h=>by
  obtain⟨ι,Q,g,r,z,g',G0,l,h,b⟩:=h;obtain⟨⟨ds,g1⟩,f,h⟩:=bind_some h;refine iW.bind G0 l f λR a vs o q d i=>?_;dsimp only at h;split at h
  . rename_i e C
    cases h;obtain⟨v,vr,rfl,j,u,ur,rfl,c,rfl⟩:=i;exact⟨v,u,rfl,b R a o q _ ((d.set j n).set c p)⟩
  . cases h)
def vN {a:Addr}{x:Value}(l:c.heap.IsTupleIter f a n)(prog:c.heap.IsTuple a Z)(r:Z[n]? = some x)(p:∀g,g.IsTupleIter f a (n+1)->NR f c.heap g->Q x { c with heap:=g }):wpAny (model q u) J (XG (.ref f)) Q E c:=by
 obtain⟨o,w,e,b⟩:=id l;obtain⟨h,j,_,A,d⟩:=prog;unfold XG;refine mA (IF (name:=th "__next__") l.typeIs F.slot_tuple_iterator_next (x9 F.slot_tuple_iterator_next l.typeIs F.entry_tuple_iterator_next ?_ (F.args_tuple_iterator_next_1 _)));change wpAny _ _ (field (.ref f) 0 >>= λ_=>_) _ _ _;refine mA (FC w b (x:=.ref a) rfl ?_);change wpAny _ _ (if(FY a == AR)=true then _ else _) _ _ _;rw[if_neg (by exact Lo)];change wpAny _ _ (field (.ref f) 1 >>= λ_=>_) _ _ _;refine mA (FC w b (x:=.int n 0) rfl ?_);change wpAny _ _ (seqItems? (.ref a) >>= λ_=>_) _ _ _;refine mA (adX j d ?_);simp only[Im,r];refine mA (XP w b (by simp) ?_);refine mT ⟨x,rfl,mT (p _ ⟨_,MQ _ w (agP (aeo b _)),(ahJ ..).trans e,?_⟩ (MN ..))⟩;rw[aeo b];simp[xm]
def xA {a:Addr}(i:J.handled=none)(s:c.heap.IsTupleIter f a n)(prog:c.heap.IsTuple a Z)(r:Z[n]? = none)(w:∀g e,agA f c.heap g->(∃o,g.get? e=some o/\o.cls = .type "StopIteration")->E (.ref e) { c with heap:=g }):wpAny (model q u) J (XG (.ref f)) Q E c:=by
 obtain⟨o,A,l,b⟩:=id s;obtain⟨h,j,_,p,d⟩:=prog;unfold XG;refine mA (IF (name:=th "__next__") s.typeIs F.slot_tuple_iterator_next (x9 F.slot_tuple_iterator_next s.typeIs F.entry_tuple_iterator_next ?_ (F.args_tuple_iterator_next_1 _)));change wpAny _ _ (field (.ref f) 0 >>= λ_=>_) _ _ _;refine mA (FC A b (x:=.ref a) rfl ?_);change wpAny _ _ (if(FY a == AR)=true then _ else _) _ _ _;rw[if_neg (by exact Lo)];change wpAny _ _ (field (.ref f) 1 >>= λ_=>_) _ _ _;refine mA (FC A b (x:=.int n 0) rfl ?_);change wpAny _ _ (seqItems? (.ref a) >>= λ_=>_) _ _ _;refine mA (adX j d ?_);simp only[Im,r];refine mA (DF (mA (XP A b (by simp) ?_)));change wpAny _ _ (newExc (.type "StopIteration") [] >>= λ_=>_) _ _ _;refine mA ?_;simp only[newExc,newTuple];refine mA (AF ?_ (by size_fits));refine mA (m:=afm _ _) (ahP (a:=AR) (by first|rfl| (simp only[afm];rfl)) ?_);refine AF ?_ (by size_fits);simp only[raiseNew];refine mA (aha ?_);rw[show J.in1.handled=none from i];exact mA (mT (ahQ (w _ _ (((MN ..).extBut.push _).push _) ⟨_,qt _ rfl,rfl⟩)))
def Ag {s:mJ}{t':Nat}{ch:List Addr}(I:mH X b y H s)(k:∀g o,g ∉ ch->s.heap.get? g=some o->z.get? g=some o)(x:∀g∈ch,gU X b H g):
   mH X b y H { s with heap:=z,toks:=t' }:=by
 have d:∀g u,H g=some u->g ∉ ch:=λg u e B=>by rw[(x g B).1]at e;cases e
 refine I.step (g':=s.gens) (d':=s.drawn) (ch:=ch) (λg h=>?_) (λg o _ _ a e _=>k g o a e) (λg o _ _ a e _=>⟨o.slots,k g o a e⟩) (λ_ _ _ _ n=>n)
   (λg o a e=>⟨o,k g o a e⟩) (λ_ _ e=>e) (λ_ _ _ e=>e) (λ_ _ _ e=>e) (λm hm=>?_) (λg u e=>?_) I.bare
 . obtain⟨J,C,M,p,E,l⟩:=x g h
   exact⟨p,C,E,l⟩
 . obtain⟨o,i,f,j,r⟩:=hm
   exact⟨o,i,f,k _ o (λB=>(x _ B).2.1 rfl) j,r⟩
 . refine(I.aW g u e).dn (λc v a q=>k c v ?_ q) (λ_ q=>q) (λ_ _ q=>q) λ_ _ q=>q
   rcases a with B|B
   . rw[B];exact d g u e
   . exact d c _ B
noncomputable def rg (i:Nat)(o:Int->Int->Int)(c:FE):FS:=λh g=>match h[i]? with
 |some (some (.int a))=>(c h g).bind λr=>match r.1 with
  |.int b=>some (.nx,h.set i (some (.int (o a b))),r.2)|_=>none
 |_=>none
def Eb {op:Wm}(I:X.N.Nodup)(E:X.N[n]? = some x)(J:Ee X.env.scope x)(o:Ip X op (Na M))(C:DE X e K)(L:X.fn x=true\/X.env.scope.names.lookup x=some .local):DS X (.AugAssign (.Name x w) op e B) (rg n M K):=.of (
 PS.imp (M_ I E J C.un o L) λY Z H h=>by
  obtain⟨ι,O,g,r,cb,g',G0,c,h,p⟩:=h;unfold rg at h;split at h
  . rename_i a Q
    obtain⟨⟨R,g1⟩,i,h⟩:=bind_some h;obtain⟨v,y,j⟩:=c.2 n _ Q;cases j;refine⟨.int a,y,?_⟩;refine tD.bind G0 c i λU z u q s f l=>?_;cases R with
    |int b =>
     cases h;cases l;exact⟨a,b,rfl,rfl,p U z q s _ (f.set (d:=.int (M a b)) (by simp[Rel]) n)⟩
    |_=>cases h
  . cases h)
def pX (b a:D)(g:G):Option (D×G):=match fB b g,fB a g with
 |some c,some h=>if az (c.length+h.length)=true then some (.ref g.length,g ++ [c++h])else none|_,_=>none
def Li:bO X (tA .Add) (dW X.kw pX):=by
 intro B s C H x y v u Q I h E q;obtain⟨O,g,R,U,d,Y,G0,j,r,q,p⟩:=q;unfold pX at q;split at q
 . rename_i Z ys J n
   split at q
   . rename_i z
     cases q;obtain⟨a,o,rfl,hq,c⟩:=iy G0 j J;obtain⟨b,M,rfl,i,e⟩:=iy G0 r n;refine z9 B s C H _ _ v u Q I h E ⟨a,b,o,M,rfl,rfl,hq,i,by rw[<- c.length,<- e.length];exact az.le z,λl f=>?_⟩;refine p _ _ _ (Ext.push f) (G0.push f (ai.append c e)) ?_;simp only[Rel];exact⟨l,rfl,eF.new G0.len⟩
   . cases q
 . cases q
@[simp] def Zw:rg n M K l a=(match l[n]? with
 |some (some (.int c))=>(K l a).bind λr=>match r.1 with
  |.int g=>some (.nx,l.set n (some (.int (M c g))),r.2)|_=>none
 |_=>none):=rfl
@[simp] def Zx:mf n p Y l a=(Y l a).bind λr=>match r.1 with
 | [i,b]=>some (.nx,(l.set n (some i)).set p (some b),r.2)|_=>none:=rfl
@[simp] def SU:l_ .aB a=some false:=rfl
@[simp] def SV:l_ (.tup A) a=some (!A.isEmpty):=rfl
@[simp] def SX:l_ (.lst A) a=some (!A.isEmpty):=rfl
def dn (g:List Addr)(h i:Heap):Prop:=∀c o,c ∉ g->h.get? c=some o->i.get? c=some o
def dn.tr {cs h d h2}(a:dn cs h d)(b:dn cs d h2):dn cs h h2:=λc o n e=>b c o n (a c o n e)
def dn.of {cs h h1 c}(a:NR c h h1)(m:c∈cs):dn cs h h1:=λb o n e=>(a.2 b λz=>n (z ▸ m)).trans e
def SY {g:Addr}(I:mH X b y H c)(s:gU X b H g)(h:fJ X.kw H f U):f≠g:=λz=>by
 subst z;obtain⟨p,r,u,d,v,e⟩:=s;rcases h with h|⟨o,aq,n,hk,_⟩
 . rcases h with h|⟨o,h⟩<;>rw[p]at h<;>cases h
 . have i:X.base.get? f=some o:=I.ok.mod.rV f o hk
   rcases d with q|q
   . exact I.ok.qP f o i q
   . exact D7 _ (wh (n7 (I.ok.bs f o i).1) q)
noncomputable def oU (c g:List D):List D:=(c.zip g).map λp=>.tup [p.1,p.2]
noncomputable def bA (n:Nat)(b c:Option Int)(a:Int):Int×Nat:=((Vd b c a (n:Int)).1,YL (Vd b c a (n:Int)).1 (Vd b c a (n:Int)).2 a)
noncomputable def gI {c:Type}(g:List c)(l:Int)(n:Nat)(a:Int):List c:=(sv n).filterMap λ(k:Nat)=>g[(l+(k:Int)*a).toNat]?
def ui (d:D)(b a c:Option Int)(g:G):Option (D×G):=match d,c with
 |.tup h,some k=>if(!(k == 0) && !(k == 1)&&az (bA h.length b a k).2)=true then some (.tup (gI h (bA h.length b a k).1 (bA h.length b a k).2 k),g)else none|_,_=>none
def Ec {i:D}{d c:Option Int}{n:G}(h:ui v j d c a=some (i,n)):∃g k,v = .tup g/\c=some k/\k≠0/\k≠1/\az (bA g.length j d k).2=true/\i = .tup (gI g (bA g.length j d k).1 (bA g.length j d k).2 k)/\n=a:=by
 unfold ui at h;split at h
 . rename_i g k
   split at h
   . rename_i z
     rw[nc,nc]at z;cases h;exact⟨g,k,rfl,rfl,by simpa using z.1.1,by simpa using z.1.2,z.2,rfl,rfl⟩
   . cases h
 . cases h
def xB (c:FE)(b a fs:FO):FE:=λi g=>(c i g).bind λr=>(b i r.2).bind λl=>(a i l.2).bind λh=>(fs i h.2).bind λk=>ui r.1 l.1 h.1 k.1 k.2
def u_ {b:Type}(c:List b)(l:Int)(n:Nat)(a:Int):(gI c l n a).length<=n:=by unfold gI;exact qJ (List.length_filterMap_le _ _) (by simp)
theorem ai.pick {K H ι}{g:List D}{h:List V}(r:ai K H ι g h)(l:Int)(c:Int):∀n k,ai K H ι ((P8 k n).filterMap λ(k:Nat)=>g[(l+(k:Int)*c).toNat]?) ((P8 k n).filterMap λ(k:Nat)=>h[(l+(k:Int)*c).toNat]?)
 | 0,k=>by simp[ai]
 |n+1,k=>by
  rw[agk,H9,H9];have i:=ai.pick r l c n (k+1);cases hx:g[(l+(k:Int)*c).toNat]? with
  |none =>
   have a:h[(l+(k:Int)*c).toNat]? = none:=by rw[adu]at hx ⊢;rw[<- r.length];exact hx
   rw[a];exact i
  |some d =>
   obtain⟨v,a,b⟩:=r.get hx;rw[a];simp only[ai];exact⟨v,_,rfl,b,i⟩
theorem va {g:List V}{e:List Value}(r:Vals g e)(l:Int)(c:Int):∀n k,Vals ((P8 k n).filterMap λ(k:Nat)=>g[(l+(k:Int)*c).toNat]?) ((P8 k n).filterMap λ(k:Nat)=>e[(l+(k:Int)*c).toNat]?)
 | 0,k=>.nil
 |n+1,k=>by
  rw[agk,H9,H9];have h:=va r l c n (k+1);cases hx:g[(l+(k:Int)*c).toNat]? with
  |none =>
   have a:e[(l+(k:Int)*c).toNat]? = none:=by rw[adu]at hx ⊢;rw[<- r.length];exact hx
   rw[a];exact h
  |some d =>
   obtain⟨v,a,b⟩:=r.get hx;rw[a];exact .cons b h
def GY {g:Value}{e:Option Int}{Q:Int×Int×Nat->mJ->Prop}(p:c.heap.IsSliceOf f T h g)(l:Bs T j)(o:Bs h e)(ps:Bs g (some i))(d:i≠0)(prog:Q ((bA n j e i).1,i,(bA n j e i).2) c):wpAny (model q u) J (adl (.ref f) (pure (n:Int))) Q E c:=by
 obtain⟨os,b,k,a⟩:=id p;unfold adl af1;refine mA (mA (FC b a (x:=T) rfl (mA (FC b a (x:=h) rfl (mA (FC b a (x:=g) rfl (mT ?_)))))));refine mA (iS ps ?_);change wpAny _ _ (if(i == 0)=true then _ else _) _ _ c;rw[if_neg (by simpa using d)];exact mA (iS l (mA (iS o (mA (mT (mT prog))))))
def S4 {prog:Addr}{x:Value}{d:Option Int}(k:IsTup c.heap f Z)(n:c.heap.IsSliceOf prog T h x)(v:Bs T j)(r:Bs h d)(ps:Bs x (some i))(g:i≠0)(p:i≠1)(l:Q (.ref c.heap.objs.size) { c with heap:=c.heap.push { cls:=.type "tuple",data:=.seq (gI Z.toList (bA Z.size j d i).1 (bA Z.size j d i).2 i).toArray } })(hz:(bA Z.size j d i).2<=nE):wpAny (model q u) J (Q2 (.ref f) (.ref prog)) Q E c:=by
 have ok:sizeOk (.seq (gI Z.toList (bA Z.size j d i).1 (bA Z.size j d i).2 i).toArray):=by show(gI Z.toList (bA Z.size j d i).1 (bA Z.size j d i).2 i).toArray.size<=nE;rw[pd];exact qJ (u_ ..) hz
 obtain⟨os,b,a,o⟩:=id n;have ty:c.TypeIs (.ref prog) "slice":=⟨os,b,a⟩
 unfold Q2;try with_reducible refine v3 ?_
 first|refine mA (mT ?_)|skip
 refine mA (adO k.typeIs (by decide) (mA (IF (name:=th "__getitem__") k.typeIs Pl (x9 Pl k.typeIs afe ?_ (afB _ _)))));change wpAny _ _ (adm (.ref f) >>= λ_=>_) _ _ c;refine mA (ag8 k (mA (ael ty ?_)));rw[if_pos (by decide)];refine mA (GY n v r ps g ?_);have y:¬(((bA Z.size j d i).1 == 0&&i == 1&&(bA Z.size j d i).2 == Z.size)=true):=by intro t;rw[nc,nc]at t;exact p (eq_of_beq t.1.2)
 change wpAny _ _ (if((bA Z.size j d i).1 == 0&&i == 1&&(bA Z.size j d i).2 == Z.size)=true then _ else _) _ _ c;rw[if_neg y];have e:((sv (bA Z.size j d i).2).filterMap λ(m:Nat)=>Z[((bA Z.size j d i).1+(m:Int)*i).toNat]?).toArray=(gI Z.toList (bA Z.size j d i).1 (bA Z.size j d i).2 i).toArray:=by unfold gI;simp only[adV]
 rw[e];first
  |exact mA (m:=VO _) (AF (mT ⟨_,rfl,mT l⟩) ok)
  |exact mA (m:=VO _) (AF (mA (mT (mT ⟨_,rfl,mT l⟩))) ok)
  |exact mA (mA (m:=VO _) (AF (mT (mT ⟨_,rfl,mT l⟩)) ok))
  |exact mA (mA (m:=VO _) (AF (mT ⟨_,rfl,mT l⟩) ok))
def Ed {N E:Option Expr}{fs:FO}(R:DE X e K)(O:DO X N t)(hu:DO X E g)(P:DO X (some C) fs):DE X (.Subscript e (.Slice N E (some C) B) w) (xB K t g fs):=.of (by
 intro cv s σ H Q I h;obtain⟨ι,U,M,d,g',G0,S0,h,p⟩:=h;obtain⟨⟨d1,g1⟩,h1,h⟩:=bind_some h;obtain⟨⟨l,g2⟩,h2,h⟩:=bind_some h;obtain⟨⟨u,g3⟩,h3,h⟩:=bind_some h;obtain⟨⟨k,g4⟩,h4,h⟩:=bind_some h;refine Subscript_ (aX (R.un cv s σ H (λx Y=>∃f,Ext H ι Y f/\aw X.kw Y f g1/\bM X.kw Y f U σ/\Rel X.kw Y f d1 x) I ⟨ι,U,M,d1,g1,G0,S0,h1,λY f v e1 G1 r1=>⟨f,e1,G1,S0.ext e1,r1⟩⟩) λv s1 i=>?_);obtain⟨x,Y,I1,r1,f,e1,G1,S1,rd⟩:=i;refine wpAny_Slice (aX (O.un cv s1 σ Y (λo z=>o=l /\ ∃j,Ext Y f z j/\aw X.kw z j g2) I1 ⟨f,U,g1,l,g2,G1,S1,h2,λz j y G2=>⟨rfl,j,y,G2⟩⟩) λvl s2 i=>?_);obtain⟨o,z,I2,pl,eo,j,y,G2⟩:=i;subst eo;refine aX (hu.un cv s2 σ z (λo H3=>o=u /\ ∃r,Ext z j H3 r/\aw X.kw H3 r g3) I2 ⟨j,U,g2,u,g3,G2,S1.ext y,h3,λH3 r e3 G3=>⟨rfl,r,e3,G3⟩⟩) λvu s3 i=>?_;obtain⟨o',H3,I3,pu,eo,r,e3,G3⟩:=i;subst eo;refine aX (P.un cv s3 σ H3 (λo H4=>o=k /\ ∃J,Ext H3 r H4 J/\aw X.kw H4 J g4) I3 ⟨r,U,g3,k,g4,G3,S1.ext (y.trans e3),h4,λH4 J e4 G4=>⟨rfl,J,e4,G4⟩⟩) λvs Z i=>?_;obtain⟨ab,H4,I4,ps,eo,J,e4,G4⟩:=i;subst eo;have oV:=Rel.ext (y.trans (e3.trans e4)) _ rd;obtain⟨xs,kk,rfl,ek,z0,z1,z2,rfl,rfl⟩:=Ec h;cases ek;obtain⟨a,ws,rfl,hq,hr⟩:=oV;cases r1;have I5:mH X cv σ H4 { Z with heap:=Z.heap.push { cls:=.type "slice",data:=.fields #[vl,vu,vs] } }:=I4.kept (t':=Z.toks) λb ob q=>nU _ q;obtain⟨aq,rv,pt,hz⟩:=I5.tuple hq.sq;have hlen:aq.toArray.size=xs.length:=by rw[pd,<- rv.length,<- hr.length]
 change wpAny (model X.prog X.w) X.A (ag9 e (.Slice N E (some C) B) (.ref a) (.ref Z.heap.objs.size)) (EP X cv σ Q) X.xe { Z with heap:=Z.heap.push { cls:=.type "slice",data:=.fields #[vl,vu,vs] } };refine tail_any (ops:=[.ref a,.ref Z.heap.objs.size]) pt.typeIs Pl.lookup ?_ (by with_unfolding_all rfl);refine S4 pt (ahr ..) pl pu ps z0 z1 ?_ (by rw[hlen];exact az.le z2);rw[hlen];have hp:∀{α:Type} (ys:List α) (l:Int) (n:Nat) (c:Int),gI ys l n c=(P8 0 n).filterMap λ(k:Nat)=>ys[(l+(k:Int)*c).toNat]?:=λys l n c=>by unfold gI;rw[List.range_eq_range']
 have kT:=I5.fresh;refine⟨.ref _,_,I5.laid (t':=Z.toks) (o:=.tup (gI ws (bA xs.length o o' kk).1 (bA xs.length o o' kk).2 kk)) (λb ob q=>nU _ q) (nA _) ⟨qJ (u_ ..) (az.le z2),_,by rw[hp,hp];exact va rv _ _ _ _,fY.new _ _⟩,rfl,?_⟩;refine p _ J _ ((e1.trans (y.trans (e3.trans e4))).trans (Ext.lay kT)) (G4.lay kT) ?_;simp only[Rel];refine⟨_,_,rfl,.inl ⟨.inl aQ,G4.fresh kT⟩,?_⟩;rw[hp,hp];exact ai.ext (Ext.lay kT) _ (ai.pick hr _ _ _ _))
@[simp] def Lj {fs:FO}:xB K t g fs l a=(K l a).bind λr=>(t l r.2).bind λc=>(g l c.2).bind λh=>(fs l h.2).bind λk=>ui r.1 c.1 h.1 k.1 k.2:=rfl
def bf (a b:D)(g:G):Option (D×G):=if(flat a&&flat b&&decide (dep a<=60))=true then some (.bl (!bq a b),g)else none
def O3 (hu:X.A.units+64<cLine):bO X (wR .NotEq) (dW X.kw bf):=by
 intro r s B H x y v u Q I a e q;obtain⟨n,g,h,f,d,i,G0,b,c,q,p⟩:=q;unfold bf at q;split at q
 . rename_i z
   simp only[nc,decide_eq_true_eq]at z;cases q;exact(IX I h f z.1.1 z.1.2 b c a e (by lia)).2 _ _ _ _ ⟨.bl _,H,I,rfl,p H n _ Ext.refl G0 (by simp[Rel])⟩
 . cases q
@[simp] def Zy {b:D}:bf v b a=if(flat v&&flat b&&decide (dep v<=60))=true then some (.bl (!bq v b),a)else none:=rfl
noncomputable def fM:List D->Option (List Int)
 | []=>some []|.int i::ds=>(fM ds).map (i :: ·)|_=>none
def B3 (h:fM (v::A)=some r):∃i c,v = .int i/\r=i::c/\fM A=some c:=by
 cases v with
 |int i =>
  simp only[fM,p7]at h;obtain⟨c,a,rfl⟩:=h;exact⟨i,c,rfl,rfl,a⟩
 |_=>simp[fM]at h
theorem oW {K H ι}:∀{u:List D} {g:List V} {n:List Value} {p:List Int},fM u=some p->ai K H ι u g->Vals g n->BJ n p
 | [],g,n,p,h,r,q=>by cases r;cases q;cases h;exact .nil
 |d::ds,g,n,p,h,r,q=>by
  obtain⟨i,B,rfl,rfl,b⟩:=B3 h;obtain⟨v,c,rfl,rfl,a⟩:=r;cases q with
  |cons x y =>
   obtain⟨t,rfl⟩:=x;exact .cons i t (oW b a y)
theorem nH:∀{g:List Value} {i:List Int},BJ g i->∃c:List (Int×Tok),g=c.map (λp=>afv p.1 p.2)/\i=c.map (·.1)
 |_,_,.nil=>⟨[],rfl,rfl⟩|_,_,.cons n t h=>by obtain⟨c,rfl,rfl⟩:=nH h;exact⟨(n,t)::c,rfl,rfl⟩
def i0 (ds:List D)(g:G):Option (D×G):=match ds with| [d]=>(fB d g).bind λc=>(fM c).bind λh=>h.min?.map λm=>(.int m,g)|_=>none
def Ll (B:X.A.handled=none):dY X (.builtin "min") (mF X.kw i0):=by
 intro cv s σ H xs us Q I r q;obtain⟨C,g,ds,d,g',G0,z,q,p⟩:=q;cases ds with
 |nil=>cases q|cons e E =>
 cases E with
 |cons _ _=>cases q
 |nil =>
  simp only[i0]at q;obtain⟨ys,hx,q⟩:=bind_some q;obtain⟨ns,o,q⟩:=bind_some q;obtain⟨m,hm,q⟩:=p7.mp q;cases q;obtain⟨v,_,rfl,x,rfl⟩:=z;obtain⟨a,vs,rfl,hq,u⟩:=iy G0 x hx;cases r with
  |cons J M =>
   cases M;cases J;obtain⟨aq,O,n,_⟩:=I.list hq;obtain⟨b,rfl,rfl⟩:=nH (oW o u O);obtain⟨c,R⟩:=agQ.mp hm;have U:(b.map (λp=>afv p.1 p.2)).toArray=intItems b.toArray:=by simp[intItems]
   have f:=n.isList;rw[U]at f;have h:0<b.toArray.size:=by
    cases b with
    |nil=>simp at c|cons _ _=>simp
   refine min_intList B f h λv h' tk Y hk=>?_;obtain⟨t,rfl⟩:=intItems_at Y;obtain⟨h1,y⟩:=argBest_lt (numAt b.toArray) (b.toArray.size-1);have e:numAt b.toArray (argBest (λi j=>decide (numAt b.toArray i<numAt b.toArray j)) (b.toArray.size-1))=m:=by
    have Z:∀j,j<b.length->numAt b.toArray j=(b.map (·.1)).getD j 0:=λj l=>by rw[ag3]
    have l1:numAt b.toArray (argBest (λi j=>decide (numAt b.toArray i<numAt b.toArray j)) (b.toArray.size-1))∈b.map (·.1):=by rw[ag3];exact getD_mem (by rw[ro];simp at h h1 ⊢;lia)
    refine Int.le_antisymm ?_ (R _ l1);obtain⟨j,l,ej⟩:=mem_getD c;rw[<- ej];have:=y j (by simp at l ⊢;lia);rw[ag3]at this;rw[ag3];simpa[ag3]using this
   rw[e];exact⟨.int m,H,I.kept hk,⟨_,rfl⟩,p H C _ Ext.refl G0 (by simp[Rel])⟩
theorem baS:∀{c:List Value} {g:List Int},BJ c g->Vals (g.map V.int) c
 |_,_,.nil=>.nil|_,_,.cons n t h=>.cons ⟨t,rfl⟩ (baS h)
theorem sQ {K:KW}{H:Hp}{g:Ix}:∀c:List Int,ai K H g (c.map D.int) (c.map V.int)
 | []=>by simp[ai]|n::c=>by simp only[x8,ai];exact⟨_,_,rfl,by simp[Rel],sQ c⟩
noncomputable def S_ (i j k:Nat)(b:TA):TS:=λD c H=>b c H λa g=>∃v w z,a = [v,w,z]/\D.nx (((c.set i (some v)).set j (some w)).set k (some z)) g
def Lm {y z:Str}{M:TA}{pt:Pos}{kt k2 pt2}(T:X.calm=true)(J:X.N.Nodup)(S:X.N[n]? = some x)(W:X.N[p]? = some y)(P:X.N[o]? = some z)(Y:n≠p)(R:n≠o)(U:p≠o)(K:X.env.scope.names.lookup x=some .local)(L:X.env.scope.names.lookup y=some .local)(hz:X.env.scope.names.lookup z=some .local)(O:PA X [e,C,m] M)(hw:TL [.Tuple [.Name x w,.Name y s,.Name z k] kt pt] (.Tuple [e,C,m] k2 pt2) X.env=pure (some [x,y,z]))(Q:VH [.Tuple [.Name x w,.Name y s,.Name z k] kt pt] (.Tuple [e,C,m] k2 pt2) B.line X.env=pure false):
  PS X (.Assign [.Tuple [.Name x w,.Name y s,.Name z k] kt pt] (.Tuple [e,C,m] k2 pt2) B) (S_ n p o M):=by
 intro cv a σ H D I h;rw[exec_Assign_arm];refine mA (ad9 ?_);rw[Q];refine mA (mT ?_);rw[if_neg (by decide)];refine mA (Tuple_ (aX (O _ cv a σ H _ I h) λus g aS=>?_));obtain⟨vs,H1,I1,r1,l⟩:=aS;obtain⟨v,c,u,e1,l⟩:=l;subst e1;obtain⟨d,f,E,rfl,r,wF,ru⟩:∃d f E,us = [d,f,E]/\m5 v d/\m5 c f/\m5 u E:=by
  cases r1 with
  |cons b q =>
   cases q with
   |cons p' q' =>
    cases q' with
    |cons Z q'' =>
     cases q'';exact⟨_,_,_,rfl,b,p',Z⟩
 refine AF ?_ (by show 3<=nE;decide);have I2:mH X cv σ H1 { g with heap:=g.heap.push { cls:=.type "tuple",data:=.seq [d,f,E].toArray } }:=I1.kept (t':=g.toks) λC px i=>nU _ i;rw[hw];refine mA (mT ?_);show wpAny (model X.prog X.w) X.A (do rule "assign.swapped-stores";let items <- unpackItems (.ref g.heap.objs.size) 3 none;aeK [λv=>Pj X.env z v,λv=>Pj X.env y v,λv=>Pj X.env x v] items.reverse;pure aho) _ _ _;refine mA (DF (mA (unpackItems_tuple (items:=#[d,f,E]) (I.ok.hd T) (IsTup.new g.heap _) λh' qw=>?_)));have I3:=I2.kept (h':=h') (t':=g.toks) λC px i=>qw C px (sI (n7 i)) i;show wpAny _ _ (aeK [λv=>Pj X.env z v,λv=>Pj X.env y v,λv=>Pj X.env x v] [E,f,d] >>= λ_=>pure aho) _ _ _;refine mA (adi (aeu (fZ I3 J P (.inl hz) ru (λs2 I4=>?_) (.inr hz))));refine adi (aeu (fZ I4 J W (.inl L) wF (λs3 I5=>?_) (.inr L)));refine adi (aeu (fZ I5 J S (.inl K) r (λs4 j=>afS (mT ?_)) (.inr K)));rw[afK _ _ (om Y),afK _ _ (om R),afK _ _ (om U)]at j;exact⟨_,H1,j,l⟩
noncomputable def sR (i j k:Nat)(fr:FA):FS:=λh g=>(fr h g).bind λr=>match r.1 with
 | [a,b,c]=>some (.nx,((h.set i (some a)).set j (some b)).set k (some c),r.2)|_=>none
def Ln {y z:Str}{A:Pos}{kt k2 pt2}(P:X.calm=true)(T:X.N.Nodup)(O:X.N[n]? = some x)(R:X.N[p]? = some y)(K:X.N[o]? = some z)(S:n≠p)(M:n≠o)(Q:p≠o)(E:X.env.scope.names.lookup x=some .local)(J:X.env.scope.names.lookup y=some .local)(hz:X.env.scope.names.lookup z=some .local)(I:DA X [e,C,m] Y)(hw:TL [.Tuple [.Name x w,.Name y B,.Name z s] kt k] (.Tuple [e,C,m] k2 pt2) X.env=pure (some [x,y,z]))(L:VH [.Tuple [.Name x w,.Name y B,.Name z s] kt k] (.Tuple [e,C,m] k2 pt2) A.line X.env=pure false):
  DS X (.Assign [.Tuple [.Name x w,.Name y B,.Name z s] kt k] (.Tuple [e,C,m] k2 pt2) A) (sR n p o Y):=.of (
 PS.imp (Lm P T O R K S M Q E J hz I.un hw L) λDn σ H h=>by
  obtain⟨ι,Z,g,r,cb,g',G0,j,h,b⟩:=h;obtain⟨⟨ds,g1⟩,l,h⟩:=bind_some h;refine iW.bind G0 j l λH1 U vs q a i f=>?_;dsimp only at h;split at h
  . rename_i e C m
    cases h;obtain⟨v,vr,rfl,c,u,ur,rfl,d,t,tr,rfl,rc,rfl⟩:=f;exact⟨v,u,t,rfl,b H1 U q a _ (((i.set c n).set d p).set rc o)⟩
  . cases h)
@[simp] def XE:sR n p o Y l a=(Y l a).bind λr=>match r.1 with
 | [i,b,c]=>some (.nx,((l.set n (some i)).set p (some b)).set o (some c),r.2)|_=>none:=rfl
@[simp] def XF:i0 [v] a=(fB v a).bind λc=>(fM c).bind λg=>g.min?.map λm=>(.int m,a):=rfl
def oE {l:Addr}{n:Option Int}(i:IsTup c.heap f Z)(o:c.heap.IsSliceOf l T h .none)(t:Bs T n)(r:Bs h j)(hw:bw Z.size 0 n=0/\bw Z.size Z.size j=Z.size)(p:Q (.ref f) c):wpAny (model q u) J (Q2 (.ref f) (.ref l)) Q E c:=by
 obtain⟨os,a,g,e⟩:=id o;have b:c.TypeIs (.ref l) "slice":=⟨os,a,g⟩
 unfold Q2;try with_reducible refine v3 ?_
 first|refine mA (mT ?_)|skip
 refine mA (adO i.typeIs (by decide) ?_);refine mA (IF (name:=th "__getitem__") i.typeIs Pl
  (x9 Pl i.typeIs afe ?_ (afB _ _)))
 show wpAny _ _ (adm (.ref f) >>= _) _ _ c;refine mA (ag8 i ?_);refine mA (ael b ?_);rw[if_pos (by decide)];refine mA (kM o t r ?_);have d:((((bw Z.size 0 n:Nat):Int)== 0&&(1:Int)== 1&&(bw Z.size Z.size j-bw Z.size 0 n)== Z.size)=true):=by rw[hw.1,hw.2];simp
 show wpAny _ _ (if(((bw Z.size 0 n:Nat):Int)== 0&&(1:Int)== 1&&(bw Z.size Z.size j-bw Z.size 0 n)== Z.size)=true then _ else _) _ _ c;rw[if_pos d];unfold Builtin.Tuple.tupleIsExact;refine mA (mA (ael i.typeIs (mT ?_)));rw[if_pos (by decide)];refine mA (DF (mT ⟨_,rfl,mT p⟩))
def XH (K:KW):V->Option Int->Option Int->Hp->VK->Prop:=λx g b H Q=>∃a c,x = .ref a/\fJ K H a c/\(bw c.length 0 g=0/\bw c.length c.length b=c.length)/\Q (.ref a) H
def GZ:qA X (XH X.kw):=by
 intro y s B H x v j n C l p Q I c d e pu h;obtain⟨a,u,rfl,f,hw,q⟩:=h;cases c;obtain⟨i,r,b,o⟩:=I.tuple f;have g:i.toArray.size=u.length:=by rw[pd];exact r.length.symm
 refine⟨"tuple",_,Pl.lookup,b.typeIs,?_⟩;exact oE b d e pu (by rw[g];exact hw) ⟨.ref a,H,I,rfl,q⟩
def i5 (d:D)(a b:Option Int)(g:G):Option (D×G):=match d with
 |.tup c=>some (.tup (tf c a b),g)|d=>OS d a b g
def Ef {b:Option Int}(h:mL A.length j b=true):tf A j b=A:=by unfold mL at h;rw[nc,decide_eq_true_eq,decide_eq_true_eq]at h;unfold tf;rw[h.1,h.2];simp
def dC (c:FE)(b a:FO):FE:=λi g=>(c i g).bind λr=>(b i r.2).bind λl=>(a i l.2).bind λh=>i5 r.1 l.1 h.1 h.2
def Eg {E C:Option Expr}(A:DE X e K)(M:DO X E t)(R:DO X C g):DE X (.Subscript e (.Slice E C none w) B) (dC K t g):=.of (
 PE.imp (Gp (qA.or K_ GZ) A.un M.un R.un) λσ H Q h=>by
  obtain⟨ι,O,I,d,g',G0,S0,h,p⟩:=h;obtain⟨⟨d1,g1⟩,h1,h⟩:=bind_some h;obtain⟨⟨l,g2⟩,h2,h⟩:=bind_some h;obtain⟨⟨u,g3⟩,h3,h⟩:=bind_some h;refine tD.bind G0 S0 h1 λH1 U v e1 G1 S1 r1=>?_;refine⟨U,O,g1,l,g2,G1,S1,h2,λH2 Y x G2=>?_⟩;refine⟨Y,O,g2,u,g3,G2,S1.ext x,h3,λy Z e3 i=>?_⟩;have o:=Rel.ext (x.trans e3) _ r1;have s:=p.mono (e1.trans (x.trans e3));have lst:∀{J:List D} {e:Addr} {f:List V},v = .ref e->dQ X.kw y e f->ai X.kw y Z J f->some (D.lst (tf J l u),g3)=some (d,g')->OU X.kw v l u y Q:=fun {J e f} ev j a R=>by cases R;refine .inr ⟨e,f,ev,j,λq b=>s _ _ _ (Ext.lay b) (i.lay b) ?_⟩;simp only[Rel];exact⟨q,_,rfl,.inl ⟨.inl aQ,i.fresh b,i.iV b⟩,ai.ext (Ext.lay b) _ (a.OT l u)⟩
  dsimp only at h;cases d1 with
  |tup J =>
   simp only[i5]at h;cases h;have r4:=o;obtain⟨e,f,rfl,j,a⟩:=o;by_cases z:mL J.length l u=true
   . refine .inr ⟨e,f,rfl,j.sq,?_,s _ _ _ Ext.refl i ?_⟩
     . unfold mL at z
       rw[a.length,nc,decide_eq_true_eq,decide_eq_true_eq]at z;exact z
     . rw[Ef z];exact r4
   . refine .inl (.inl ⟨e,f,rfl,j.sq,λc=>z ?_,λq b=>s _ _ _ (Ext.lay b) (i.lay b) ?_⟩)
     . unfold mL
       rw[a.length,nc,decide_eq_true_eq,decide_eq_true_eq];exact c
     . simp only[Rel]
       exact⟨q,_,rfl,.inl ⟨.inl aQ,i.fresh b⟩,ai.ext (Ext.lay b) _ (a.OT l u)⟩
  |lst J =>
   simp only[i5,OS]at h;obtain⟨e,f,r,j,a⟩:=o;exact .inl (lst r j.sq a h)
  |ref n =>
   simp only[i5,OS]at h;split at h
   . rename_i J hx
     obtain⟨e,r,A⟩:=o;obtain⟨f,hv,a⟩:=i.at hx A;exact .inl (lst r (.of hv) a h)
   . cases h
  |_=>cases h)
@[simp] def Lp:dC K t g l a=(K l a).bind λr=>(t l r.2).bind λc=>(g l c.2).bind λh=>i5 r.1 c.1 h.1 h.2:=rfl
mutual
noncomputable def sm:D->Bool
 |.aB=>true|.bl _=>true|.int i=>decide (i.natAbs<10 ^ 19)|.str x=>decide ((reprText x).length<=20)|.tup c=>U8 c|.lst _=>false|.dU=>false|.ref _=>false|.aA _=>false|.fn _ _=>false
noncomputable def U8:List D->Bool
 | []=>true|d::ds=>sm d&&U8 ds
end
mutual
noncomputable def nd:D->Nat
 |.tup c=>U9 c+1|_=>1
noncomputable def U9:List D->Nat
 | []=>0|d::ds=>nd d+U9 ds
end
noncomputable def tt:D->Bool
 |.tup (.tup _::_)=>true|_=>false
abbrev sT:=Sg->G->Option (Nat×Nat×G)
def G_ {fr:List (Option Nat)}{q:FI}{t:FG}{c:FT}(b:X.xe=λ_ _=>False)(r:X.calm=true)(ok:fF X R fr I)(a:DI X e C q)(f:∀g i H n p,DG (bj X R I g i H n p) e t/\iw (bj X R I g i H n p) d c/\DE (bj X R I g i H n p) m K)(h:∀x,FV C X.env x=pure x):DE X (.ListComp m [⟨e,C,d,0⟩] I B) (bC j4 q fr t c K):=by
 rw[pR];exact D2 b r ok (oS a) f h
noncomputable def bN:FE:=λ_ _=>none
def bH:DE X e bN:=.of (λi s n H Q I h=>by obtain⟨q,a,g,d,b,G0,c,h,p⟩:=h;cases h)
@[simp] def XI:bN l a=none:=rfl
end
section
open PyProof.Rows
open Sem (wp)
open Builtin
def baz:fillsNumberSlot (.type "list") "mul" = pure false :=
 af6 (id:="list.__mul__") (r:=some (.builtin "list.__rmul__")) F.slot_list_mul.lookup (by decide +kernel) F.slot_list_rmul.lookup (by decide +kernel)
def baA:ag1 (.type "list")=pure (some (.builtin "list.__mul__")):=by unfold ag1;rw[aeR (T:="list") (name:="__mul__") (id:="list.__mul__") F.slot_list_mul.lookup (by decide +kernel),aeR (T:="list") (name:="__rmul__") (id:="list.__rmul__") F.slot_list_rmul.lookup (by decide +kernel)];rfl
def vO (a:Int)(t:Tok)(l:Addr)(p:Array Value)(n:Nat)(f:Option Addr)(i:Array (Option Value)):
  Meets (u3.«int.__rmul__» ⟨[.int a t,.ref l],[]⟩) (λ_ R s=>s.heap.get? l=some { cls:=.type "list",dict:=f,data:=.seq p n,slots:=i }/\R (.ok (.ret ag2)) s):=
 .of_wp λprog w A R s h=>by obtain⟨b,g,d,c,os⟩:=s;obtain⟨e,h⟩:=h;wp_walk;exact⟨_,rfl,h⟩
def Eh (l:Addr)(r:Array Value)(n:Nat)(e:Option Addr)(f:Array (Option Value))(x:Int)(u:Tok)(q:¬(!aeb x)=true)
  (p:¬r.size*x.toNat>(2 ^ 63-1) / 8) (j:¬acn (r.size*x.toNat)=true) (i:r.isEmpty=false) (o:((nW x.toNat r).foldl (· ++ ·) #[]).size<=nE):
  Meets (u3.«list.__mul__» ⟨[.ref l,.int x u],[]⟩) (λ_ R s=>s.heap.get? l=some { cls:=.type "list",dict:=e,data:=.seq r n,slots:=f }/\R (.ok (.ret (FY s.heap.objs.size))) { s with heap:=s.heap.push { cls:=wz "list",data:=Data.seq ((nW x.toNat r).foldl (· ++ ·) #[]) },toks:=s.toks }):=
 .of_wp λprog w A R s h=>by
  obtain⟨b,g,d,c,os⟩:=s;obtain⟨a,h⟩:=h;have v:=adB;have y:=aeI
  wp_walk using Qs a
  exact⟨_,rfl,by rw[if_neg (by simp[i])];exact h⟩
def Ta (K:KW):R2:=λx y H Q=>∃a k c,x = .ref a/\y = .int k/\dQ K H a c/\c ≠ []/\0<=k/\k<2 ^ 62/\c.length*k.toNat<=16777216 /\ ∀p,H p=none->Q (.ref p) (upd H p (.lst (nW k.toNat c).flatten))
def Ah:bO X (tA .Mult) (Ta X.kw):=by
 intro cv s σ H x y v u Q I z g h;obtain⟨a,k,B,rfl,rfl,hq,hx,h1,h2,p,C⟩:=h;cases z;obtain⟨t,rfl⟩:=g;obtain⟨c,r,ht,ab⟩:=I.list hq;have E:=r.length;obtain⟨⟨cls,dd,data,q⟩,n,d,l,o,hd⟩:=id ht;simp only at l hd o;subst l hd o;refine wpAny_binaryOp_repeat_ref (T:="list") (U:="int") (by decide) ⟨_,d,rfl⟩ (λJ=>af2 J k t) baz F.fills_int_mul F.slot_int_rmul baA F.slot_int_index.lookup
   (UH F.slot_int_rmul (af2 s k t) F.entry_int_rmul (F.args_int_rmul_2 _ _) (vO k t a c.toArray n none q) ⟨d,rfl,⟨_,d,rfl⟩,?_⟩)
 have M:c ≠ []:=λe=>hx (by subst e;cases r;rfl);have fresh:H s.heap.objs.size=none:=I.aW.fresh (nA _);have i:agY (λO R=>O++R) #[] (nW k.toNat c.toArray)=(nW k.toNat c).flatten.toArray:=by have:=bam c k.toNat [];rw[QX]at this;exact this
 have f:nE=16777216:=L3;have j:c.length*k.toNat<=16777216:=by rw[<- E];exact p
 have Y:¬(!aeb k)=true:=by unfold aeb;simp;lia
 have Z:¬acn (c.toArray.size*k.toNat)=true:=by rw[wU (by rw[pd,f];exact j)];simp
 refine UH F.slot_list_mul ⟨_,d,rfl⟩ F.entry_list_mul (F.args_list_mul_2 _ _) (Eh a c.toArray n none q k t Y (by rw[pd];lia) Z (by simp[M]) ?_) ⟨d,?_⟩
 . rw[i,pd,len_rep,XU,f];exact j
 . rw[i]
   refine⟨.ref _,_,I.laid (t':=s.toks) (λb u e=>nU _ e) (nA _) (show dX X.prog X.w _ _ _ (.lst (nW k.toNat B).flatten) from⟨by rw[len_rep,XU,f];exact p,_,0,r.rep k.toNat,qt _ rfl⟩),rfl,C _ fresh⟩
def ko (b a:D)(g:G):Option (D×G):=match b,a with
 |.lst c,.int k=>if(!c.isEmpty&&decide (0<=k)&&fK k&&az (c.length*k.toNat))=true then some (.lst (nW k.toNat c).flatten,g)else none|b,a=>cP b a g
def Lq:bO X (tA .Mult) (dW X.kw ko):=by
 intro B s C H x y v u Q I i j q;obtain⟨E,g,J,r,d,M,G0,f,h,q,p⟩:=q;unfold ko at q;split at q
 . rename_i R k
   split at q
   . rename_i z
     simp only[nc,decide_eq_true_eq,x3]at z;cases q;simp only[Rel]at f h;subst h;obtain⟨a,n,rfl,hq,c⟩:=f;have o:=fK.and z.1.2;have l:=az.le z.2;rw[L3]at l;refine Ah B s C H _ _ v u Q I i j ⟨a,k,n,rfl,rfl,hq.sq,?_,z.1.1.2,o.2,by rw[<- c.length];exact l,λO b=>?_⟩
     . intro e
       subst e;have:=c.length;simp at this;subst this;simp at z
     . refine p _ _ _ (Ext.lay b) (G0.lay b) ?_
       simp only[Rel];exact⟨O,_,rfl,.inl ⟨.inl aQ,G0.fresh b,G0.iV b⟩,ai.ext (Ext.lay b) _ (c.rep _)⟩
   . cases q
 . exact xl B s C H x y v u Q I i j ⟨E,g,J,r,d,M,G0,f,h,q,p⟩
@[simp] def U_ {j:Int}:ko (.int i) (.int j) a=if c_ i j=true then some (.int (i*j),a)else none:=rfl
@[simp] def Va:ko (.tup A) (.int i) a=cP (.tup A) (.int i) a:=rfl
@[simp] def Vb:ko (.lst A) (.int i) a=if(!A.isEmpty&&decide (0<=i)&&fK i&&az (A.length*i.toNat))=true then some (.lst (nW i.toNat A).flatten,a)else none:=rfl
end
section
open PyProof.Rows
def O5 {g:Addr}(I:mH X b y H c)(s:gU X b H g)(h:dQ X.kw H f U):f≠g:=λz=>by
 subst z;obtain⟨p,r,u,d,v,e⟩:=s;rcases h with h|⟨o,aq,n,hk,_⟩
 . rcases h with h|⟨o,h⟩<;>rw[p]at h<;>cases h
 . have i:X.base.get? f=some o:=I.ok.mod.rV f o hk
   rcases d with q|q
   . exact I.ok.qP f o i q
   . exact D7 _ (wh (n7 (I.ok.bs f o i).1) q)
end
section
open PyProof.Rows SeqAt
variable {Z:Array rG}{Y:Ix}
def gJ (s:mJ)(m:Nat)(u:Value):Prop:=∀(prog:uV) (w:World) (A:qr) (E:Value->mJ->Prop) (Q:Bool->mJ->Prop),Q true s->wpAny (model prog w) A (agv m u) Q E s
structure I_ (A:qr)(s:mJ)(key:Value)(h:Int)(es:Array rG)(t:Nat->Bool):Prop where
 eq:∀i e,es[i]? = some e->e.hash=h->EqAt A s e.key key (t i)
 hs:∀i e,es[i]? = some e->t i=true->e.hash=h
 qk:gJ s 8 key
 qe:∀e∈es,gJ s 8 e.key
 rf:∀e∈es,e.key=key->e.hash=h
 un:∀i j,i<es.size->j<es.size->t i=true->t j=true->i=j
 st:∀x tk,key = .str x tk->∀i e,es[i]? = some e->isExactStrKey e.key=true->e.key.isStr x=t i
def rh {Q:Bool->mJ->Prop}(f:gJ c 8 T)(e:∀v∈M,gJ c 8 v)(prog:Q false c):wpAny (model q u) J (tableMayTell T M) Q E c:=by
 unfold tableMayTell;split
 . exact mT prog
 refine mA (f q u _ _ _ ?_);simp only[aea,sJ,if_false];refine mA (adC _ (λrest r z=>z=c/\r=(none,()) /\ ∀v∈rest,gJ c 8 v) _ ?_ ?_ _ _ ⟨rfl,rfl,e⟩)
 . rintro x rest r z ⟨rfl,rfl,a⟩
   refine mA (a x tc q u _ _ _ ?_);simp only[aea,sJ,if_false];exact mT ⟨rfl,rfl,λv b=>a v (qz _ b)⟩
 . rintro r z ⟨rfl,rfl,_⟩
   exact mT prog
def nI:n∈Fz Z.size (λn=>Z[n]?.map (·.hash)) i ↔ ∃e,Z[n]? = some e/\e.hash=i:=by
 unfold Fz;simp only[Fp,aet,beq_iff_eq,p7];constructor
 . rintro⟨_,e,a,b⟩;exact⟨e,a,b⟩
 . rintro⟨e,a,b⟩;exact⟨(adn.mp a).1,e,a,b⟩
def xC {es:Array rG}{h:Int}:(Fz es.size (λi=>es[i]?.map (·.hash)) h).Nodup:=by unfold Fz;exact agl.sublist adE
def uj {s:mJ}{o:Obj}{es:Array rG}{h:Int}{t:Nat->Bool}{Q:Option Nat->mJ->Prop}(C:s.heap.get? f=some o)(B:o.data = .dict es n)(K:I_ J s T h es t)(I:(∀i,i<es.size->t i=false)->Q none s)(H:∀i,i<es.size->t i=true->Q (some i) s):
  wpAny (model q u) J (dictFind f T h) Q E s:=by
 have none_of:(∀i∈Fz es.size (λi=>es[i]?.map (·.hash)) h,t i=false)->Q none s:=λz=>I λi c=>by
  cases ht:t i with
  |false=>rfl
  |true =>
    have l:=J6 c;rw[z i (nI.mpr ⟨_,l,K.hs i _ l ht⟩)]at ht;cases ht
 have gen:∀tells:Bool,tells=false->wpAny (model q u) J (do
    let mut g:Option Nat:=none
    for i in Fz es.size (λi=>es[i]?.map (·.hash)) h do
      if let some e:=es[i]? then
        if e.hash == h then
          let before <- dictEpoch f (keyPart T);let same <- eqBool e.key T
          if(<- dictEpoch f (keyPart T)) != before then unsupported "dict.changed-during-lookup"
          if same then
            if g.isSome then unsupported "dict.find:order-among-keys-of-one-hash"
            rule "dict.find.hit"
            if((Fz es.size (λi=>es[i]?.map (·.hash)) h).filterMap λi=>es[i]?.map (·.key)).length<2 then return some i
            g:=some i
          else
            rule "dict.find.same-hash-other-key"
            if tells && !(0<=h&&h<32)then unsupported "dict.find:asked-again-or-not-hangs-on-the-table"
    return g) Q E s:=λtells r=>by
  subst r
  refine mA (adC _ (λrest (b:Option (Option Nat)×Option Nat) z=>z=s /\ ∃done,Fz es.size (λi=>es[i]?.map (·.hash)) h=done++rest/\b.1=none /\
    ((b.2=none /\ ∀i∈done,t i=false) \/ ∃i,b.2=some i/\i∈done/\i<es.size/\t i=true)) _ ?_ ?_ _ _ ⟨rfl,[],rfl,rfl,.inl ⟨rfl,λi z=>by simp at z⟩⟩)
  . rintro x rest ⟨U,g⟩ z ⟨rfl,done,d,rfl,j⟩
    have y:x∈Fz es.size (λi=>es[i]?.map (·.hash)) h:=by rw[d];simp
    obtain⟨e,he,prog⟩:=nI.mp y;have p:x<es.size:=(adn.mp he).1
    have O:Fz es.size (λi=>es[i]?.map (·.hash)) h=(done ++ [x])++rest:=by rw[d];simp
    rw[he];dsimp only at j ⊢;rw[if_pos (by simpa using prog)];refine mA (SW C B (mA (K.eq x e he prog q u _ _ (mA (SW C B ?_)))));rw[if_neg (by simp)];cases ht:t x with
    |true =>
      have M:g=none:=by
        rcases j with⟨M,_⟩|⟨i,_,c,eR,kZ⟩
        . exact M
        . have:=K.un i x eR p kZ ht
          subst this;have nd:=xC (es:=es) (h:=h);rw[d,UK]at nd;exact absurd rfl (nd.2.2 i c i tc)
      subst M;simp only[if_true,ahv,sJ,if_false];try refine mA (mT ?_)
      refine mA (DF ?_);split
      . exact mT (mT (H x p ht))
      . exact mT ⟨rfl,done ++ [x],O,rfl,.inr ⟨x,rfl,by simp,p,ht⟩⟩
    |false =>
      simp only[sJ,if_false,agH];refine mA (DF ?_);refine mT ⟨rfl,done ++ [x],O,rfl,?_⟩;rcases j with⟨M,hz⟩|⟨i,A,c,eR,kZ⟩
      . exact .inl ⟨M,λi c=>by
          rcases nY.mp c with c|c
          . exact hz i c
          . simp at c;subst c;exact ht⟩
      . exact .inr ⟨i,A,nY.mpr (.inl c),eR,kZ⟩
  . rintro⟨U,g⟩ z ⟨rfl,done,d,rfl,j⟩
    dsimp only at j ⊢;refine mT ?_;rcases j with⟨rfl,hz⟩|⟨i,rfl,_,eR,kZ⟩
    . exact none_of (by rw[d];simpa using hz)
    . exact H i eR kZ
 have plain:wpAny (model q u) J (dictWalkPlain f T h es (Fz es.size (λi=>es[i]?.map (·.hash)) h)) Q E s:=by
  unfold dictWalkPlain
  refine mA (adC _ (λrest b z=>z=s /\ ∃done,Fz es.size (λi=>es[i]?.map (·.hash)) h=done++rest/\b=(none,()) /\ ∀i∈done,t i=false) _ ?_ ?_ _ _ ⟨rfl,[],rfl,rfl,λi z=>by simp at z⟩)
  . rintro x rest b z ⟨rfl,done,d,rfl,j⟩
    have y:x∈Fz es.size (λi=>es[i]?.map (·.hash)) h:=by rw[d];simp
    obtain⟨e,he,prog⟩:=nI.mp y;have p:x<es.size:=(adn.mp he).1;rw[he];dsimp only;rw[if_pos (by simpa using prog)];refine mA (SW C B (mA (K.eq x e he prog q u _ _ (mA (SW C B ?_)))));rw[if_neg (by simp)];cases ht:t x with
    |true =>
      simp only[if_true];refine mA (DF ?_);exact mT (mT (H x p ht))
    |false =>
      simp only[sJ,if_false];refine mA (DF ?_);refine mT ⟨rfl,done ++ [x],by rw[d];simp,rfl,λi c=>?_⟩;rcases nY.mp c with c|c
      . exact j i c
      . simp at c;subst c;exact ht
  . rintro b z ⟨rfl,done,d,rfl,j⟩
    exact mT (none_of (by rw[d];simpa using j))
 have keys:∀v∈(Fz es.size (λi=>es[i]?.map (·.hash)) h).filterMap (λi=>es[i]?.map (·.key)),gJ s 8 v:=λv X=>by obtain⟨i,_,c⟩:=RI.mp X;obtain⟨e,he,rfl⟩:=p7.mp c;exact K.qe e (aeY he)
 unfold dictFind;refine v3 ?_;refine mA (adq C B ?_);cases T with
 |str x Y =>
  refine EY (λZ=>?_) (λ_=>?_)
  . unfold foundByValue
    have R:∀i e,es[i]? = some e->e.key.isStr x=t i:=λi e he=>K.st x Y rfl i e he (Array.all_eq_true_iff_forall_mem.mp Z e (aeY he))
    cases hf:es.findIdx? (·.key.isStr x)with
    |none =>
      refine mT (I λi c=>?_);rw[<- R i _ (J6 c)];simpa using (Array.findIdx?_eq_none_iff.mp hf) es[i] (afW c)
    |some i =>
      obtain⟨c,A,_⟩:=Array.findIdx?_eq_some_iff_getElem.mp hf;have l:=J6 c;rw[R i _ l]at A;dsimp only;rw[l];refine mA (SW C B (mA (K.eq i _ l (K.hs i _ l A) q u _ _ (mA (SW C B ?_)))));refine EY (λz=>by simp at z) (λ_=>?_);rw[A];exact mA (DF (mT (H i c A)))
  . refine EY (λ_=>plain) (λ_=>?_)
    refine EY (λ_=>mA (mT ?_)) (λ_=>mA (rh K.qk keys ?_))<;>
      exact EY (λz=>by simp at z) (λ_=>gen false rfl)
 |ref a =>
  refine EY (λz=>by simp[carriedByValue]at z) (λ_=>?_);refine EY (λz=>?_) (λ_=>?_)
  . rw[<- Array.any_toList,aeQ]at z
    obtain⟨e,he,w⟩:=z;simp only[nc,beq_iff_eq,bne_iff_ne,ne_eq]at w;exact absurd (K.rf e (Array.mem_toList_iff.mp he) w.1) w.2
  . refine EY (λ_=>mA (mT ?_)) (λ_=>mA (rh K.qk keys ?_))<;>
      exact EY (λz=>by simp at z) (λ_=>gen false rfl)
 |_ =>
  refine EY (λ_=>plain) (λ_=>?_);refine EY (λ_=>mA (mT ?_)) (λ_=>mA (rh K.qk keys ?_))<;>
    exact EY (λz=>by simp at z) (λ_=>gen false rfl)
mutual
theorem sU:∀(d:D) {n:Nat} {s:mJ} {A:qr} {x:V} {u:Value} {Q:Int->mJ->Prop},mH X b y H s->aU n d=true->Rel X.kw H Y d x->m5 x u->A.units+n<cLine ->
  (∀C,Q (hD X.w d) { s with toks:=C })->wpAny (model q X.w) A (pyHash u) Q E s
 |.aB,n,s,A,x,u,Q,I,k,r,B,hu,g=>by cases r;cases B;simp only[hD]at g;exact ahf (T:="NoneType") rfl F.slot_NoneType_hash F.entry_NoneType_hash (F.args_NoneType_hash_1 _) (agm _) (.inr (by lia)) (mA (mT (mA (wpAny_mkInt (mT ⟨_,_,rfl,g _⟩)))))|.int i,n,s,A,x,u,Q,I,k,r,B,hu,g=>by cases r;obtain⟨t,rfl⟩:=B;simp only[hD]at g;exact wpAny_pyHash_int (g _)
 |.str ι,n,s,A,x,u,Q,I,k,r,B,hu,g=>by cases r;obtain⟨t,rfl⟩:=B;simp only[hD]at g;exact wpAny_pyHash_str (g _)
 |.tup R,n+1,s,A,x,u,Q,I,k,r,B,hu,g=>by obtain⟨a,v,rfl,j,f⟩:=r;cases B;obtain⟨z,e,⟨o,c,l,m,h⟩,_⟩:=I.tuple j.sq;simp only[hD]at g;simp only[aU]at k;refine ahf (T:="tuple") ⟨o,c,l⟩ F.slot_tuple_hash F.entry_tuple_hash (F.args_tuple_hash_1 _) (agm _) (.inr (by lia)) ?_;show wpAny _ _ (adm (.ref a) >>= _) _ _ s;refine mA (wpAny_tupleItemsOf c h (mA ?_));rw[<- ahw];refine Ai R (acc:=#[]) I k f e (by rw[in1_units];lia) λC J p=>?_;show wpAny _ _ (retInt (af3 J.toList)) _ _ _;rw[p];exact mA (wpAny_mkInt (mT ⟨_,_,rfl,g _⟩))
 |.tup R,0,s,A,x,u,Q,I,k,r,B,hu,g=>by simp[aU]at k|.bl _,n,s,A,x,u,Q,I,k,r,B,hu,g=>by simp[aU]at k|.lst _,n,s,A,x,u,Q,I,k,r,B,hu,g=>by simp[aU]at k|.dU,n,s,A,x,u,Q,I,k,r,B,hu,g=>by simp[aU]at k|.ref _,n,s,A,x,u,Q,I,k,r,B,hu,g=>by simp[aU]at k|.aA _,n,s,A,x,u,Q,I,k,r,B,hu,g=>by simp[aU]at k|.fn _ _,n,s,A,x,u,Q,I,k,r,B,hu,g=>by simp[aU]at k
theorem Ai:∀(ds:List D) {n:Nat} {s:mJ} {A:qr} {M:List V} {O:List Value} {acc:Array Int} {Q:Array Int->mJ->Prop},mH X b y H s->kQ n ds=true->ai X.kw H Y ds M->Vals M O->A.units+n<cLine ->
  (∀C J,J.toList=acc.toList++DC X.w ds->Q J { s with toks:=C }) ->
  wpAny (model q X.w) A (forIn O acc λx r=>do let h <- pyHash x;pure ag4;pure (UU (r.push h))) Q E s
 | [],n,s,A,M,O,acc,Q,I,k,r,B,hu,g=>by cases r;cases B;exact mT (g s.toks acc (by simp[DC]))
 |d::ds,n,s,A,M,O,acc,Q,I,k,r,B,hu,g=>by
  obtain⟨v,i,rfl,a,c⟩:=r;simp only[kQ,nc]at k;cases B with
  |cons U Z =>
   rw[aeg];refine mA (mA (sU d I k.1 a U hu λC=>mA (mT (mT ?_))));exact Ai ds (I.tok C) k.2 c Z hu λe J f=>g e J (by simp[f,DC])
end
mutual
theorem uk:∀(d:D) {n m:Nat} {s:mJ} {x:V} {u:Value},mH X b y H s->aU n d=true->n<=m->Rel X.kw H Y d x->m5 x u->gJ s m u
 |.aB,n,m,s,x,u,I,k,hm,r,g=>by cases r;cases g;intro q w A E Q C;unfold agv;exact mT C|.int i,n,m,s,x,u,I,k,hm,r,g=>by cases r;obtain⟨t,rfl⟩:=g;intro q w A E Q C;unfold agv;exact mT C
 |.str ι,n,m,s,x,u,I,k,hm,r,g=>by cases r;obtain⟨t,rfl⟩:=g;intro q w A E Q C;unfold agv;exact mT C
 |.tup O,n+1,m,s,x,u,I,k,hm,r,g=>by
  obtain⟨a,J,rfl,hq,B⟩:=r;cases g;obtain⟨R,U,⟨o,l,h2,z,Z⟩,_⟩:=I.tuple hq.sq;simp only[aU]at k;intro q w A E Q C;have p:s.TypeIs (.ref a) "tuple":=⟨o,l,h2⟩
  obtain⟨m,rfl⟩:∃j,m=j+1:=⟨m-1,by lia⟩
  unfold agv;refine mA (agu p F.slot_tuple_eq.lookup ?_);show wpAny _ _ (isInstance (.ref a) (.type "tuple") >>= _) _ _ s;refine mA (ad5 p isSubtype_tuple_tuple ?_);simp only[aea,sJ,if_false];refine mA (adX l Z (mA ?_));show wpAny _ _ (forIn R.toArray _ _) _ _ s;rw[<- ahw];have e:=xD O (m:=m) I k (by lia) B U;refine adC _ (λrest r c=>r.1=none/\c=s /\ ∀v∈rest,gJ s m v) _ ?_ ?_ _ _ ⟨rfl,rfl,e⟩
  . rintro v rest r c ⟨B,rfl,h⟩
    refine mA (h v tc q w _ _ _ ?_);simp only[aea,sJ,if_false];exact mT ⟨rfl,rfl,λu f=>h u (qz _ f)⟩
  . rintro⟨r1,r2⟩ c ⟨B,rfl,_⟩
    simp only at B;subst B;exact mT C
 |.tup O,0,m,s,x,u,I,k,hm,r,g=>by simp[aU]at k|.bl _,n,m,s,x,u,I,k,hm,r,g=>by simp[aU]at k|.lst _,n,m,s,x,u,I,k,hm,r,g=>by simp[aU]at k|.dU,n,m,s,x,u,I,k,hm,r,g=>by simp[aU]at k|.ref _,n,m,s,x,u,I,k,hm,r,g=>by simp[aU]at k|.aA _,n,m,s,x,u,I,k,hm,r,g=>by simp[aU]at k|.fn _ _,n,m,s,x,u,I,k,hm,r,g=>by simp[aU]at k
theorem xD:∀(ds:List D) {n m:Nat} {s:mJ} {J:List V} {M:List Value},mH X b y H s->kQ n ds=true->n<=m->ai X.kw H Y ds J->Vals J M->∀v∈M,gJ s m v
 | [],n,m,s,J,M,I,k,hm,r,g=>by cases r;cases g;intro v a;simp at a
 |d::ds,n,m,s,J,M,I,k,hm,r,g=>by
  obtain⟨v,e,rfl,a,c⟩:=r;simp only[kQ,nc]at k;cases g with
  |cons r0 rr =>
   intro z B;rcases nQ.mp B with rfl|B
   . exact uk d I k.1 hm a r0
   . exact xD ds I k.2 hm c rr z B
end
mutual
theorem fu:∀(d:D) {n:Nat},aU n d=true->flat d=true/\dep d<=n
 |.aB,n,h=>⟨rfl,tj _⟩|.int _,n,h=>⟨rfl,tj _⟩|.str _,n,h=>⟨rfl,tj _⟩|.tup g,n+1,h=>by simp only[aU]at h;obtain⟨a,b⟩:=vb g h;exact⟨a,by simp only[dep];lia⟩
 |.tup g,0,h=>by simp[aU]at h|.bl _,n,h=>by simp[aU]at h|.lst _,n,h=>by simp[aU]at h|.dU,n,h=>by simp[aU]at h|.ref _,n,h=>by simp[aU]at h|.aA _,n,h=>by simp[aU]at h|.fn _ _,n,h=>by simp[aU]at h
theorem vb:∀(ds:List D) {n:Nat},kQ n ds=true->aO ds=true/\bF ds<=n
 | [],n,h=>⟨rfl,tj _⟩|d::ds,n,h=>by simp only[kQ,nc]at h;obtain⟨a,b⟩:=fu d h.1;obtain⟨c,e⟩:=vb ds h.2;exact⟨by simp[aO,a,c],by simp only[bF];lia⟩
end
mutual
theorem gq:∀(d e:D) {n m:Nat},aU n d=true->aU m e=true->(bq d e=true ↔ d=e)
 |.aB,e,n,m,h,k=>by cases e<;>simp_all[aU,bq]|.int _,e,n,m,h,k=>by cases e<;>simp_all[aU,bq]|.str _,e,n,m,h,k=>by cases e<;>simp_all[aU,bq]
 |.tup g,e,n+1,m,h,k=>by
  cases e with
  |tup i =>
   cases m with
   |zero=>simp[aU]at k
   |succ m =>
    simp only[aU]at h k;simp only[bq,D.tup.injEq];exact Aj g i h k
  |_=>simp_all[aU,bq]
 |.tup g,e,0,m,h,k=>by simp[aU]at h|.bl _,e,n,m,h,k=>by simp[aU]at h|.lst _,e,n,m,h,k=>by simp[aU]at h|.dU,e,n,m,h,k=>by simp[aU]at h|.ref _,e,n,m,h,k=>by simp[aU]at h|.aA _,e,n,m,h,k=>by simp[aU]at h|.fn _ _,e,n,m,h,k=>by simp[aU]at h
theorem Aj:∀(ds c:List D) {n m:Nat},kQ n ds=true->kQ m c=true->(gY ds c=true ↔ ds=c)
 | [],c,n,m,h,k=>by cases c<;>simp[gY]|d::ds,[],n,m,h,k=>by simp[gY]|d::ds,e::c,n,m,h,k=>by simp only[kQ,nc]at h k;simp only[gY,nc,List.cons.injEq,gq d e h.1 k.1,Aj ds c h.2 k.2]
end
end
section
def aJ:List D->D->Option D
 |k::v::r,c=>if bq k c=true then some v else aJ r c|_,_=>none
def aP:List D->D->D->List D
 |k::v::r,c,val=>if bq k c=true then k::val::r else k::v::aP r c val|_,c,val=>[c,val]
def tq:List D->D->Nat->Bool
 |k::_::_,c,0=>bq k c|_::_::r,c,i+1=>tq r c i|_,_,_=>false
end
section
open PyProof.Rows SeqAt
variable {i R:List rG}{Z:Ix}{U t:V}{m:D->List D->G->Option (D×G)}{Q w:String}{O:D}{I:D->Bool}{u:Pos}{s:List (Option Expr)}{r:Value}
inductive Ent (K:KW)(H:Hp)(ι:Ix):List D->List rG->Prop
 |nil:Ent K H ι [] []
 |cons {k v:D} {kv vv:V} {r:List D} {e:rG} {es:List rG}:aU 6 k=true->e.hash=hD K.w k->Rel K H ι k kv->m5 kv e.key->Rel K H ι v vv->m5 vv e.val->Ent K H ι r es->Ent K H ι (k::v::r) (e::es)
theorem Ent.of {K H ι}:∀{p:List rG} {n:List D} {q:List V},Vals q (kj p)->kR K.w n p->ai K H ι n q->Ent K H ι n p
 | [],n,q,g,h,r=>by cases h;exact .nil
 |e::p,n,q,g,h,r=>by
  cases h with
  |cons h1 h2 u =>
   obtain⟨a,j,rfl,f,b,i,rfl,c,d⟩:=r;cases g with
   |cons v g=>cases g with
    |cons x g=>exact .cons h1 h2 f v c x (Ent.of g u d)
theorem Ent.out {K H ι}:∀{i:List rG} {g:List D},Ent K H ι g i->kR K.w g i /\ ∃n,Vals n (kj i)/\ai K H ι g n
 | [],g,h=>by cases h;exact⟨.nil,[],.nil,by simp[ai]⟩
 |e::i,g,h=>by
  cases h with
  | @cons k v p q r _ _ h1 h2 u x y B C =>
   obtain⟨a,n,b,c⟩:=C.out;refine⟨.cons h1 h2 a,p::q::n,.cons x (.cons B b),?_⟩;simp only[ai];exact⟨p,_,rfl,u,q,_,rfl,y,c⟩
theorem Ent.at {K H ι}:∀{r:List rG} {n:List D} {i:Nat} {e:rG},Ent K H ι n r->r[i]? = some e->∃k p,aU 6 k=true/\(aK n)[i]? = some k/\e.hash=hD K.w k/\Rel K H ι k p/\m5 p e.key /\ ∀g,tq n g i=bq k g
 | [],n,i,e,h,q=>by simp at q
 |y::r,n,i,e,h,q=>by
  cases h with
  |cons h1 h2 u v B C x =>
   cases i with
   |zero=>simp at q;subst q;exact⟨_,_,h1,rfl,h2,u,v,λ_=>rfl⟩
   |succ i =>
    obtain⟨k,p,a,b,c,d,j,f⟩:=x.at (i:=i) (by simpa using q);exact⟨k,p,a,by simpa[aK]using b,c,d,j,λg=>f g⟩
theorem Ent.len {K H ι}:∀{g:List rG} {c:List D},Ent K H ι c g->(aK c).length=g.length
 | [],c,h=>by cases h;rfl
 |e::g,c,h=>by
  cases h with
  |cons h1 h2 n p q r i=>simp[aK,i.len]
theorem Ent.none_ {K H ι}:∀{n:List rG} {g:List D} {key:D},Ent K H ι g n->(∀i,i<n.length->tq g key i=false)->aJ g key=none /\ ∀v,aP g key v=g ++ [key,v]
 | [],g,key,h,q=>by cases h;exact⟨rfl,λ_=>rfl⟩
 |e::n,g,key,h,q=>by
  cases h with
  |cons h1 h2 r u x y p =>
   have c:=q 0 (by simp);simp only[tq]at c;obtain⟨a,b⟩:=p.none_ (key:=key) λi d=>by have:=q (i+1) (by simpa using d);simpa[tq]using this
   exact⟨by simp[aJ,c,a],λv=>by simp[aP,c,b]⟩
theorem Ent.v7 {K H ι}{key:D}:∀{B:List rG} {y:List D} {i:Nat},Ent K H ι y B->i<B.length->tq y key i=true->(∀j,j<B.length->tq y key j=true->j=i) ->
  ∃e v E,B[i]? = some e/\aJ y key=some v/\Rel K H ι v E/\m5 E e.val/\aK (aP y key v)=aK y /\
   ∀(w:D) (C:V) (u:Value),Rel K H ι w C->m5 C u->Ent K H ι (aP y key w) (B.modify i λe=>{ e with val:=u })/\aK (aP y key w)=aK y
 | [],y,i,h,I,q,un=>by simp at I
 |U::B,y,i,h,I,q,un=>by
  cases h with
  | @cons k v Z E r _ _ h1 h2 J M O Q R =>
   cases i with
   |zero =>
    simp only[tq]at q;refine⟨U,v,E,rfl,by simp[aJ,q],O,Q,by simp[aP,q,aK],λw C u l o=>⟨?_,by simp[aP,q,aK]⟩⟩;simp only[aP,q,if_true,List.modify_zero_cons];exact .cons h1 h2 J M l o R
   |succ i =>
    have n:bq k key=false:=by
     cases hk:bq k key with
     |false=>rfl|true=>exact absurd (un 0 (by simp) (by simpa[tq]using hk)) (by lia)
    obtain⟨e,x,p,a,b,c,d,f,g⟩:=R.v7 (i:=i) (by simpa using I) (by simpa[tq]using q) λj s z=>by have:=un (j+1) (by simpa using s) (by simpa[tq]using z);lia
    refine⟨e,x,p,by simpa using a,by simp[aJ,n,b],c,d,by simp[aP,n,aK,f],λw C u l o=>?_⟩;obtain⟨X,Y⟩:=g w C u l o;simp only[aP,n,sJ,if_false,List.modify_succ_cons];exact⟨.cons h1 h2 J M O Q X,by simp[aK,Y]⟩
theorem Ent.push {K H ι}{k v:D}{p c:V}{e:rG}(i:aU 6 k=true)(n:e.hash=hD K.w k)(l:Rel K H ι k p)(d:m5 p e.key)(j:Rel K H ι v c)(f:m5 c e.val):
  ∀{g:List rG} {xs:List D},Ent K H ι xs g->Ent K H ι (xs ++ [k,v]) (g ++ [e])/\aK (xs ++ [k,v])=aK xs ++ [k]
 | [],xs,h=>by cases h;exact⟨.cons i n l d j f .nil,rfl⟩
 |E::g,xs,h=>by
  cases h with
  |cons q r u x y B C =>
   obtain⟨a,b⟩:=Ent.push i n l d j f C;exact⟨.cons q r u x y B a,by simp[aK,b]⟩
def Ei (I:mH X b y H c){A:qr}(fd:flat v=true)(j:flat O=true)(g:Rel X.kw H Z v U)(n:Rel X.kw H Z O t)(i:m5 U T)(l:m5 t r)(hu:A.units+dep v<cLine):EqAt A c T r (bq v O):=by refine sH (IX I v O (A:=A) fd j g n i l hu).1 (λa=>?_) (λe x d=>Rel.zZ g (by rw[d]at i;exact i));subst a;have h:=i.inj l;subst h;have f:=Rel.inj I v O fd j g n;subst f;exact kW v fd
def mP (I:mH X b y H c){A:qr}(hu:A.units+8<cLine)(en:Ent X.kw H Z j R)(nd:(aK j).Nodup)(B:aU 6 v=true)(r:Rel X.kw H Z v U)(C:m5 U T):
  I_ A c T (hD X.w v) R.toArray (tq j v) where
 eq:=λi e he hh=>by obtain⟨k,n,a,es,xs,d,f,g⟩:=en.at (i:=i) (by simpa using he);rw[g v];obtain⟨f1,f2⟩:=fu k a;exact Ei I f1 (fu v B).1 d r f C (by lia)
 hs:=λi e he p=>by obtain⟨k,n,a,es,xs,d,f,g⟩:=en.at (i:=i) (by simpa using he);rw[g v]at p;rw[xs,(gq k v a B).mp p]
 qk:=uk v I B (by lia) r C
 qe:=λe he=>by obtain⟨i,l⟩:=UX.mp (by simpa using he);obtain⟨k,n,a,es,xs,d,f,g⟩:=en.at l;exact uk k I a (by lia) d f
 rf:=λe he ek=>by obtain⟨i,l⟩:=UX.mp (by simpa using he);obtain⟨k,n,a,es,xs,d,f,g⟩:=en.at l;rw[ek]at f;have:=f.inj C;subst this;rw[xs,Rel.inj I k v (fu k a).1 (fu v B).1 d r]
 un:=λi key l hj ti u=>by
  obtain⟨e,he⟩:∃e,R[i]? = some e:=⟨_,nP (by simpa using l)⟩
  obtain⟨e',o⟩:∃e,R[key]? = some e:=⟨_,nP (by simpa using hj)⟩
  obtain⟨k,n,a,es,xs,d,f,g⟩:=en.at he;obtain⟨k',ab,a',b',c',d',f',g'⟩:=en.at o;rw[g v]at ti;rw[g' v]at u;rw[(gq k v a B).mp ti]at es;rw[(gq k' v a' B).mp u]at b';exact(afX (nz.mp es).1 nd).mp (es.trans b'.symm)
 st:=λx tk e0 i e he h=>by
  subst e0;obtain⟨k,n,a,es,xs,d,f,g⟩:=en.at (i:=i) (by simpa using he);rw[g v];have kx:v = .str x:=by
   cases v with
   |str z=>cases r;obtain⟨t,q⟩:=C;cases q;rfl
   |aB=>cases r;cases C|int z=>cases r;obtain⟨t,q⟩:=C;cases q
   |tup z=>obtain⟨_,_,rfl,_⟩:=r;cases C
   |_=>simp[aU]at B
  subst kx;cases k with
  |str z =>
   cases d;obtain⟨t,q⟩:=f;rw[q];simp only[Value.isStr,bq]
  |aB=>cases d;rw[f]at h;cases h|int z=>cases d;obtain⟨t,q⟩:=f;rw[q]at h;cases h
  |tup z=>obtain⟨_,_,rfl,_⟩:=d;rw[show e.key=_ from f]at h;cases h
  |_=>simp[aU]at a
def k8 (I:mH X b y H c)(g:H f=some (dO f i n)):c.heap.get? f=some { cls:=.type "dict",data:=.dict i.toArray (i.length-n) }:=
 (show dX X.prog X.w H c.heap f (dO f i n) from I.aW f _ g).1
def v9 (I:mH X b y H c)(g:H f=some (dO f i n)):∃h,c.heap.get? f=some { cls:=.type "dict",data:=.dict i.toArray h }:=⟨_,k8 I g⟩
def B4 (I:mH X b y H c)(g:H f=some (dO f i n)):c.TypeIs (.ref f) "dict":=by obtain⟨_,h⟩:=v9 I g;exact⟨_,h,rfl⟩
def vd {s:mJ}{A:qr}{key:D}(I:mH X b y H s)(hu:A.units+8<cLine)(L:H f=some (dO f i n))(en:Ent X.kw H Z j i)(nd:(aK j).Nodup)(M:aU 6 key=true)(r:Rel X.kw H Z key U)(B:m5 U T){Q:Option Value->mJ->Prop}(C:aJ j key=none->∀c,Q none { s with toks:=c })(J:∀v,aJ j key=some v->∀c g z,Rel X.kw H Z v g->m5 g z->Q (some z) { s with toks:=c }):wpAny (model X.prog X.w) A (W2 f T) Q E s:=by
 obtain⟨q,O⟩:=v9 I L;unfold W2;refine v3 (mA (sU key I M r B (by lia) λc=>mA (uj (s:={ s with toks:=c }) O rfl (mP (I.tok c) hu en nd M r B) (λz=>?_) (λu x d=>?_))))
 . exact mT (C (en.none_ λu x=>z u (by simpa using x)).1 c)
 . have K:=mP (I.tok c) hu en nd M r B (A:=A)
   obtain⟨e,v,g,l,p,h,R,_⟩:=en.v7 (key:=key) (by simpa using x) d λa o z=>(K.un u a x (by simpa using o) d z).symm;refine mA (adq (s:={ s with toks:=c }) O rfl ?_);have:i.toArray[u]? = some e:=by simpa using l
   rw[this];exact mT (J v p c g _ h R)
def Ej {s:mJ}{key:D}(I:mH X b y H s)(K:H f=some (dO f i n))(en:Ent X.kw H Z A i)(nd:(aK A).Nodup)(B:aU 6 key=true)(r:Rel X.kw H Z key U)(J:m5 U T)(C:aJ A key=some v):
   ∃x z,Rel X.kw H Z v x/\m5 x z /\ ∀{M:qr} {E:Value->mJ->Prop} {Q:Option Value->mJ->Prop},M.units+8<cLine->(∀c,Q (some z) { s with toks:=c })->wpAny (model X.prog X.w) M (W2 f T) Q E s:=by
 obtain⟨ep,o⟩:=v9 I K;have O:∃a,a<i.length/\tq A key a=true:=by
   refine af7 λno=>?_;have:=(en.none_ (key:=key) λa u=>by
    cases h:tq A key a with
    |false=>rfl|true=>exact absurd ⟨a,u,h⟩ no).1
   rw[C]at this;cases this
 obtain⟨a,u,d⟩:=O;have un:∀j,j<i.length->tq A key j=true->j=a:=λj l z=>by obtain⟨k,kv,a1,p,_,_,_,g⟩:=en.at (nP u);obtain⟨k',ab,a2,R,_,_,_,g'⟩:=en.at (nP l);rw[g]at d;rw[g']at z;rw[(gq k key a1 B).mp d]at p;rw[(gq k' key a2 B).mp z]at R;exact(afX (nz.mp R).1 nd).mp (R.trans p.symm)
 obtain⟨e,v',x,h1,Y,h3,h4,_⟩:=en.v7 (key:=key) u d un;rw[C]at Y;cases Y;refine⟨x,e.val,h3,h4,fun {M E Q} hu q=>?_⟩;unfold W2;refine v3 (mA (sU key I B r J (by lia) λc=>mA (uj (s:={ s with toks:=c }) o rfl (mP (I.tok c) hu en nd B r J) (λz=>?_) (λj l xs=>?_))))
 . have:=z a (by simpa using u);rw[d]at this;cases this
 . have:=un j (by simpa using l) xs
   subst this;refine mA (adq (s:={ s with toks:=c }) o rfl ?_);have:i.toArray[j]? = some e:=by simpa using h1
   rw[this];exact mT (q c)
def ve {s:mJ}{A:qr}{key:D}(I:mH X b y H s)(hu:A.units+8<cLine)(O:H f=some (dO f i n))(N:n<=i.length)(hz:i.length<=nE)(en:Ent X.kw H Z j i)(nd:(aK j).Nodup)(B:aU 6 key=true)(z:Rel X.kw H Z key t)(C:m5 t r)(L:Rel X.kw H Z v U)(M:m5 U T){Q:Unit->mJ->Prop}(h:∀c R x,Ent X.kw H Z (aP j key v) x->(aK (aP j key v)).Nodup->x.length<=i.length+1->n<=x.length->R.get? f=some { cls:=.type "dict",data:=.dict x.toArray (x.length-n) }->NR f s.heap R->Q () { s with heap:=R,toks:=c }):
   wpAny (model X.prog X.w) A (dictSet f r T) Q E s:=by
 have d:=k8 I O;unfold dictSet;refine v3 (mA (sU key I B z C (by lia) λc=>?_));unfold dictSetHashed;refine v3 (mA (uj (s:={ s with toks:=c }) d rfl (mP (I.tok c) hu en nd B z C) (λa=>?_) (λu J Y=>?_)))
 . obtain⟨_,l⟩:=en.none_ (key:=key) λu J=>a u (by simpa using J)
   obtain⟨e1,e2⟩:=Ent.push (e:=⟨hD X.w key,r,T⟩) B rfl z C L M en;refine mA (DF (wpAny_updateDictKeys (hz:=by simpa using hz) (s:={ s with toks:=c }) d rfl ?_));refine h c _ (i ++ [⟨hD X.w key,r,T⟩]) (by rw[l];exact e1) ?_ (by simp) (by simp;lia) ?_ (MN ..)
   . rw[l,e2,UK]
     refine⟨nd,by simp,λk D6 k' o=>?_⟩;simp at o;subst o;rintro rfl;obtain⟨u,J,e⟩:=Qa.mp D6;have p:u<i.length:=by rw[<- en.len];exact J
     obtain⟨k,kv,a1,cv,_,_,_,g⟩:=en.at (nP p);rw[nP J,e]at cv;cases cv;have:=a u (by simpa using p);rw[g,(gq _ _ B B).mpr rfl]at this;cases this
   . have q:=MQ (h:=s.heap) (aic (·.push ⟨hD X.w key,r,T⟩)) d rfl
     rw[q];simp[aic];lia
 . have K:=mP (I.tok c) hu en nd B z C (A:=A)
   obtain⟨e,v0,ab,h1,h2,h3,h4,_,h5⟩:=en.v7 (key:=key) (by simpa using J) Y λι hj a=>(K.un u ι J (by simpa using hj) Y a).symm;obtain⟨h6,h7⟩:=h5 v U T L M;refine mA (DF (mA (wpAny_updateDict (s:={ s with toks:=c }) d rfl ?_)));refine wpAny_point ?_;refine h c _ (i.modify u λe=>{ e with val:=T }) h6 (by rw[h7];exact nd) (by simp) (by simpa using N) ?_ (MN ..)
   have q:=MQ (h:=s.heap) (Obj.mapDict (·.modify u λe=>{ e with val:=T })) d rfl
   rw[q];simp[Obj.mapDict]
def ao (b a:D)(g:G):Option (D×G):=match b with
 |.aA n=>(g[n]?).bind λc=>if aU 6 a=true then(aJ c a).map λd=>(d,g)else none|b=>fj b a g
def Lr (hu:X.A.units+64<cLine):n6 X (dW X.kw ao):=by
 intro value slice E s J H x y v u Q I e l q f;obtain⟨C,g,M,o,d,O,G0,i,j,q,p⟩:=q;cases M with
 |aA n =>
  simp only[ao]at q;obtain⟨R,hx,q⟩:=bind_some q;split at q
  . rename_i hk
    obtain⟨a,rfl,U⟩:=i;cases e;obtain⟨es,vs,c,h,mQ,gR,Y,Z,nd,sy,sz,rl⟩:=G0.sk hx U;have en:=Ent.of Y Z rl;cases B:aJ R o with
    |none=>rw[B]at q;cases q
    |some dv =>
     rw[B]at q;cases q;obtain⟨r,z,h1,h2,h3⟩:=Ej I h en nd hk j l B;have b:=B4 I h;refine adL (x:=z) b aeE.lookup ?_ f;unfold Q2;refine v3 (mA (adO b (by decide) ?_));refine mA (IF (name:=th "__getitem__") b aeE (x9 aeE b entry_dict_getitem ?_ (args_dict_getitem _ _)));show wpAny _ _ (W2 a u >>= _) _ _ s;refine mA (h3 (by rw[in1_units];lia) λtk=>?_);exact mT ⟨z,rfl,mT ⟨rfl,r,H,I.tok tk,h2,p H C r Ext.refl G0 h1⟩⟩
  . cases q
 |_=>exact K7 value slice E s J H x y v u Q I e l ⟨C,g,_,o,d,O,G0,i,j,q,p⟩ f
def O6 {d:FE}(hu:X.A.units+64<cLine)(f:DE X e K)(i:DE X C d)(j:pP C):DE X (.Subscript e C B) (ag ao K d):=.of (
 PE.imp (Iw (Lr hu) f.un i.un j) λc H Q h=>su h)
def Ak (a:D)(c:List D):Option Bool:=if(flat a&&aO c&&decide (bF c<=50))=true then some (c.any λy=>bq y a)else none
def mR (b a:D)(g:G):Option Bool:=match a with
 |.aA n=>(g[n]?).bind λc=>if aU 6 b=true then some (aJ c b).isSome else none|a=>(bb a g).bind (Ak b)
def iz (c a:D)(g:G):Option (D×G):=(mR c a g).map λb=>(.bl b,g)
def iG (c a:D)(g:G):Option (D×G):=(mR c a g).map λb=>(.bl (!b),g)
def Ek (h:mR v O a=some Y):(∃n,O = .aA n) \/ ∃c,bb O a=some c/\Ak v c=some Y:=by
 cases O with
 |aA n=>exact .inl ⟨n,rfl⟩|_=>simp only[mR]at h;exact .inr (bind_some h)
theorem vf:∀{c:List D} {i:Nat} {d:D},aO c=true->c[i]? = some d->flat d=true/\dep d<=bF c
 | [],i,d,h,e=>by simp at e|x::c,0,d,h,e=>by simp at e;subst e;simp only[aO,nc]at h;exact⟨h.1,by simp only[bF];lia⟩|x::c,i+1,d,h,e=>by simp only[aO,nc]at h;obtain⟨a,b⟩:=vf (i:=i) h.2 (by simpa using e);exact⟨a,by simp only[bF];lia⟩
def xF (I:mH X b y H c){A:qr}(B:flat v=true)(r:Rel X.kw H Z v U)(C:m5 U T)(hu:A.units+n<cLine):
   ∀{g:List D} {x:List V} {E:List Value},aO g=true->bF g<=n->ai X.kw H Z g x->Vals x E->∃e:Value->Bool,(∀s,s∈E->EqAt A c s T (e s))/\E.any e=g.any (λs=>bq s v):=by
 classical
 intro g x E h hn rl o;refine⟨λs=>decide (∃d u,Rel X.kw H Z d u/\m5 u s/\flat d=true/\bq d v=true),λs hy=>?_,?_⟩
 . obtain⟨i,Q,e⟩:=Qa.mp hy
   have q:i<x.length:=by rw[o.length];exact Q
   have R:i<g.length:=by rw[rl.length];exact q
   obtain⟨u,h1,f⟩:=rl.get (nP R);obtain⟨z,Y,p⟩:=o.get h1;rw[nP Q,e]at Y;cases Y;obtain⟨J,f2⟩:=vf h (nP R);have l:=Ei I J B f r p C (A:=A) (by lia);have:decide (∃d u,Rel X.kw H Z d u/\m5 u s/\flat d=true/\bq d v=true)=bq g[i] v:=by
    cases hq:bq g[i] v with
    |true=>exact decide_eq_true ⟨_,_,f,p,J,hq⟩
    |false =>
     refine decide_eq_false ?_;rintro⟨d,v',a,M,O,j⟩;have:=M.inj p;subst this;rw[Rel.inj I d _ O J a f,hq]at j;cases j
   show EqAt A c s T (decide _);rw[this];exact l
 . induction g generalizing x E with
   |nil=>cases rl;cases o;rfl
   |cons d ds ih =>
    obtain⟨u,vr,rfl,f,hr⟩:=rl;cases o with
    |cons r0 rr =>
     simp only[aO,nc]at h;simp only[bF]at hn;rw[BG,BG,ih h.2 (by lia) hr rr];congr 1;cases hq:bq d v with
     |true=>exact decide_eq_true ⟨_,_,f,r0,h.1,hq⟩
     |false =>
      refine decide_eq_false ?_;rintro⟨d',v',a,M,O,j⟩;have:=M.inj r0;subst this;rw[Rel.inj I d' _ O h.1 a f,hq]at j;cases j
def Al (B:Bool)(hu:X.A.units+64<cLine):bO X (wR (if B then .NotIn else .In)) (dW X.kw λC R g=>(mR C R g).map λb=>(.bl (if B then !b else b),g)):=by
 intro cv s σ H x y v u Q I r U q;obtain⟨ι,g,C,R,d,g',G0,E,Y,q,p⟩:=q;obtain⟨b,h,q⟩:=p7.mp q;cases q;have fin:∀f,EP X cv σ Q (.bool (if B then !b else b)) { s with toks:=f }:=λf=>⟨.bl _,H,I.tok f,rfl,p H ι _ Ext.refl G0 (by simp[Rel])⟩
 rcases Ek h with⟨n,rfl⟩|⟨Z,hx,h⟩
 . simp only[mR]at h
   obtain⟨Z,hx,h⟩:=bind_some h;split at h
   . rename_i hk
     cases h;obtain⟨a,rfl,ha⟩:=Y;cases U;obtain⟨es,vs,c,hH,mQ,gR,rv,hh,nd,sy,sz,rl⟩:=G0.sk hx ha;have en:=Ent.of rv hh rl;have J:=B4 I hH;have core:∀{M:Bool->mJ->Prop},(∀f,M (aJ Z C).isSome { s with toks:=f })->wpAny (model X.prog X.w) X.A (contains (.ref a) v) M X.xe s:=fun {M} fin=>by
       unfold contains;refine v3 (mA (agu J afF.lookup ?_));refine EY (λz=>by rw[agm]at z;cases z) (λ_=>?_);refine mA (wpAny_callSpecialUnlessNone?_slot (name:=th "__contains__") J afF (x9 afF J entry_dict_contains ?_ (args_dict_contains _ _)));show wpAny _ _ (W2 a v >>= _) _ _ s;refine mA (vd I (by rw[in1_units];lia) hH en nd hk E r (λhn f=>?_) (λw hs f vv z _ _=>?_))
       . rw[hn]at fin
         show wpAny _ _ (Builtin.Dict.pendingKey? a v >>= _) _ _ _;exact mA (wpAny_pendingKey_other sy (mT ⟨_,rfl,adp (fin f)⟩))
       . rw[hs]at fin
         show wpAny _ _ (ret (.bool true)) _ _ _;exact mT ⟨_,rfl,adp (fin f)⟩
     cases B with
     |false=>exact(show wpAny _ _ (do return afZ (<- contains (.ref a) v)) _ _ s from mA (core λf=>mT (fin f)))
     |true=>exact(show wpAny _ _ (do return afZ (!(<- contains (.ref a) v))) _ _ s from mA (core λf=>mT (fin f)))
   . cases h
 . unfold Ak at h
   split at h
   . rename_i z
     simp only[nc,decide_eq_true_eq]at z;cases h;obtain⟨a,vs,rfl,o,hr⟩:=lL G0 Y hx;cases U;rcases o with o|o
     . obtain⟨aq,O,l,_⟩:=I.list o
       obtain⟨e,j,h2⟩:=xF I (A:=X.A.in1) z.1.1 E r (n:=50) (by rw[in1_units];lia) z.1.2 z.2 hr O;have fin:=fin s.toks;rw[<- h2]at fin;cases B with
       |false=>exact in_listAt e l.isList (λy i=>j y (by simpa using i)) (by simpa using fin)|true=>exact notIn_listAt e l.isList (λy i=>j y (by simpa using i)) (by simpa using fin)
     . obtain⟨aq,O,l,_⟩:=I.tuple o
       obtain⟨e,j,h2⟩:=xF I (A:=X.A.in1) z.1.1 E r (n:=50) (by rw[in1_units];lia) z.1.2 z.2 hr O;have fin:=fin s.toks;rw[<- h2]at fin;cases B with
       |false=>exact in_tupleAt e l (λy i=>j y (by simpa using i)) (by simpa using fin)|true=>exact notIn_tupleAt e l (λy i=>j y (by simpa using i)) (by simpa using fin)
   . cases h
def O7 (hu:X.A.units+64<cLine):bO X (wR .In) (dW X.kw iz):=Al false hu
def El (hu:X.A.units+64<cLine):bO X (wR .NotIn) (dW X.kw iG):=Al true hu
def xG (I:mH X b y H c)(g:H f=some (dO f R p))(j:z.get? f=some { cls:=.type "dict",data:=.dict i.toArray (i.length-p) })(l:NR f c.heap z):
  mH X b y (upd H f (dO f i p)) { c with heap:=z,toks:=n }:=by
 refine I.write (x:=f) (e:=f) (o:=dO f i p) (t':=n) (by rw[g];exact af5) (.inl rfl) (λr u d q=>?_) ⟨_,j⟩ ⟨j,⟨_,j⟩,λv h q k=>k _ q⟩;rw[l.2 r d];exact q
def xH (G0:aw X.kw H Z a)(o:eF Z n f true)(l:Z.kd n=p+1)(r:H f=some (dO f R p))(en:Ent X.kw H Z j i)(nd:(aK j).Nodup)(q:(f == O2)=false)(c:p<=i.length)(sz:i.length<=nE):
  aw X.kw (upd H f (dO f i p)) Z (a.set n j):=by
 obtain⟨h,e,b,g⟩:=en.out;exact G0.N5 o r (by rw[l];exact .d p i e c b h nd q sz) g
def iH (c:List D):Bool:=az (c.length / 2+1)
def mh (o i v:D)(g:G):Option G:=match o with
 |.aA n=>(g[n]?).bind λc=>if(aU 6 i&&iH c)=true then some (g.set n (aP c i v))else none|o=>putD o i v g
inductive Jb (K:KW)(o i v:V)(H:Hp)(Q:Hp->Prop):Prop
 |mk (ι:Ix) (g:G) (d1 d2 d3:D) (g':G) (h0:aw K H ι g) (h1:Rel K H ι d1 o) (h2:Rel K H ι d2 i) (h3:Rel K H ι d3 v) (h4:mh d1 d2 d3 g=some g') (h5:∀H' ι',Ext H ι H' ι'->aw K H' ι' g'->Q H'):Jb K o i v H Q
def An {K H ι}(en:Ent K H ι A i):A.length=2*i.length:=by
 induction en with
 |nil=>rfl|cons _ _ _ _ _ _ _ c=>simp[c];lia
def Ls (hu:X.A.units+64<cLine):F9 X (Jb X.kw):=by
 intro R s U H o i v Y iv u Q I C ri z q;obtain⟨E,g,Z,d2,d3,g',G0,h,l,J,q,p⟩:=q;cases Z with
 |aA n =>
  simp only[mh]at q;obtain⟨M,e,q⟩:=bind_some q;split at q
  . rename_i r
    simp only[nc]at r;cases q;obtain⟨a,rfl,b⟩:=h;cases C;obtain⟨es,O,c,d,mQ,gR,sX,hh,nd,sy,sz,rl⟩:=G0.sk e b;have en:=Ent.of sX hh rl;have f:=B4 I d;have hz:=az.le r.2;rw[An en]at hz;unfold ahz;refine v3 (mA (adO f (by decide) ?_));refine mA (IF (name:=th "__setitem__") f slot_dict_setitem (x9 slot_dict_setitem f entry_dict_setitem ?_ (args_dict_setitem _ _ _)));show wpAny _ _ (Builtin.Dict.notOrdered "__setitem__" ⟨[.ref a,iv,u],[]⟩ >>= _) _ _ s;refine mA (agR f ?_);show wpAny _ _ (dictSet a iv u >>= _) _ _ s;refine mA (ve I (by rw[in1_units];lia) d gR sz en nd r.1 l ri J z λtk h' dF e1 e2 e3 e0 e4 e5=>mT ⟨.none,rfl,mT ?_⟩);exact⟨_,xG I d e4 e5,p _ E (Ext.put b d) (xH G0 b mQ d e1 e2 sy e0 (by lia))⟩
  . cases q
 |ref n =>
  refine set_list R s U H o i v Y iv u Q I C ri z ?_;simp only[mh,putD]at q;cases d2 with
  |int k =>
    simp only[Rel]at h l;obtain⟨a,rfl,b⟩:=h;subst l;dsimp only at q;cases e:g[n]? with
    |none=>rw[e]at q;cases q
    |some M =>
     rw[e]at q;dsimp only at q;cases B:lH M.length k with
     |none=>rw[B]at q;cases q
     |some j =>
      rw[B]at q;cases q;obtain⟨O,x,y⟩:=G0.at e b;exact⟨a,O,k,j,rfl,rfl,x,by rw[<- y.length];exact B,p _ E (Ext.put b x) (G0.put b x (ai.set J j y))⟩
  |_=>cases q
 |_=>cases q
def dP (b c:FE):FG:=λv h g=>(b h g).bind λr=>(c h r.2).bind λq=>(mh r.1 q.1 v q.2).map λa=>(h,a)
def Lu {i:FE}(hu:X.A.units+64<cLine)(J:DE X e K)(I:DE X C i)(E:∀v,Hv (.Subscript e C B) X.env v=(do
   let M <- HX [v] (eval e X.env);let iv <- HX [v,M] (eval C X.env)
   agG B
   HX [v,M,iv] (ahz M iv v)
   release [v,M,iv] [])):DG X (.Subscript e C B) (dP K i):=.of (PG.imp (M6 J.un I.un (Ls hu) E) λv R H Q h=>by
 obtain⟨ι,U,g,d,cb,Y,G0,x,r,h,p⟩:=h;obtain⟨⟨Z,g1⟩,u,h⟩:=bind_some h;obtain⟨⟨d2,g2⟩,l,h⟩:=bind_some h;refine tD.bind G0 x u λH1 ι1 v1 c G1 o q=>?_;refine tD.bind G1 o l λH2 O v2 a f S2 y=>?_;obtain⟨g3,j,h⟩:=p7.mp h;cases h;exact⟨O,g2,Z,d2,d,Y,f,Rel.ext a _ q,y,Rel.ext (c.trans a) _ r,j,λn s b z=>p n s R ((c.trans a).trans b) z (S2.ext b)⟩)
inductive Ve (K:KW)(jj:D->Bool)(m:D->List D->G->Option (D×G))(x:V)(xs:List V)(H:Hp)(Q:VK):Prop
 |mk (ι:Ix) (g:G) (d:D) (ds:List D) (d':D) (g':G) (h0:aw K H ι g) (h1:Rel K H ι d x) (h2:ai K H ι ds xs) (h3:jj d=true) (h4:m d ds g=some (d',g')) (h5:gi K H ι d' g' Q):Ve K jj m x xs H Q
structure MR (X:Cx)(T:String)(name:Str)(id:String)(jj:D->Bool)(m:D->List D->G->Option (D×G)):Prop where
 pa:PlainAttrs T
 slot:Slot T name id
 ty:typeOf (.builtin id)=pure (.type "method_descriptor")
 is:∀{cv:List (Addr×Obj)} {σ:m6} {H:Hp} {s:mJ} {ι:Ix} {g:G} {d:D} {x:V} {v:Value},mH X cv σ H s->aw X.kw H ι g->Rel X.kw H ι d x->m5 x v->jj d=true->s.TypeIs v T /\ ∀a,v = .ref a->∃ob,s.heap.get? a=some ob/\ob.dict=none
 run:NG X id (Ve X.kw jj m)
noncomputable def dD (b:D->Bool)(m:D->List D->G->Option (D×G))(a:FE)(fr:FA):FE:=λc g=>(a c g).bind λr=>if b r.1=true then(fr c r.2).bind λq=>m r.1 q.1 q.2 else none
def O8 {fr:FA}(R:MR X Q x w I m)(A:DE X C K)(jj:DA X (e::d) fr)(fo:aeM C x X.env (eval C X.env)=eval C X.env)(J:((vE u (nN (e::d) X.env)).all (λo=>!o.1)&&(backToKw u (ahO [] X.env)).all (λo=>o.1.isSome)
    && decide ((e::d).length+([]:List Vj).length+(if([]:List Vj).isEmpty then 0 else 1)<30))=true)(L:(B.endLine == u.line)=true)(id:nN (e::d) X.env=(false,eval e X.env)::nN d X.env)(E:(vE u (nN d X.env)).any (·.1)=false):
   DE X (.Call (.Attribute C x B) (e::d) [] u) (dD I m K fr):=.of (by
 intro U s O H apos es h;obtain⟨ι,Y,g,name,g',G0,S0,h,p⟩:=h;obtain⟨⟨Z,g1⟩,h1,h⟩:=bind_some h;dsimp only at h;split at h
 . rename_i hT
   obtain⟨⟨ds,g2⟩,h2,h⟩:=bind_some h;refine agz fo J L rfl (aX (A.un U s O H (λo M=>∃a,Ext H ι M a/\aw X.kw M a g1/\bM X.kw M a Y O/\Rel X.kw M a Z o) es (tD.bind G0 S0 h1 λM a v y l n i=>⟨a,y,l,n,i⟩)) λv s1 r=>?_);obtain⟨o,M,I1,z,a,y,l,n,i⟩:=r;obtain⟨t1,t2⟩:=R.is I1 l i z hT;refine⟨Q,w,R.pa,R.slot,R.ty,t1,t2,?_⟩;have hA:=jj.un u U s1 O M _ I1 (iW.bind l n h2 λb c f j q S2 T=>(⟨c,j,q,T⟩:(λ(f:List V) (b:Hp)=>∃c,Ext M a b c/\aw X.kw b c g2/\ai X.kw b c ds f) f b));rw[id]at hA ⊢
   refine aeG (by show(false||(vE u (nN d X.env)).any (·.1))=false;rw[E]<;>rfl) (agX ?_)
   refine aX hA λus s2 r=>?_;obtain⟨f,b,I2,T,c,j,q,rs⟩:=r;exact R.run U s2 O b o f v us apos I2 z T ⟨c,g2,Z,ds,name,g',q,Rel.ext j _ i,rs,hT,h,p.mono (y.trans j)⟩
 . cases h)
def Lv (R:MR X Q x w I m)(C:DE X e K)(id:aeM e x X.env (eval e X.env)=eval e X.env)(A:(B.endLine == u.line)=true):
   DE X (.Call (.Attribute e x B) [] [] u) (dD I m K af):=.of (by
 intro M s J H U o h;obtain⟨Y,z,g,d,Z,G0,name,h,p⟩:=h;obtain⟨⟨n,O⟩,r,h⟩:=bind_some h;dsimp only at h;split at h
 . rename_i l
   obtain⟨⟨ds,g2⟩,q,h⟩:=bind_some h;cases q;refine wpAny_Call_method0_late id A (aX (C.un M s J H (λjj E=>∃a,Ext H Y E a/\aw X.kw E a O/\bM X.kw E a z J/\Rel X.kw E a n jj) o (tD.bind G0 name r λE a v T c i b=>⟨a,T,c,i,b⟩)) λv s1 y=>?_);obtain⟨jj,E,j,f,a,T,c,i,b⟩:=y;obtain⟨t1,t2⟩:=R.is j c b f l;refine⟨Q,w,R.pa,R.slot,R.ty,t1,t2,aeG rfl (PySem.evalArgs_none ?_)⟩;exact R.run M s1 J E jj [] v [] U j f .nil ⟨a,O,n,[],d,Z,c,b,by simp[ai],l,h,p.mono T⟩
 . cases h)
noncomputable def ky:D->Bool
 |.aA _=>true|_=>false
def xI (I:mH X b y H c)(G0:aw X.kw H Z a)(r:Rel X.kw H Z v U)(u:m5 U T)(h:ky v=true):
  c.TypeIs T "dict" /\ ∀s,T = .ref s->∃g,c.heap.get? s=some g/\g.dict=none:=by
 cases v with
 |aA n =>
  obtain⟨s,rfl,f⟩:=r;cases u;have j:n<a.length:=by rw[<- G0.len];exact(nz.mp f.1).1
  obtain⟨q,o,x,l,_⟩:=G0.sk (nP j) f;obtain⟨p,i⟩:=v9 I l;refine⟨⟨_,i,rfl⟩,λB e=>?_⟩;cases e;exact⟨_,i,rfl⟩
 |_=>cases h
def k9 (d:D)(ds:List D)(g:G):Option (D×G):=match d,ds with
 |.aA n,[k]=>(g[n]?).bind λc=>if aU 6 k=true then some ((aJ c k).getD .aB,g)else none|.aA n,[k,x]=>(g[n]?).bind λc=>if aU 6 k=true then some ((aJ c k).getD x,g)else none|_,_=>none
def bah (r:Vals [U] M):∃u,M = [u]/\m5 U u:=by
 cases r with
 |cons a b=>cases b;exact⟨_,rfl,a⟩
def O9 (hu:X.A.units+64<cLine):MR X "dict" "get" "dict.get" ky k9 where
 pa:=PySem.F.plainAttrs_dict
 slot:=aeZ
 ty:=PySem.F.type_dict_get
 is:=xI
 run:=by
  intro cv s σ H x xs v us Q I rx rs q;obtain⟨ι,g,d,ds,d',g',G0,r1,rl,hT,q,p⟩:=q;have Iz:=(xI I G0 r1 rx hT).1;cases d with
  |aA n =>
   obtain⟨a,rfl,ha⟩:=r1;cases rx;have core:∀{k dflt:D} {e:List D} {i dv:V} {o du:Value} {Q':Fin->mJ->Prop},g[n]? = some e->aU 6 k=true->Rel X.kw H ι k i->m5 i o->Rel X.kw H ι dflt dv->m5 dv du->gi X.kw H ι ((aJ e k).getD dflt) g Q ->
      (∀v r,EP X cv σ Q v r->Q' (.done (.ret v)) r)->wpAny (model X.prog X.w) X.A.in1 (do
       if let some v <- W2 a o then return <- ret v
       match <- Builtin.Dict.missed a o with
       |some v=>ret v|none=>ret du) Q' X.xe s:=by
    intro k dflt e i dv o du Q' f j l ab rd ah p hQ;obtain⟨es,vs,c,hH,mQ,gR,rv,hh,nd,sy,sz,rl⟩:=G0.sk f ha;have en:=Ent.of rv hh rl;refine mA (vd I (by rw[in1_units];lia) hH en nd j l ab (λhn tk=>?_) (λw hs tk vv z b rz=>?_))
    . rw[hn]at p
      exact mA (wpAny_missed_other sy (mT (hQ _ _ ⟨_,H,I.tok tk,ah,p H ι _ Ext.refl G0 rd⟩)))
    . rw[hs]at p
      exact mT (hQ _ _ ⟨_,H,I.tok tk,rz,p H ι _ Ext.refl G0 b⟩)
   match ds,q,rl with
   | [k],q,rl =>
    simp only[k9]at q;obtain⟨e,f,q⟩:=bind_some q;split at q
    . rename_i j
      cases q;obtain⟨i,_,rfl,l,rfl⟩:=rl;obtain⟨u,rfl,ru⟩:=bah rs;exact x9 aeZ Iz agE (core (dflt:=.aB) (dv:=.aB) (du:=.none) f j l ru (by simp[Rel]) rfl p λv r h=>⟨v,rfl,h⟩) (PySem.F.args_dict_get_2 _ _)
    . cases q
   | [k,y],q,rl =>
    simp only[k9]at q;obtain⟨e,f,q⟩:=bind_some q;split at q
    . rename_i j
      cases q;obtain⟨i,_,rfl,l,yv,_,rfl,ry,rfl⟩:=rl;obtain⟨u,w',rfl,ru,b⟩:=baj rs;exact x9 aeZ Iz agE (core (dflt:=y) f j l ru ry b p λv r h=>⟨v,rfl,h⟩) (PySem.F.args_dict_get_3 _ _ _)
    . cases q
   | [],q,rl=>cases q|_::_::_::_,q,rl=>cases q
  |_=>cases hT
noncomputable def kz:FE:=λ_ g=>some (.aA g.length,g ++ [[]])
def Lw:DE X (.Dict [] [] B) kz:=.of (by
 intro n s r H Q I h;obtain⟨v,j,g,d,l,G0,i,h,p⟩:=h;cases h;have hf:H s.heap.objs.size=none:=I.aW.fresh (nA _);have a:∀h:Heap,(h.push { cls:=.type "dict",data:=.dict #[] }).get? h.objs.size=some { cls:=.type "dict",data:=.dict #[] }:=λh=>qt _ rfl;refine wpAny_Dict_empty ⟨.ref s.heap.objs.size,upd H s.heap.objs.size (dO s.heap.objs.size [] 0),I.laid (t':=s.toks) (λb u e=>nU _ e) (nA _) ?_,rfl,p _ _ _ (Ext.jJ (b:=1) hf) (G0.jJ hf (.d 0 [] [] (tj _) .nil .nil (by simp[aK]) (beq_eq_false_iff_ne.mpr (om (sI (big I)))) (tj _)) (by simp[ai])) ?_⟩
 . exact⟨a _,⟨_,a _⟩,λf c q k=>k _ q⟩
 . simp only[Rel]
   exact⟨_,rfl,eF.new G0.len⟩)
noncomputable def um:List (FE×FE)->Sg->G->Option (List (D×D)×G)
 | [],_,g=>some ([],g)|p::r,c,g=>(p.1 c g).bind λa=>(p.2 c a.2).bind λb=>(um r c b.2).bind λq=>some ((a.1,b.1)::q.1,q.2)
def Xb (n:Nat):List (D×D)->G->Option G
 | [],g=>some g|p::r,g=>(mh (.aA n) p.1 p.2 g).bind λa=>Xb n r a
def oX (ps:List (FE×FE)):FE:=λc g=>(um ps c (g ++ [[]])).bind λq=>(Xb g.length q.1 q.2).map λa=>(.aA g.length,a)
inductive lN (K:KW)(H:Hp)(ι:Ix):List (D×D)->List (Value×Value)->Prop
 |nil:lN K H ι [] []
 |cons {d1 d2:D} {x y:V} {u v:Value} {ds us} (h1:Rel K H ι d1 x) (h2:m5 x u) (h3:Rel K H ι d2 y) (h4:m5 y v) (r:lN K H ι ds us):lN K H ι ((d1,d2)::ds) ((u,v)::us)
theorem lN.ext {K H ι H' a ds us}(r:lN K H ι ds us)(e:Ext H ι H' a):lN K H' a ds us:=by
 induction r with
 |nil=>exact .nil|cons h1 h2 c g _ h=>exact .cons (Rel.ext e _ h1) h2 (Rel.ext e _ c) g h
noncomputable def gK (X:Cx):List (Option Expr)->List Expr->List (FE×FE)->Prop
 | [],[],[]=>True|some k::c,v::g,p::r=>DE X k p.1/\DE X v p.2/\gK X c g r|_,_,_=>False
theorem xJ {B:Pos}:∀(ps:List (FE×FE)) (keys:List (Option Expr)) (vals:List Expr),gK X keys vals ps->∀{Q:List (Addr×Obj)} {s:mJ} {M:m6} {H:Hp} {J:Ix} {C:Sg} {g R:G} {ds:List (D×D)},mH X Q M H s->aw X.kw H J g->bM X.kw H J C M->um ps C g=some (ds,R) ->
  wpAny (model X.prog X.w) X.A (evalPairs (pairTrees keys vals X.env B)) (λus s'=>∃E O,mH X Q M E s'/\Ext H J E O/\aw X.kw E O R/\lN X.kw E O ds us) X.xe s
 | [],keys,vals,hd,Q,s,M,H,J,C,g,R,ds,I,G0,U,h=>by
  have e:keys = []/\vals = []:=by
    cases keys with
    |nil=>cases vals with|nil=>exact⟨rfl,rfl⟩|cons _ _=>simp[gK]at hd
    |cons k _=>cases k<;>cases vals<;>simp[gK]at hd
  obtain⟨rfl,rfl⟩:=e;cases h;exact pairTrees_nil_walk ⟨H,J,I,Ext.refl,G0,.nil⟩
 |p::ps,keys,vals,hd,Q,s,M,H,J,C,g,R,ds,I,G0,U,h=>by
  obtain⟨k,c,v,b,rfl,rfl,h1,h2,z⟩:∃k c v b,keys=some k::c/\vals=v::b/\DE X k p.1/\DE X v p.2/\gK X c b ps:=by
    cases keys with
    |nil=>cases vals<;>simp[gK]at hd
    |cons k c =>
     cases k with
     |none=>cases vals<;>simp[gK]at hd
     |some k =>
      cases vals with
      |nil=>simp[gK]at hd|cons v b=>simp only[gK]at hd;exact⟨k,c,v,b,rfl,rfl,hd⟩
  . simp only[um]at h
    obtain⟨⟨x,Y⟩,e1,h⟩:=bind_some h;obtain⟨⟨u,g2⟩,e2,h⟩:=bind_some h;obtain⟨⟨dr,g3⟩,e3,h⟩:=bind_some h;cases h;refine pairTrees_cons_walk (aX (h1.un Q s M H (λw E=>∃a,Ext H J E a/\aw X.kw E a Y/\Rel X.kw E a x w) I ⟨J,C,g,x,Y,G0,U,e1,λZ a w e j r=>⟨a,e,j,r⟩⟩) λu1 s1 q1=>?_);obtain⟨w1,Z,I1,n,a,o,j,r1⟩:=q1;refine aX (h2.un Q s1 M Z (λw E=>∃d,Ext Z a E d/\aw X.kw E d g2/\Rel X.kw E d u w) I1 ⟨a,C,Y,u,g2,j,U.ext o,e2,λH2 d w e f r=>⟨d,e,f,r⟩⟩) λu2 s2 q2=>?_;obtain⟨w2,H2,I2,q,d,l,f,r2⟩:=q2;refine aX (xJ ps c b z I2 f ((U.ext o).ext l) e3) λus s3 y=>?_;obtain⟨H3,ι3,I3,i,G3,r3⟩:=y;exact⟨H3,ι3,I3,(o.trans l).trans i,G3,.cons (Rel.ext (l.trans i) _ r1) n (Rel.ext i _ r2) q r3⟩
theorem xK (hu:X.A.units+64<cLine){a:Addr}{n:Nat}{E:Value->mJ->Prop}:∀(ds:List (D×D)) (M:List (Value×Value)) {O:List (Addr×Obj)} {s:mJ} {R:m6} {H:Hp} {B:Ix} {g U:G} {Q:PUnit->mJ->Prop},mH X O R H s->aw X.kw H B g->eF B n a true->lN X.kw H B ds M->Xb n ds g=some U ->
  (∀Y J,mH X O R J Y->Ext H B J B->aw X.kw J B U->Q ag4 Y) ->
  wpAny (model X.prog X.w) X.A (forIn M ag4 λ(x:Value×Value) (_:PUnit)=>(do dictSet a x.1 x.2;pure (UU ag4):Sem (ForInStep PUnit))) Q E s
 | [],M,O,s,R,H,B,g,U,Q,I,G0,C,r,h,p=>by cases r;cases h;rw[agO];exact mT (p s H I Ext.refl G0)
 | (k,v)::ds,M,O,s,R,H,B,g,U,Q,I,G0,C,r,h,p=>by
  cases r with
  |cons h1 h2 Z h4 r =>
   simp only[Xb,mh]at h;obtain⟨g1,d,h⟩:=bind_some h;obtain⟨xs,u,d⟩:=bind_some d;split at d
   . rename_i e
     simp only[nc]at e;cases d;obtain⟨es,vs,c,b,mQ,z,q,hh,nd,sy,sz,rl⟩:=G0.sk u C;have f:=Ent.of q hh rl;have hz:=az.le e.2;rw[An f]at hz;rw[aeg];refine mA (mA (ve I (by lia) b z sz f nd e.1 h1 h2 Z h4 λtk h' dF e1 l e3 i y o=>mT ?_));refine xK hu ds _ (xG I b y o) (xH G0 C mQ b e1 l sy i (by lia)) C (r.ext (Ext.put C b)) h λY J I' j G'=>?_;exact p Y J I' ((Ext.put C b).trans j) G'
   . cases d
def Ha (hu:X.A.units+64<cLine){ps:List (FE×FE)}(L:gK X s d ps)(K:s.all (·.isSome)=true)(J:s.length=d.length)(M:s ≠ [])(E:s.length<=15):
  DE X (.Dict s d B) (oX ps):=.of (by
 intro U C Y H Q I h;obtain⟨O,Z,g,keys,g',G0,z,h,p⟩:=h;obtain⟨⟨ds,g1⟩,j,h⟩:=bind_some h;obtain⟨g2,f,h⟩:=p7.mp h;cases h;have a:=pairTrees_length s d X.env B K J;have x:pairTrees s d X.env B ≠ []:=λhe=>by rw[he]at a;exact M (acq.mp a.symm)
 rw[arm_eval_Dict,zip_pairTrees s d X.env B K J,dictDisplay_pairs _ x (by rw[a];lia)];have hf:H C.heap.objs.size=none:=I.aW.fresh (nA _);have l:∀h:Heap,(h.push { cls:=.type "dict",data:=.dict #[] }).get? h.objs.size=some { cls:=.type "dict",data:=.dict #[] }:=λh=>qt _ rfl;have v:mH X U Y (upd H C.heap.objs.size (dO C.heap.objs.size [] 0)) { C with heap:=C.heap.push { cls:=.type "dict",data:=.dict #[] } }:=I.laid (t':=C.toks) (λb u e=>nU _ e) (nA _) ⟨l _,⟨_,l _⟩,λj f q k=>k _ q⟩;have n:Ext H O (upd H C.heap.objs.size (dO C.heap.objs.size [] 0)) (O.more C.heap.objs.size 1):=Ext.jJ (b:=1) hf;have G1:aw X.kw (upd H C.heap.objs.size (dO C.heap.objs.size [] 0)) (O.more C.heap.objs.size 1) (g ++ [[]]):=G0.jJ hf (.d 0 [] [] (tj _) .nil .nil (by simp[aK]) (beq_eq_false_iff_ne.mpr (om (sI (big I)))) (tj _)) (by simp[ai]);have qI:eF (O.more C.heap.objs.size 1) g.length C.heap.objs.size true:=eF.new G0.len;refine mA (ad9 (mA ?_));unfold subDict;refine mA (agB ?_);refine mA (v3 ?_);rw[if_pos (by rw[a];exact E)];refine mA (aX (xJ ps s d L v G1 (z.ext n) j) λus s1 q=>?_);obtain⟨H1,R,r,c,o,y⟩:=q;refine v3 (mA (xK hu ds us r o (c.at qI) y f λs' i I' x' G'=>mT (mT (mT ?_))));refine⟨.ref C.heap.objs.size,i,I',rfl,p i R _ ((n.trans c).trans x') G' ?_⟩;simp only[Rel];exact⟨_,rfl,c.at qI⟩)
end
section
open PyProof.Rows
variable {Z:Array rG}{Y:Option Value->mJ->Prop}{d:Addr}
def next_end (i:J.handled=none)(j:c.heap.IsKeyIter f d p n o)(l:c.heap.get? d=some { cls:=.type "dict",data:=.dict Z o })(prog:Z.size=n)(r:Z.size<=p)(A:∀g,agA f c.heap g->Y none { c with heap:=g }):wpAny (model q u) J (EM (.ref f)) Y E c:=by
 subst prog;obtain⟨it,e,h,w⟩:=id j;have T:=j.typeIs;have own:afp "dict_keyiterator" = false:=by decide
 have a:J.in1.handled=none:=i;have x:Z[p]? = none:=adM r;unfold EM;refine mA (aeN (IF (name:=th "__next__") T F.slot_dict_keyiterator_next (x9 F.slot_dict_keyiterator_next T F.entry_dict_keyiterator_next ?_ (F.args_dict_keyiterator_next_1 _))));unfold u3.«dict_keyiterator.__next__»
 wp_walk using (ac8 T),(afl e w),(adq l rfl),(SW l rfl)
 have s:¬((p:Int)<0):=by lia
 simp only[s,if_false,Im,x]
 wp_walk using (ac8 T),(XP e w (by simp[own]))
 unfold raiseNew;refine mA (aha ?_);rw[a];refine mA (mT (ahQ (mA (ad5 (T:="StopIteration") (b:=true) (v:=.ref _) (by exact⟨_,qt _ rfl,rfl⟩) agJ ?_))));exact mT (A _ (((MN ..).extBut.push _).push _))
def next_item {e:rG}(l:c.heap.IsKeyIter f d p n o)(s:c.heap.get? d=some { cls:=.type "dict",data:=.dict Z o })(r:Z.size=n)(w:Z[p]? = some e)(prog:∀g,g.IsKeyIter f d (p+1) n o->NR f c.heap g->Y (some e.key) { c with heap:=g }):wpAny (model q u) J (EM (.ref f)) Y E c:=by
 subst r;obtain⟨i,b,j,a⟩:=id l;have T:=l.typeIs;have h:¬((p:Int)<0):=by lia
 have A:(c.heap.update f (afM (·.setIfInBounds 1 (xm ((p:Int)+1))))).IsKeyIter f d (p+1) Z.size o :=
  ⟨_,MQ _ b (agP (aeo a _)),(ahJ ..).trans j,by rw[aeo a];simp[xm]⟩
 unfold EM;refine mA (aeN (IF (name:=th "__next__") T F.slot_dict_keyiterator_next (x9 F.slot_dict_keyiterator_next T F.entry_dict_keyiterator_next ?_ (F.args_dict_keyiterator_next_1 _))));unfold u3.«dict_keyiterator.__next__»
 wp_walk using (ac8 T),(afl b a),(adq s rfl),(SW s rfl)
 simp only[h,if_false,Im,w];have own:afp "dict_keyiterator" = false:=by decide
 refine mA (mA (ac8 T (mT (mA (agS T ?_)))));rw[own];refine mA (XP b a (by simp) ?_)
 have it:ai0 { c with heap:=c.heap.update f (afM (·.setIfInBounds 1 (xm ((p:Int)+1)))) } (.ref f) "dict_keyiterator":=A.typeIs
 refine mA (v3 (mA (agS it (mT (mT ⟨_,rfl,mT (prog _ A (MN ..))⟩)))))
def Hb (prog:(d == O2)=false)(a:c.heap.get? d=some { cls:=.type "dict",data:=.dict Z n })(b:Q (.ref c.heap.objs.size) { c with heap:=c.heap.push { cls:=.type "dict_keyiterator",data:=.fields #[.ref d,.int 0 0,.int Z.size 0,.int n 0] } }):wpAny (model q u) J (Ux (.ref d)) Q E c:=by
 have T:c.TypeIs (.ref d) "dict":=⟨_,a,rfl⟩
 refine afV T F.slot_dict_iter (x9 F.slot_dict_iter T F.entry_dict_iter ?_ (F.args_dict_iter_1 _));unfold u3.«dict.__iter__» Builtin.Dict.dictSlotNone Builtin.Dict.showsAll
 wp_walk using (agR T),(adq a rfl),(SW a rfl)
 exact⟨_,rfl,"dict_keyiterator",_,⟨_,qt _ rfl,rfl⟩,F.slot_dict_keyiterator_next.lookup,by simpa[xm]using b⟩
end
section
open PyProof.Rows SeqAt
theorem oY:∀{c:List rG} {i:Nat} {e:rG},c[i]? = some e->(kj c)[2*i]? = some e.key
 | [],i,e,h=>by simp at h|x::c,0,e,h=>by simp at h;subst h;rfl|x::c,i+1,e,h=>by rw[show 2*(i+1)=2*i+1+1 by lia];simpa[kj]using oY (by simpa using h)
noncomputable def Pa (a:Addr)(n c:Nat):It :=
 ⟨λi H=>∃g h,H a=some (dO a g c)/\Vals h (kj g)/\g.length=n/\i<n,λi H x b=>b=H /\ ∀g h,H a=some (dO a g c)->Vals h (kj g)->h[2*i]? = some x,λi H=>∃g,H a=some (dO a g c)/\g.length=n/\n<=i⟩
def Em {K:o3}(a it:Addr)(n c:Nat):Turn q u K C (Pa a n c) [it] it (λi h=>h.IsKeyIter it a i n (n-c)) where
 mem:=by simp
 obj:=λi h st b f=>by
  have e:b=it:=by simpa using f
  subst e;obtain⟨o,e,c,d⟩:=st;exact⟨o,e,λv z=>by rw[d]at z;cases z⟩
 keep:=λi h y st k=>by obtain⟨o,e,c,d⟩:=st;exact⟨o,k it (by simp) o e,c,d⟩
 item:=by
  intro X hP hw hK hc i cv s σ H E I hf st hg;subst hP hw hK;obtain⟨r,vs,p,hv,j,hi⟩:=hg;have l:=k8 I p;rw[j]at l;have eR:i<r.length:=by lia
  obtain⟨x,hx⟩:∃x,vs[2*i]? = some x:=by have h1:=oY (nP eR);have h2:=(nz.mp h1).1;exact⟨_,nP (by rw[hv.length];exact h2)⟩
  obtain⟨w,hu,ru⟩:=hv.get hx;have hk:=oY (nP eR);rw[hk]at hu;cases hu;obtain⟨f0,f1,f2,f3,f4,f5⟩:=hf it (by simp);refine next_item (e:=r[i]) st l (by simpa using j) (by simp[eR]) λy hJ sb=>?_;have I1:mH X cv σ H { s with heap:=y }:=I.turned (t':=s.toks) (λb o f e=>(sb.2 b f).trans e) f0 f1 f3 f4 f5;obtain⟨o,e,c,d⟩:=id hJ;refine⟨_,rfl,vR (s:={ s with heap:=y }) e c d (by decide) ⟨x,H,I1,ru,⟨rfl,λdF IZ h1 h2=>?_⟩,hJ,λb f=>(hf b f).1⟩⟩;have qq:=k8 I h1;have nZ:=k8 I p;rw[nZ]at qq;have:r=dF:=by
   injection qq with P
   injection P with _ _ P _
   injection P with P _
   simpa using congrArg ahn P
  subst this;rw[Vals.inj h2 hv];exact hx
 done:=by intro X hP hw hK hc i cv s σ H E I hf st hg;subst hP hw hK;obtain⟨r,p,j,hi⟩:=hg;have l:=k8 I p;rw[j]at l;obtain⟨f0,f1,f2,f3,f4,f5⟩:=hf it (by simp);exact next_end (I.ok.hd hc) st l (by simpa using j) (by simp;lia) λy eb=>⟨rfl,I.turned (t':=s.toks) (λb o f e=>eb b o f e) f0 f1 f3 f4 f5⟩
 self:=λ_ _ _ _ _ st h=>wpAny_pyIter_keyiter st h
def Pb (b:TE):TI:=λi H R=>b i H λx g=>∃a n c,x = .ref a/\(∃h,g a=some (dO a h c)/\h.length=n)/\(a == O2)=false/\R (Pa a n c) g
def Ly {A:TE}(B:PE X e A):PI X C e (Pb A):=by
 intro E s J H R I h;refine aX (B E s J H _ I h) λv g y=>?_;obtain⟨x,M,d,r,z⟩:=y;obtain⟨a,n,c,l,⟨O,i,j⟩,f,q⟩:=z;subst l;cases r;have u:=k8 d i;refine Hb f u ?_;refine⟨g.heap.objs.size,[g.heap.objs.size],_,_,M,rfl,d.kept (t':=g.toks) λb o l=>nU _ l,Em a _ n c,⟨_,qt _ rfl,rfl,by simp[j]⟩,λb p=>?_,q⟩;have l:b=g.heap.objs.size:=by simpa using p
 subst l;exact d.t8 (nA _) (d.aW.fresh (nA _))
end
section
open PyProof.Rows
variable {w:List (Bool×Addr)}{v:List (Option Nat)}{t ι':Ix}{s:List (Str×Addr)}{r:KW}{o:List D->G->Option (D×G)}{k:FA}{j:Hp}{g:Obj}{h':Heap}{pos:Pos}{tu:Addr}{elt:Expr}{ys:List V}{outer:List Env}{env:Env}
noncomputable def ib (nn L:Nat)(t:FG)(c:FT)(e:FE):Nat->Sg->G->Option (List D×G)
 | 0,_,g=>((g[nn]?).map aK).bind λh=>if h.length=L then some ([],g)else none|r+1,i,g=>((g[nn]?).map aK).bind λh=>if h.length=L then(h[L-(r+1)]?).bind λd=>(t d i g).bind λq=>(c q.1 q.2).bind λk=>if k.1=true then(e q.1 k.2).bind λa=>(ib nn L t c e r q.1 a.2).bind λz=>some (a.1::z.1,z.2)else ib nn L t c e r q.1 k.2 else none
def B5 (K:KW)(J:It)(H:Hp)(q:Ix)(nn L:Nat):Prop :=
 ∀(i:Nat) g c n,jU H q g c->aw K g c n->∀p,(n[nn]?).map aK=some p->p.length=L->(L<=i->J.stop i g) /\ ∀d,p[i]? = some d->J.go i g /\ ∀x h,J.C2 i g x h->Ext g c h c/\aw K h c n/\Rel K h c d x
inductive Pc (K:KW)(f:sT)(σ:m6)(H:Hp)(R:(It->Hp->Prop)):Prop
 |mk (ι:Ix) (σd:Sg) (g:G) (nn:Nat) (L:Nat) (g':G) (h0:aw K H ι g) (h1:bM K H ι σd σ) (h2:f σd g=some (nn,L,g')) (h3:∀H' ι' J,Ext H ι H' ι'->aw K H' ι' g'->B5 K J H' ι' nn L->R J H'):Pc K f σ H R
structure Jc (X:Cx)(tg iter:Expr)(f:sT):Prop where of ::
 un:PI X tg iter (Pc X.kw f)
def xM (f:FE):sT:=λc g=>(f c g).bind λr=>match r.1 with|.aA n=>(r.2[n]?).bind λh=>some (n,(aK h).length,r.2)|_=>none
def xN {K H ι}{c:List rG}(en:Ent K H ι A c):(aK A).length=c.length:=by
 induction en with
 |nil=>rfl|cons _ _ _ _ _ _ _ g=>simp[aK,g]
def Lz:∀{i:Nat} {d:D},(aK A)[i]? = some d->A[2*i]? = some d:=by
 have:∀(n:Nat) (A:List D),A.length<=n->∀{i:Nat} {d:D},(aK A)[i]? = some d->A[2*i]? = some d:=λn=>by
  induction n with
  |zero=>intro A h i d e;have:A = []:=acq.mp (by lia);subst this;simp[aK]at e
  |succ n c =>
   intro A h i d e;match A,h,e with
   | [],_,e=>simp[aK]at e| [x],_,e=>simp[aK]at e
   |k::v::r,h,e =>
    cases i with
    |zero=>simpa[aK]using e
    |succ i =>
     rw[show 2*(i+1)=2*i+1+1 by lia];simpa using c r (by simp at h;lia) (by simpa[aK]using e)
 exact fun {i d} h=>this A.length A (nA _) h
def B5.aA {K H ι a n L c}(h:eF ι n a true)(A:ι.kd n=c+1):B5 K (Pa a L c) H ι n L:=λi I B J l o M u O=>by obtain⟨q,r,rfl⟩:=p7.mp u;obtain⟨e,j,Q,b,p,R,f,C,nd,U,sz,rl⟩:=o.sk r (l.at h);rw[l.mD n (nz.mp h.1).1,A]at p;cases p;have z:=Ent.of f C rl;have g:=xN z;refine⟨λh=>⟨e,b,by lia,h⟩,λd hd=>?_⟩;have X:i<(aK q).length:=(nz.mp hd).1;refine⟨⟨e,j,b,f,by lia,by lia⟩,λx Y y=>?_⟩;obtain⟨rfl,y⟩:=y;have:=y e j b f;obtain⟨v,E,s⟩:=rl.get (Lz hd);rw[E]at this;cases this;exact⟨Ext.refl,o,s⟩
def Ao (B:DE X C K):Jc X e C (xM K):=.of (PI.imp (Ly B.un) λR H Q h=>by
 obtain⟨U,E,g,nn,L,Y,G0,o,h,p⟩:=h;obtain⟨⟨I,Z⟩,j,h⟩:=bind_some h;cases I with
 |aA n =>
  obtain⟨xs,r,h⟩:=bind_some h;cases h;refine tD.bind G0 o j λJ z v u b S1 i=>?_;obtain⟨a,rfl,d⟩:=i;obtain⟨f,vs,c,M,y,gR,q,O,nd,s,sz,rl⟩:=b.sk r d;have x:=Ent.of q O rl;exact⟨a,_,c,rfl,⟨f,M,(xN x).symm⟩,s,p J z _ u b (.aA d y)⟩
 |_=>cases h)
def k_ (mk:List D->G->Option (D×G))(a:sT)(fr:List (Option Nat))(t:FG)(c:FT)(e:FE):FE:=λh g=>(a h g).bind λr=>if az r.2.1=true then(ib r.1 r.2.1 t c e r.2.1 (cu fr h) r.2.2).bind λq=>mk q.1 q.2 else none
def Pe (a:sT):oP:=λc g=>(a c g).map λr=>(λg=>(g[r.1]?).map aK,r.2.1,r.2.2)
def Ap {s:sT}(h:Jc X e C s):sE X e C (Pe s):=.of (PI.imp h.un λy H Q q=>by obtain⟨u,j,g,o,L,r,G0,i,b,p⟩:=q;obtain⟨⟨nn,L1,v⟩,f,x⟩:=p7.mp b;cases x;exact⟨u,j,g,nn,L1,v,G0,i,f,λc d J l n a=>p c d J l n a⟩)
theorem xO {nn L:Nat}{t:FG}{c:FT}{e:FE}:∀(k:Nat) (h:Sg) (g:G),ib nn L t c e k h g=dZ (λg=>(g[nn]?).map aK) L t c e k h g
 | 0,h,g=>by simp only[ib,dZ]|k+1,h,g=>by simp only[ib,dZ,xO k]
def xP {a:sT}{t:FG}{c:FT}:k_ o a v t c K=kU o (Pe a) v t c K:=by
 funext σ g;unfold k_ kU Pe;cases a σ g with
 |none=>rfl|some r=>simp only[nv,Iv,xO]
def xQ {O:sT}{t:FG}{c:FT}{j:Pos}(l:X.xe=λ_ _=>False)(s:X.calm=true)(ok:fF X R v I)(h:Jc X e C O)(Q:∀g E H J M,DG (bj X R I g E H J M) e t/\iw (bj X R I g E H J M) d c/\DE (bj X R I g E H J M) elt K)(q:X.N.Nodup)(U:X.N[n]? = some x)(u:Ee X.env.scope x)(o:OJ (.ListComp elt [⟨e,C,d,0⟩] I pos) (some (.Name x B)) j.line X.env=pure true)(z:∀x,FV C X.env x=pure x)(y:X.fn x=true\/X.env.scope.names.lookup x=some .local):
  DS X (.Assign [.Name x B] (.ListComp elt [⟨e,C,d,0⟩] I pos) j) (aD (k_ bD O v t c K) (gN n)):=
 by rw[xP];exact iX (λf _ b hD r a i p=>qW f b hD r a i p) l s ok (Ap h) Q q U u o z y
def xR {O:sT}{t:FG}{c:FT}{l:Pos}(Q:X.xe=λ_ _=>False)(u:X.calm=true)(ok:fF X R v I)(j:Jc X e C O)(y:∀g E H J M,DG (bj X R I g E H J M) e t/\iw (bj X R I g E H J M) d c/\DE (bj X R I g E H J M) elt K)(s:X.N.Nodup)(o:X.N[n]? = some x)(U:Ee X.env.scope x)(q:OJ (.ListComp elt [⟨e,C,d,0⟩] I pos) (some (.Name x B)) l.line X.env=pure true)(A:∀x,FV C X.env x=pure x)(z:X.fn x=true\/X.env.scope.names.lookup x=some .local):
  DS X (.Assign [.Name x B] (.ListComp elt [⟨e,C,d,0⟩] I pos) l) (aD (k_ j4 O v t c K) (gN n)):=
 by rw[xP];exact iX (λh a i hD r b f p=>qX h a i hD r b f p) Q u ok (Ap j) y s o U q A z
@[simp] def LA:xM K l a=(K l a).bind λr=>match r.1 with|.aA c=>(r.2[c]?).bind λg=>some (c,(aK g).length,r.2)|_=>none:=rfl
@[simp] def En {mk:sT}{t:FG}{c:FT}:k_ o mk v t c K l a=(mk l a).bind λr=>if az r.2.1=true then(ib r.1 r.2.1 t c K r.2.1 (cu v l) r.2.2).bind λq=>o q.1 q.2 else none:=rfl
noncomputable def sN:Bool->String
 |true=>"list"|false=>"tuple"
noncomputable def iN:Bool->String
 |true=>"list_iterator"|false=>"tuple_iterator"
def fV (b:Bool)(h:Heap)(a:Addr)(c:Array Value):Prop:=∃o,h.get? a=some o/\o.cls = .type (sN b) /\ ∃n,o.data = .seq c n
def lO (b:Bool)(h:Heap)(j a:Addr)(i:Nat):Prop:=∃o,h.get? j=some o/\o.cls = .type (iN b)/\o.data = .fields #[.ref a,.int i 0]
def lO.at {j a i}(x:lO Y z j a i)(k:∀o,z.get? j=some o->h'.get? j=some o):lO Y h' j a i:=by obtain⟨o,b,r⟩:=x;exact⟨o,k o b,r⟩
def jk (K:o3):Bool->Hp->Addr->List V->Prop
 |true=>dQ K|false=>fJ K
def B6 {items}(a:lO Y c.heap f tu n)(e:fV Y c.heap tu items)(b:items[n]? = some T)(d:∀h',lO Y h' f tu (n+1)->NR f c.heap h'->Q T { c with heap:=h' }):wpAny (model q u) J (XG (.ref f)) Q E c:=by
 cases Y
 . exact vN a e b d
 . exact wpAny_nextOf_list_item a e b d
def Eo {items}(g:J.handled=none)(a:lO Y c.heap f tu n)(b:fV Y c.heap tu items)(h:items[n]? = none)(d:∀h' e,agA f c.heap h'->(∃o,h'.get? e=some o/\o.cls = .type "StopIteration")->E (.ref e) { c with heap:=h' }):wpAny (model q u) J (XG (.ref f)) Q E c:=by
 cases Y
 . exact xA g a b h d
 . exact wpAny_nextOf_list_end g a b h d
def sY {items}(a:fV Y c.heap f items)(b:Q (.ref c.heap.objs.size) { c with heap:=c.heap.push { cls:=.type (iN Y),data:=.fields #[.ref f,.int 0 0] } }):wpAny (model q u) J (Ux (.ref f)) Q E c:=by
 cases Y
 . exact wpAny_pyIter_tuple a b
 . exact afT a b
def Hc (I:mH X b y H c)(h:jk X.K Y H f U):∃g:List Value,Vals U g/\fV Y c.heap f g.toArray/\U.length<=nE:=by
 cases Y
 . exact I.tuple h
 . obtain⟨g,r,p,z⟩:=I.list h
   exact⟨g,r,p.isList,z⟩
def xS (I:mH X b y H c)(h:jk X.K Y H f U)(h':jk X.K Y H f ys):U=ys:=by
 cases Y
 . exact I.oH h h'
 . exact I.qQ h h'
def Ep (I:mH X b y H c)(g:gU X b H tu)(h:jk X.K Y H f U):f≠tu:=by
 cases Y
 . exact SY I g h
 . exact O5 I g h
abbrev fN (h:Heap)(T:Addr)(c:List Value):Prop:=h.get? T=some { cls:=.type "tuple",data:=.seq c.toArray }
structure Src where
 κ:Bool
 j:Addr
 a:Addr
noncomputable def gr (z a:Addr)(rs:List Src):List Addr:=z::a::rs.map (·.j)
structure ZD (z ti tu:Addr)(rs:List Src):Prop where
 n2:tu≠z
 tm:ti ∉ gr z tu rs
 jn:(rs.map (·.j)).Nodup
 jz:∀r∈rs,r.j≠z/\r.j≠tu
 am:∀r∈rs,r.a ∉ gr z tu rs
 le:rs.length<=8
 ne:rs ≠ []
theorem fV.dn {c:Bool}{h h':Heap}{a:Addr}{items}{g:List Addr}(x:fV c h a items)(k:dn g h h')(n:a ∉ g):fV c h' a items:=by obtain⟨o,b,r⟩:=x;exact⟨o,k _ _ n b,r⟩
structure ZL (h0:Heap)(z ti tu:Addr)(rs:List Src)(i:Nat)(os:List Value)(xs:Src->Array Value)(k:Nat)(h:Heap)(us:List Value):Prop where
 kl:k<=rs.length
 ul:us.length=k
 uv:∀(m:Nat) (r:Src),m<k->rs[m]? = some r->∃u,(xs r)[i]? = some u/\us[m]? = some u
 hz:IsZip h z ti tu .ellipsis
 ht:fN h tu (us++os.drop k)
 it:∀(m:Nat) (r:Src),rs[m]? = some r->lO r.κ h r.j r.a (if m<k then i+1 else i)
 st:dn (gr z tu rs) h0 h
 sz:h.objs.size=h0.objs.size
def Er {O:Addr}{rs:List Src}{X:Src->Array Value}(hh:J.handled=none)(D:ZD f O tu rs)(hz:IsZip c.heap f O tu .none)(C:fN c.heap O (rs.map λr=>.ref r.j))(i:fN c.heap tu M)(z:M.length=rs.length)(B:∀r∈rs,lO r.κ c.heap r.j r.a n)(K:∀r∈rs,fV r.κ c.heap r.a (X r))(H:∀(g:List Value) (h':Heap),g.length=rs.length->(∀(m:Nat) (r:Src),rs[m]? = some r->∃w,(X r)[n]? = some w/\g[m]? = some w)->IsZip h' f O tu (xm c.heap.objs.size)->fN h' tu g->(∀r∈rs,lO r.κ h' r.j r.a (n+1))->fN h' c.heap.objs.size g->dn (gr f tu rs) c.heap h'->Q (.ref c.heap.objs.size) { c with heap:=h' })(I:(∃r∈rs,(X r)[n]? = none)->∀h' e,dn (gr f tu rs) c.heap h'->(∃o,h'.get? e=some o/\o.cls = .type "StopIteration")->E (.ref e) { c with heap:=h' }):
   wpAny (model q u) J (u3.«zip.__next__» ⟨[.ref f],[]⟩) (λfin Y=>∃v,fin = .done (.ret v)/\Q v Y) E c:=by
 have mz:f∈gr f tu rs:=by simp[gr]
 have mu:tu∈gr f tu rs:=by simp[gr]
 have mj:∀r∈rs,r.j∈gr f tu rs:=λr d=>by simp only[gr,nQ];exact .inr (.inr (Pd d))
 have ab:=D.le;have hs:nE=16777216:=L3;change wpAny _ _ (field (.ref f) 2 >>= λ_=>_) _ _ _;refine mA (FC hz rfl (x:=.bool false) rfl ?_);change wpAny _ _ (field (.ref f) 3 >>= λ_=>_) _ _ _;refine mA (FC hz rfl (x:=.ref O) rfl ?_);refine mA (adX C rfl ?_);refine aeh (by simp[D.ne]) ?_;change wpAny _ _ (aeA (.ref f) >>= λ_=>_) _ _ _;refine mA ?_;unfold aeA;refine mA (FC hz rfl (x:=.none) rfl (mT ?_));simp only[if_true];refine mA (DF (mA (FC hz rfl (x:=.ref tu) rfl (mA (aep hz (by simp) λb1 z1 c1=>mA ?_)))));have y1:IsZip b1 f O tu .ellipsis:=z1;have ez:∀{b:Heap} {e:Addr} {oe:Obj},IsZip b f O tu .ellipsis->b.get? e=some oe->oe.cls = .type "StopIteration"->e≠f:=λyb Z q2 x=>by subst x;rw[yb]at Z;cases Z;exact absurd (show wz "zip" = wz "StopIteration" from q2) (by decide)
 refine adC _ (λrest b Y=>∃k g h',rest=((rs.map λr=>FY r.j).zipIdx).drop k/\b=(none,())/\Y={ c with heap:=h' }/\ZL c.heap f O tu rs n M X k h' g) _ ?_ ?_ _ _ ?_
 . rintro x rest b Y ⟨k,g,h,d,rfl,rfl,L⟩
   have hk:k<rs.length:=by refine Nat.lt_of_not_le λhc=>?_;rw[agF (by simpa using hc)]at d;cases d
   obtain⟨r,U⟩:∃r,rs[k]? = some r:=⟨_,nP hk⟩
   have hm:=ta U;rw[Ws (by simpa using hk)]at d;injection d with hx Tb
   have hx:x=(.ref r.j,k):=by rw[hx];obtain⟨_,e⟩:=nz.mp U;simp[e]
   subst hx;have i1:=L.it k r U;rw[if_neg (D7 k)]at i1;have s1:=(K r hm).dn L.st (D.am r hm);refine mA (wpAny_onRaise ?_);change wpAny _ _ (XG (.ref r.j) >>= λ_=>_) _ _ _;cases hv:(X r)[n]? with
   |none =>
     refine mA (Eo hh i1 s1 hv λy e l he=>?_);obtain⟨oe,Z,q2⟩:=he;have y2:IsZip y f O tu .ellipsis:=l _ _ (D.jz r hm).1.symm L.hz;refine aep y2 (by simp) λb3 _ p=>I ⟨r,hm,hv⟩ b3 e ?_ ⟨oe,(p.2 _ (ez y2 Z q2)).trans Z,q2⟩;exact(L.st.tr λA o s e=>l A o (λprog=>s (prog ▸ mj r hm)) e).tr (dn.of p mz)
   |some w =>
     refine mA (B6 i1 s1 hv λy u2 l=>mT ?_);have w2:fN y tu (g++M.drop k):=(l.2 _ (D.jz r hm).2.symm).trans L.ht;have ol:k<M.length:=by lia
     have ul:=L.ul;have len:(g++M.drop k).length=rs.length:=by rw[nh,aeO,ul];lia
     refine mA (adX w2 rfl (mA (ae9 w2 rfl ?_ (by simp only[pd];lia) (by simp only[Array.size_setIfInBounds,pd];lia))));refine mA (wpAny_letGo (mT ?_))
     have p:NR tu y (y.update tu (Gx (·.setIfInBounds k w))):=MN ..
     have w3:fN (y.update tu (Gx (·.setIfInBounds k w))) tu ((g ++ [w])++M.drop (k+1)):=by
       show(y.update tu _).get? tu=_;rw[MQ _ w2 rfl];have:(g++M.drop k).set k w=(g ++ [w])++M.drop (k+1):=by rw[List.set_append_right _ _ (by lia),ul,Vc,Ws ol,ahu,zU];rfl
       have ln:((g ++ [w])++M.drop (k+1)).length=(g++M.drop k).length:=by rw[<- this,S3]
       simp only[Gx,List.setIfInBounds_toArray,this];rw[if_pos (by rw[pd,pd,ln,beq_self_eq_true])]
     refine⟨k+1,g ++ [w],_,Tb,rfl,rfl,hk,by simp[ul],λm R mC os=>?_,?_,w3,λm R os=>?_,?_,?_⟩
     . by_cases e:m=k
       . subst e
         rw[U]at os;cases os;exact⟨w,hv,by rw[CY (by lia),ul,Vc];rfl⟩
       . obtain⟨v,h1,h2⟩:=L.uv m R (by lia) os
         exact⟨v,h1,by rw[r_ (by lia)];exact h2⟩
     . exact(p.2 _ D.n2.symm).trans ((l.2 _ (D.jz r hm).1.symm).trans L.hz)
     . have sj:=ta os
       by_cases e:m=k
       . subst e
         rw[U]at os;cases os;rw[if_pos (adz m)];exact u2.at λo e=>(p.2 _ (D.jz r hm).2).trans e
       . have:=L.it m R os
         have nj:R.j≠r.j:=λprog=>by
          have h1:(rs.map (·.j))[m]? = some R.j:=by rw[qy,os];rfl
          have h2:(rs.map (·.j))[k]? = some R.j:=by rw[qy,U,prog];rfl
          exact e ((afX (by simpa using (nz.mp os).1) D.jn).mp (h1.trans h2.symm))
         rw[show(if m<k+1 then n+1 else n)=if m<k then n+1 else n by
          by_cases e2:m<k
          . rw[if_pos e2,if_pos (by lia)]
          . rw[if_neg e2,if_neg (by lia)]]
         exact this.at λo e=>(p.2 _ (D.jz R sj).2).trans ((l.2 _ nj).trans e)
     . exact(L.st.tr (dn.of l (mj r hm))).tr (dn.of p mu)
     . rw[p.1,l.1,L.sz]
 . rintro b Y ⟨k,g,h,d,rfl,rfl,L⟩
   have hk:k=rs.length:=by have:=congrArg aft d;simp at this;have:=L.kl;lia
   subst hk;have ul:=L.ul;have w1:fN h tu g:=by have:=L.ht;rw[agF (by lia),wQ]at this;exact this
   refine mA (adX w1 rfl (mA (wpAny_newTuple ?_ (by simp;lia))));change wpAny _ _ (aeq (.ref f) (.ref h.objs.size) >>= λ_=>_) _ _ _;refine mA ?_;unfold aeq;have y6:IsZip (h.push { cls:=.type "tuple",data:=.seq g.toArray }) f O tu .ellipsis:=nU _ L.hz;refine mA (aep y6 (by simp) λb7 z7 c7=>?_);have y7:IsZip b7 f O tu (xm h.objs.size):=z7;refine aep y7 (by simp) λb8 z8 c8=>mT ⟨_,rfl,?_⟩;have y8:IsZip b8 f O tu (xm h.objs.size):=z8;have Vf:f<h.objs.size:=n7 L.hz;have up:∀A o,A≠f->h.get? A=some o->b8.get? A=some o:=λA o s e=>(c8.2 A s).trans ((c7.2 A s).trans (nU _ e));have T8:fN b8 h.objs.size g:=(c8.2 _ (ae4 Vf)).trans ((c7.2 _ (ae4 Vf)).trans (qt _ rfl));change Q (.ref h.objs.size) _;have sz:=L.sz;rw[sz]at y8 T8 ⊢;refine H g b8 ul (λm r d=>L.uv m r (nz.mp d).1 d) y8 (up _ _ D.n2 w1) (λr d=>?_) T8 λA o s e=>up A o (λprog=>s (prog ▸ mz)) (L.st A o s e);obtain⟨m,hm⟩:=XJ d;have:=L.it m r hm;rw[if_pos (nz.mp hm).1]at this;exact this.at λo e=>up _ o (D.jz r d).1 e
 . refine⟨0,[],b1,rfl,rfl,rfl,tj _,rfl,λ_ _ h=>absurd h (aid _),y1,?_,λm r d=>?_,dn.of c1 mz,c1.1⟩
   . exact(c1.2 _ D.n2).trans i
   . have hm:=ta d
     rw[if_neg (aid _)];exact(B r hm).at λo e=>(c1.2 _ (D.jz r hm).1).trans e
def Es {M:Addr}{rs:List Src}{os:List Value}{xs:Src->Array Value}{Q:Option Value->mJ->Prop}(O:J.handled=none)(D:ZD f M tu rs)(hz:IsZip c.heap f M tu .none)(C:fN c.heap M (rs.map λr=>.ref r.j))(K:fN c.heap tu os)(I:os.length=rs.length)(B:∀r∈rs,lO r.κ c.heap r.j r.a n)(L:∀r∈rs,fV r.κ c.heap r.a (xs r))(H:∀(g:List Value) (h':Heap),g.length=rs.length->(∀(m:Nat) (r:Src),rs[m]? = some r->∃w,(xs r)[n]? = some w/\g[m]? = some w)->IsZip h' f M tu (xm c.heap.objs.size)->fN h' tu g->(∀r∈rs,lO r.κ h' r.j r.a (n+1))->fN h' c.heap.objs.size g->dn (gr f tu rs) c.heap h'->Q (some (.ref c.heap.objs.size)) { c with heap:=h' })(z:(∃r∈rs,(xs r)[n]? = none)->∀h',dn (gr f tu rs) c.heap h'->Q none { c with heap:=h' }):wpAny (model q u) J (EM (.ref f)) Q E c:=by
 have ty:c.TypeIs (.ref f) "zip":=⟨_,hz,rfl⟩
 unfold EM;refine mA (aeN (IF (name:=th "__next__") ty F.slot_zip_next (x9 F.slot_zip_next ty F.entry_zip_next (Er O D hz C K I B L (λg h' i l A v x h p=>mT (H g h' i l A v x h p)) λy h' e s he=>?_) (F.args_zip_next_1 _))));obtain⟨o,prog,d⟩:=he;exact mA (ad5 (T:="StopIteration") (b:=true) ⟨o,prog,d⟩ agJ (mT (z y _ s)))
abbrev iE (q:Bool×Addr):Obj:={ cls:=.type (iN q.1),data:=.fields #[.ref q.2,.int 0 0] }
def sZ (h:Heap):List (Bool×Addr)->Heap
 | []=>h|q::r=>sZ (h.push (iE q)) r
def xU (h:Heap):List (Bool×Addr)->List Addr
 | []=>[]|q::r=>h.objs.size::xU (h.push (iE q)) r
abbrev Jd (h:Heap)(l:List (Bool×Addr)):Heap:=(sZ h l).push { cls:=.type "tuple",data:=.seq ((xU h l).map FY).toArray }
abbrev Je (h:Heap)(l:List (Bool×Addr)):Heap:=(Jd h l).push { cls:=.type "tuple",data:=.seq (l.map λ_=>AR).toArray }
abbrev Jf (h:Heap)(l:List (Bool×Addr)):Heap:=(Je h l).push { cls:=.type "zip",data:=.fields #[.none,.bool false,.bool false,.ref (sZ h l).objs.size,.ref (Jd h l).objs.size] }
theorem fV.push {items}(x:fV Y z f items)(o:Obj):fV Y (z.push o) f items:=by obtain⟨u,hu,r⟩:=x;exact⟨u,nU _ hu,r⟩
abbrev B7 (l:List (Bool×Addr)):Prop:=Meets (u3.«zip.__new__» ⟨.type "zip" :: l.map λq=>.ref q.2,[]⟩) (λ_ R s=>(∀q∈l,∃c,fV q.1 s.heap q.2 c)/\R (.ok (.ret (.ref (Je s.heap l).objs.size))) { s with heap:=Jf s.heap l })
def LB (p q:Bool×Addr):B7 [p,q]:=.of_wp λprog w A R s h=>by
 obtain⟨a,g,d,b,os⟩:=s;obtain⟨t,h⟩:=h;have sub:=sub_zip;obtain⟨i,n⟩:=t p (by simp);obtain⟨ys,e⟩:=t q (by simp);have c:fV p.1 (afu ⟨a,g,d,b,os⟩) p.2 i:=n;have tB:fV q.1 (afu ⟨a.push (iE p),g,d,b,os⟩) q.2 ys:=e.push _;show wpAny _ _ (u3.«zip.__new__» ⟨[.type "zip",.ref p.2,.ref q.2],[]⟩) _ _ _;clear t
 wp_walk using sY c,sY tB
 exact⟨_,rfl,h⟩
set_option maxHeartbeats 1000000 in
def LC (p q r:Bool×Addr):B7 [p,q,r]:=.of_wp λprog w A R s h=>by
 obtain⟨a,g,d,b,os⟩:=s;obtain⟨t,h⟩:=h;have sub:=sub_zip;obtain⟨i,n⟩:=t p (by simp);obtain⟨ys,e⟩:=t q (by simp);obtain⟨zs,u⟩:=t r (by simp);have c:fV p.1 (afu ⟨a,g,d,b,os⟩) p.2 i:=n;have tB:fV q.1 (afu ⟨a.push (iE p),g,d,b,os⟩) q.2 ys:=e.push _;have tC:fV r.1 (afu ⟨(a.push (iE p)).push (iE q),g,d,b,os⟩) r.2 zs:=(u.push _).push _;show wpAny _ _ (u3.«zip.__new__» ⟨[.type "zip",.ref p.2,.ref q.2,.ref r.2],[]⟩) _ _ _;clear t
 wp_walk using sY c,sY tB,sY tC
 exact⟨_,rfl,h⟩
theorem B8 {c:Addr}{o:Obj}:∀{l:List (Bool×Addr)} {h:Heap},h.get? c=some o->(sZ h l).get? c=some o
 | [],_,e=>e|_::l,_,e=>B8 (l:=l) (nU _ e)
theorem Jg:∀{l:List (Bool×Addr)} {h:Heap},(sZ h l).objs.size=h.objs.size+l.length
 | [],_=>rfl|q::l,h=>by have:=Jg (l:=l) (h:=h.push (iE q));rw[NX]at this;rw[xk,sZ,this];lia
theorem B9:∀{l:List (Bool×Addr)} {h:Heap} {m:Nat} {q:Bool×Addr},l[m]? = some q->(xU h l)[m]? = some (h.objs.size+m)/\(sZ h l).get? (h.objs.size+m)=some (iE q)
 | [],_,_,_,e=>by simp at e|p::l,h,0,q,e=>by simp at e;subst e;exact⟨rfl,B8 (l:=l) (qt _ rfl)⟩|p::l,h,m+1,q,e=>by have:=B9 (l:=l) (h:=h.push (iE p)) (m:=m) (q:=q) (by simpa using e);rw[NX,show h.objs.size+1+m=h.objs.size+(m+1) by lia]at this;exact⟨by simpa[xU]using this.1,this.2⟩
theorem Ar:∀{l:List (Bool×Addr)} {h:Heap},(xU h l).length=l.length
 | [],_=>rfl|q::l,h=>by simp[xU,Ar (l:=l)]
noncomputable def cW (n:Nat)(l:List (Bool×Addr)):List Src:=l.zipIdx.map λp=>⟨p.1.1,n+p.2,p.1.2⟩
def mS:(cW n w)[p]? = w[p]?.map λq=>⟨q.1,n+p,q.2⟩:=by unfold cW;rw[qy,List.getElem?_zipIdx];cases w[p]?<;>simp
def iA:(cW n w).length=w.length:=by simp[cW]
def nJ {r:Src}(h:r∈cW n w):∃m q,w[m]? = some q/\r=⟨q.1,n+m,q.2⟩:=by obtain⟨m,e⟩:=XJ h;rw[mS]at e;obtain⟨q,a,rfl⟩:=p7.mp e;exact⟨m,q,a,rfl⟩
def Pg:(xU z w).map FY=(cW z.objs.size w).map λr=>.ref r.j:=by
 refine Wd λm=>?_;rw[qy,qy,mS];cases e:w[m]? with
 |none=>rw[zA (by rw[Ar];exact adu.mp e)];rfl|some q=>rw[(B9 e).1];rfl
def vh (mk:B7 w)(z:checkTypeCall "zip" ⟨w.map λprog=>.ref prog.2,[]⟩=pure ())(B:agj "zip.__new__" ⟨.type "zip" :: w.map λprog=>.ref prog.2,[]⟩=pure ())(y:∀o,XN "object.__init__" ⟨o::w.map λprog=>.ref prog.2,[]⟩)(t:∀prog∈w,∃C,fV prog.1 c.heap prog.2 C)(h:∀h',IsZip h' (c.heap.objs.size+w.length+2) (c.heap.objs.size+w.length) (c.heap.objs.size+w.length+1) .none->fN h' (c.heap.objs.size+w.length) ((cW c.heap.objs.size w).map λr=>.ref r.j)->fN h' (c.heap.objs.size+w.length+1) (w.map λ_=>AR) ->
   (∀r∈cW c.heap.objs.size w,lO r.κ h' r.j r.a 0)->(∀s o,c.heap.get? s=some o->h'.get? s=some o)->Q (.ref (c.heap.objs.size+w.length+2)) { c with heap:=h' }):
  wpAny (model q u) J (call (.type "zip") (w.map λprog=>.ref prog.2)) Q E c:=by
 refine callType_new F.called_zip (by decide) z B y F.entry_zip_new mk ⟨t,?_⟩;have b:(sZ c.heap w).objs.size=c.heap.objs.size+w.length:=Jg;have d:(Jd c.heap w).objs.size=c.heap.objs.size+w.length+1:=by rw[NX,b]
 have n:(Je c.heap w).objs.size=c.heap.objs.size+w.length+2:=by rw[NX,d]
 have g:∀{h:Heap} {o H:Obj} {s:Addr},h.get? s=some o->(h.push H).get? s=some o:=λe=>nU _ e;have f:(Jf c.heap w).get? (Je c.heap w).objs.size=some _:=qt _ rfl;have p:(Jf c.heap w).get? (Jd c.heap w).objs.size=some _:=g (qt _ rfl);have i:(Jf c.heap w).get? (sZ c.heap w).objs.size=some _:=g (g (qt _ rfl));show _/\_;rw[b,d,n]at f;rw[d]at p;rw[b,Pg]at i;rw[n];refine⟨⟨_,f,rfl⟩,h _ f i p (λr A=>?_) λs o x=>g (g (g (B8 x)))⟩;obtain⟨m,prog,v,rfl⟩:=nJ A;exact⟨_,g (g (g (B9 v).2)),rfl,rfl⟩
noncomputable def B_ (K : o3) (l : List (Bool × Addr)): It :=
 ⟨λi H => ∀ q ∈ l, ∃ c x, jk K q.1 H q.2 c /\ c[i]? = some x,
  λi H x a => ∃ T g, x = .ref T /\ H T = none /\ a = upd H T (.tup g) /\ g.length = l.length /\ ∀ (m : Nat) (q : Bool × Addr), l[m]? = some q -> ∀ c, jk K q.1 H q.2 c -> ∃ v, c[i]? = some v /\ g[m]? = some v,
  λi H => (∀ q ∈ l, ∃ c, jk K q.1 H q.2 c) /\ ∃ q ∈ l, ∃ c, jk K q.1 H q.2 c /\ c.length <= i⟩
theorem As {P:Nat->V->Prop}:∀(c:List Value) (k:Nat),(∀(m:Nat) (u:Value),c[m]? = some u->∃v,P (k+m) v/\m5 v u)->∃g,Vals g c /\ ∀(m:Nat) (v:V),g[m]? = some v->P (k+m) v
 | [],_,_=>⟨[],.nil,λm v h=>by simp at h⟩
 |u::c,k,h=>by
  obtain⟨v,p,r⟩:=h 0 u rfl;obtain⟨g,rs,a⟩:=As (P:=P) c (k+1) λm u e=>by have:=h (m+1) u (by simpa using e);rwa[show k+(m+1)=k+1+m by lia]at this
  refine⟨v::g,.cons r rs,λm w e=>?_⟩;cases m with
  |zero=>simp at e;subst e;exact p|succ m=>have:=a m w (by simpa using e);rwa[show k+1+m=k+(m+1) by lia]at this
structure ZT (h:Heap)(z ti tu:Addr)(n0:Nat)(l:List (Bool×Addr))(i:Nat):Prop where
 hz:IsZip h z ti tu .none
 kZ:fN h ti ((cW n0 l).map λr=>.ref r.j)
 vg:∃os:List Value,fN h tu os/\os.length=l.length
 it:∀r∈cW n0 l,lO r.κ h r.j r.a i
def lg (z c b:Addr)(a:Nat)(l:List (Bool×Addr)):List Addr:=c::gr z b (cW a l)
def Et:(cW n w).map (·.j)=(sv w.length).map (n + ·):=by
 refine Wd λm=>?_;rw[qy,qy,mS];by_cases h:m<w.length
 . rw[nP h,Z3 h];rfl
 . rw[zA (by lia),zA (by simp;lia)];rfl
def Eu {P:uV}{K:o3}(A:Nat)(l:List (Bool×Addr))(J:l.length<=8)(L:l ≠ []):
   Turn P u K (.Tuple d p B) (B_ K l) (lg (A+l.length+2) (A+l.length) (A+l.length+1) A l) (A+l.length+2) (λi h=>ZT h (A+l.length+2) (A+l.length) (A+l.length+1) A l i):=by
 generalize Ph:A+l.length+2=z;generalize aC:A+l.length+1=tu;generalize aS:A+l.length=M;have a1:(tu:Nat)≠z:=by lia
 have a2:(M:Nat)≠z:=by lia
 have a3:(M:Nat)≠tu:=by lia
 have Vg:∀r∈cW A l,r.j≠M/\r.j≠z/\r.j≠tu:=λr f=>by
   obtain⟨m,q,hq,rfl⟩:=nJ f;have:=(nz.mp hq).1;have b1:(A+m:Nat)≠M:=by lia
   have b2:(A+m:Nat)≠z:=by lia
   have b3:(A+m:Nat)≠tu:=by lia
   exact⟨b1,b2,b3⟩
 have memC:∀{c},c∈gr z tu (cW A l)->c=z\/c=tu \/ ∃r∈cW A l,c=r.j:=fun {c} h=>by
   simp only[gr,nQ,oa]at h;rcases h with h|h|⟨r,f,h⟩
   . exact .inl h
   . exact .inr (.inl h)
   . exact .inr (.inr ⟨r,f,h.symm⟩)
 have zd:(∀r∈cW A l,r.a ∉ gr z tu (cW A l))->ZD z M tu (cW A l):=λam=>by
   refine⟨a1,λh=>?_,?_,λr f=>(Vg r f).2,am,by rw[iA];exact J,λh=>L (acq.mp (by rw[<- iA (n:=A),h];rfl))⟩
   . rcases memC h with h|h|⟨r,f,h⟩
     . exact a2 h
     . exact a3 h
     . exact(Vg r f).1 h.symm
   . rw[Et,List.Nodup,ahM]
     exact agl.imp λh e=>h (Nat.add_left_cancel e)
 have own:∀{i h},ZT h z M tu A l i->∀b∈lg z M tu A l,∃o,h.get? b=some o /\ ∀v,o.data ≠ .cell v:=fun {i h} st c x=>by
   obtain⟨os,R,_⟩:=st.vg;simp only[lg,nQ]at x;rcases x with rfl|x
   . exact⟨_,st.kZ,λv z=>by cases z⟩
   . rcases memC x with rfl|rfl|⟨r,f,rfl⟩
     . exact⟨_,st.hz,λv z=>by cases z⟩
     . exact⟨_,R,λv z=>by cases z⟩
     . obtain⟨o,g,_,kt⟩:=st.it r f
       exact⟨_,g,λv z=>by rw[kt]at z;cases z⟩
 have mz:z∈lg z M tu A l:=by simp[lg,gr]
 have mt:M∈lg z M tu A l:=by simp[lg]
 have mu:tu∈lg z M tu A l:=by simp[lg,gr]
 have mj:∀r∈cW A l,r.j∈lg z M tu A l:=λr f=>by simp only[lg,gr,nQ];exact .inr (.inr (.inr (Pd f)))
 refine⟨mz,λi h st=>own st,λi h h' st k=>?_,?_,?_,λ_ _ _ _ _ st h=>wpAny_pyIter_zip st.hz h⟩
 . obtain⟨os,R,Z⟩:=st.vg
   exact⟨k z mz _ st.hz,k M mt _ st.kZ,⟨os,k tu mu _ R,Z⟩,λr f=>(st.it r f).at λo e=>k _ (mj r f) o e⟩
 . intro X hP hw hK x i cv s σ H E I hf st hg
   subst hP hw hK;obtain⟨os,R,Z⟩:=st.vg;have ex:∀r∈cW A l,∃(y:List V) (O:List Value) (v:V) (w:Value),jk X.K r.κ H r.a y/\fV r.κ s.heap r.a O.toArray/\y[i]? = some v/\O[i]? = some w/\m5 v w:=λr f=>by obtain⟨m,q,hq,rfl⟩:=nJ f;obtain⟨y,v,h1,h2⟩:=hg q (ta hq);obtain⟨O,rv,C,_⟩:=Hc I h1;obtain⟨w,hu,ru⟩:=rv.get h2;exact⟨y,O,v,w,h1,C,h2,hu,ru⟩
   have D:=zd λr f h=>by obtain⟨y,_,_,_,h1,_⟩:=ex r f;exact Ep I (hf _ (qz _ h)) h1 rfl
   classical
   let xs:Src->Array Value:=λr=>if h:r∈cW A l then(aeS (VI (ex r h))).toArray else #[];have Y:∀r∈cW A l,∃(y:List V) (v:V) (w:Value),jk X.K r.κ H r.a y/\fV r.κ s.heap r.a (xs r)/\y[i]? = some v/\(xs r)[i]? = some w/\m5 v w:=λr f=>by obtain⟨v,w,a,b,c,kt,e⟩:=VI (VI (ex r f));have e1:xs r=(aeS (VI (ex r f))).toArray:=dif_pos f;rw[<- e1]at b;exact⟨_,v,w,a,b,c,by rw[e1];simpa using kt,e⟩
   refine Es (xs:=xs) (os:=os) (I.ok.hd x) D st.hz st.kZ R (by rw[Z,iA]) st.it (λr f=>let⟨_,_,_,_,C,_⟩:=Y r f;C) (λU h' ul uv g1 g2 g3 g5 g6=>?_) λ⟨r,f,e⟩=>by obtain⟨_,_,w,_,_,_,e2,_⟩:=Y r f;rw[e]at e2;cases e2
   refine⟨_,rfl,wpAny_letOwnedTupleGo_zip g1 λIV g7 g8=>?_⟩;obtain⟨Q,ab,pw⟩:=As (P:=λm v=>∀q,l[m]? = some q->∀y,jk X.K q.1 H q.2 y->y[i]? = some v) U 0 λm w hm=>by
     have hl:m<l.length:=by rw[<- iA (n:=A),<- ul];exact(nz.mp hm).1
     have hq:l[m]? = some l[m]:=nP hl;have f:(cW A l)[m]? = some ⟨l[m].1,A+m,l[m].2⟩:=by rw[mS,hq];rfl
     obtain⟨u',h1,h2⟩:=uv m _ f;rw[hm]at h2;cases h2;obtain⟨y,v,u2,p1,_,p3,p4,p5⟩:=Y _ (ta f);rw[h1]at p4;cases p4;refine⟨v,λq e ys hy=>?_,p5⟩;rw[uB,hq]at e;cases e;rw[xS I hy p1];exact p3
   have wl:Q.length=l.length:=by rw[ab.length,ul,iA]
   have I1:mH X cv σ (upd H s.heap.objs.size (.tup Q)) { s with heap:=s.heap.push { cls:=.type "tuple",data:=.seq U.toArray } }:=
     I.laid (t':=s.toks) (o:=.tup Q) (λb o q=>nU _ q) (nA _) (show dX X.prog X.w _ _ _ (.tup Q) from⟨by rw[wl,L3];lia,U,ab,fY.new _ _⟩)
   have lt:∀c∈lg z M tu A l,c≠s.heap.objs.size:=λc x=>by obtain⟨o,h,_⟩:=own st c x;exact sI (n7 h)
   have I2:mH X cv σ (upd H s.heap.objs.size (.tup Q)) { s with heap:=IV }:=Ag (t':=s.toks) (s:={ s with heap:=s.heap.push { cls:=.type "tuple",data:=.seq U.toArray } }) (ch:=lg z M tu A l) I1 (λc o x e=>by
     have uN:c ∉ gr z tu (cW A l):=λq=>x (qz _ q);have h6:h'.get? c=some o:=by
       by_cases Vh:c=s.heap.objs.size
       . subst Vh
         have e':(s.heap.push { cls:=.type "tuple",data:=.seq U.toArray }).get? s.heap.objs.size=some o:=e;rw[qt _ rfl]at e';rw[<- e'];exact g5
       . exact g6 c o uN ((Heap.get?_push_ne s.heap c _ Vh).symm.trans e)
     exact(g8.2 c λq=>x (q ▸ mz)).trans h6) (λc x=>by obtain⟨f0,f1,f2,f3,f4,f5⟩:=hf c x;exact⟨by rw[aG (lt c x)];exact f0,f1,f2,f3,f4,f5⟩)
   refine⟨.ref s.heap.objs.size,_,I2,rfl,⟨_,Q,rfl,I.fresh,rfl,wl,λm q hq ys hy=>?_⟩,⟨g7,?_,⟨U,?_,by rw[ul,iA]⟩,λr f=>?_⟩,λc x=>?_⟩
   . have hm:m<Q.length:=by rw[wl];exact(nz.mp hq).1
     have:=pw m Q[m] (nP hm) q (by rw[uB];exact hq) ys hy;exact⟨_,this,nP hm⟩
   . exact(g8.2 _ a2).trans (g6 M _ D.tm st.kZ)
   . exact(g8.2 _ D.n2).trans g2
   . exact(g3 r f).at λo e=>(g8.2 _ (D.jz r f).1).trans e
   . rw[aG (lt c x)];exact(hf c x).1
 . intro X hP hw hK x i cv s σ H E I hf st hg
   subst hP hw hK;obtain⟨os,R,Z⟩:=st.vg;obtain⟨kN,q0,aB,ys,hy,hle⟩:=hg;have ex:∀r∈cW A l,∃(y:List V) (O:List Value),jk X.K r.κ H r.a y/\fV r.κ s.heap r.a O.toArray/\O.length=y.length:=λr f=>by obtain⟨m,q,hq,rfl⟩:=nJ f;obtain⟨y,h1⟩:=kN q (ta hq);obtain⟨O,rv,C,_⟩:=Hc I h1;exact⟨y,O,h1,C,rv.length.symm⟩
   have D:=zd λr f h=>by obtain⟨y,_,h1,_⟩:=ex r f;exact Ep I (hf _ (qz _ h)) h1 rfl
   classical
   let xs:Src->Array Value:=λr=>if h:r∈cW A l then(aeS (VI (ex r h))).toArray else #[];have Y:∀r∈cW A l,∃(y:List V),jk X.K r.κ H r.a y/\fV r.κ s.heap r.a (xs r)/\(xs r).size=y.length:=λr f=>by obtain⟨a,b,c⟩:=VI (VI (ex r f));have e1:xs r=(aeS (VI (ex r f))).toArray:=dif_pos f;rw[<- e1]at b;exact⟨_,a,b,by rw[e1,pd];exact c⟩
   obtain⟨m0,ar⟩:=XJ aB;have Vi:(cW A l)[m0]? = some ⟨q0.1,A+m0,q0.2⟩:=by rw[mS,ar];rfl
   have ah:=ta Vi;obtain⟨aW,p1,p2,p3⟩:=Y _ ah;have Tc:(xs ⟨q0.1,A+m0,q0.2⟩)[i]? = none:=by rw[xS I hy p1]at hle;exact adM (by lia)
   refine Es (xs:=xs) (os:=os) (I.ok.hd x) D st.hz st.kZ R (by rw[Z,iA]) st.it (λr f=>let⟨_,_,C,_⟩:=Y r f;C) (λU h' ul uv g1 g2 g3 g5 g6=>?_) λ_ h' g=>⟨rfl,Ag (t':=s.toks) (ch:=gr z tu (cW A l)) I (λc o x e=>g c o x e) λc x=>hf c (qz _ x)⟩
   obtain⟨w,h1,_⟩:=uv m0 _ Vi;rw[Tc]at h1;cases h1
def LD (a b c:Value):checkTypeCall "zip" ⟨[a,b,c],[]⟩=pure ():=by kernel_rfl
def LF (a b c:Value):agj "zip.__new__" ⟨[.type "zip",a,b,c],[]⟩=pure ():=by kernel_rfl
def LG (o a b c:Value):XN "object.__init__" ⟨[o,a,b,c],[]⟩:=by unfold XN;rw[signature?_of (id:="object.__init__") (n:=['_','_','t','i','n','i','_','_']) (o:=['t','c','e','j','b','o']) (by kernel_rfl) F.owner_object];kernel_rfl
noncomputable def uo:D->Option (Bool×List D)
 |.lst c=>some (true,c)|.tup c=>some (false,c)|_=>none
noncomputable def pY:List D->Option (List (Bool×List D))
 | []=>some []|d::ds=>(uo d).bind λq=>(pY ds).map λr=>q::r
noncomputable def lj (a:List (List D))(L:Nat):List D:=(sv L).map λi=>.tup (a.map λc=>c.getD i .aB)
def s_ (fr:FA):FI:=λc g=>(fr c g).bind λr=>(pY r.1).bind λa=>match a with
 | []=>none|q::t=>if((t.length == 1||t.length == 2)&&t.all λp=>p.2.length == q.2.length)=true then some (lj ((q::t).map (·.2)) q.2.length,r.2)else none
def Ca {H ι d x j xs}(K:Rel r H ι d x)(h:uo d=some (j,xs)){i f}(e:jU H ι i f):∃a g,x = .ref a/\jk r.fr j i a g/\ai r i f xs g:=by
 cases d with
 |lst ys =>
  cases h;obtain⟨a,g,rfl,c,b⟩:=K;exact⟨a,g,rfl,(c.d7 e).sq,ai.d7 e _ b⟩
 |tup ys =>
  cases h;obtain⟨a,g,rfl,c,b⟩:=K;exact⟨a,g,rfl,(c.d7 e).sq,ai.d7 e _ b⟩
 |_=>cases h
theorem Au {K:KW}{H ι}:∀{ds:List D} {u:List V} {g:List (Bool×List D)},ai K H ι ds u->pY ds=some g->∃l:List (Bool×Addr),u=l.map (λq=>V.ref q.2)/\l.length=g.length /\ ∀(m:Nat) (q:Bool×Addr),l[m]? = some q->∃d x,g[m]? = some (q.1,x)/\Rel K H ι d (.ref q.2)/\uo d=some (q.1,x)
 | [],u,g,r,h=>by simp only[ai]at r;subst r;cases h;exact⟨[],rfl,rfl,λm q h=>by simp at h⟩
 |d::ds,u,g,r,h=>by
  obtain⟨v,y,rfl,b,j⟩:=r;obtain⟨⟨κ,x⟩,c,h⟩:=bind_some h;obtain⟨n,i,rfl⟩:=p7.mp h;obtain⟨l,rfl,f,p⟩:=Au j i;obtain⟨a,_,rfl,_⟩:=Ca b c Ext.refl.d7;refine⟨(κ,a)::l,rfl,by simp[f],λm q e=>?_⟩;cases m with
  |zero=>simp at e;subst e;exact⟨d,x,rfl,b,c⟩|succ m=>simpa using p m q (by simpa using e)
theorem vi:∀{l:List (Bool×Addr)} {c:List Value},Vals (l.map λq=>V.ref q.2) c->c=l.map λq=>FY q.2
 | [],_,.nil=>rfl|q::l,_,.cons r t=>by cases r;rw[vi t];rfl
theorem Av {K:KW}{H ι}:∀{ds:List D} {c:List V},ds.length=c.length->(∀(m:Nat) (d:D),ds[m]? = some d->∃v,c[m]? = some v/\Rel K H ι d v)->ai K H ι ds c
 | [],[],_,_=>by simp only[ai]| [],_::_,h,_=>by simp at h|_::_,[],h,_=>by simp at h|d::ds,v::c,g,h=>by simp only[ai];obtain⟨w,e,r⟩:=h 0 d rfl;simp at e;subst e;exact⟨v,c,rfl,r,Av (by simpa using g) λm d e=>by simpa using h (m+1) d (by simpa using e)⟩
def He:∀{l:List (Bool×Addr)},l.length=2\/l.length=3->(∀prog∈l,∃g,fV prog.1 c.heap prog.2 g) ->
  (∀h',IsZip h' (c.heap.objs.size+l.length+2) (c.heap.objs.size+l.length) (c.heap.objs.size+l.length+1) .none->fN h' (c.heap.objs.size+l.length) ((cW c.heap.objs.size l).map λr=>.ref r.j)->fN h' (c.heap.objs.size+l.length+1) (l.map λ_=>AR) ->
   (∀r∈cW c.heap.objs.size l,lO r.κ h' r.j r.a 0)->(∀w o,c.heap.get? w=some o->h'.get? w=some o)->Q (.ref (c.heap.objs.size+l.length+2)) { c with heap:=h' })->wpAny (model q u) J (call (.type "zip") (l.map λprog=>.ref prog.2)) Q E c
 | [],h,_,_=>by simp at h| [_],h,_,_=>by simp at h| [p,prog],_,t,h=>vh (LB p prog) (F.typeCall_zip_2 _ _) (F.newCall_zip_2 _ _) (λo=>F.args_object_init_3 o _ _) t h| [p,prog,r],_,t,h=>vh (LC p prog r) (LD _ _ _) (LF _ _ _) (λo=>LG o _ _ _) t h|_::_::_::_::_,h,_,_=>by simp only[xk]at h;lia
theorem nD.lj {K:KW}{H ι}{l:List (Bool×Addr)}{A:List (Bool×List D)}{L:Nat}(B:l.length=A.length)(E:l ≠ [])(C:∀q∈A,q.2.length=L)
   (p:∀(m:Nat) (q:Bool×Addr),l[m]? = some q->∃d g,A[m]? = some (q.1,g)/\Rel K H ι d (.ref q.2)/\uo d=some (q.1,g)):nD K (B_ K.fr l) H ι (lj (A.map (·.2)) L):=λi O M g1 Y Q=>by
 have J:∀(m:Nat) (q:Bool×Addr),l[m]? = some q->∃g I,A[m]? = some (q.1,g)/\g.length=L/\jk K.fr q.1 O q.2 I/\ai K O M g I:=λm q e=>by obtain⟨d,g,f,r,b⟩:=p m q e;obtain⟨a,I,Z,c,n⟩:=Ca r b Y;cases Z;exact⟨g,I,f,C _ (ta f),c,n⟩
 refine⟨λu=>⟨λq hq=>?_,?_⟩,λd hd=>?_⟩
 . obtain⟨m,hm⟩:=XJ hq
   obtain⟨_,I,_,_,h,_⟩:=J m q hm;exact⟨I,h⟩
 . have R:0<l.length:=ahg.mpr E
   obtain⟨g,I,_,r,b,c⟩:=J 0 _ (nP R);refine⟨_,Ds R,I,b,?_⟩;rw[<- c.length,r];simpa[_root_.lj]using u
 . unfold _root_.lj at hd
   rw[qy]at hd;obtain⟨j,z,rfl⟩:=p7.mp hd;have u:i<L:=by simpa using (nz.mp z).1
   rw[Z3 u]at z;cases z;have U:∀(m:Nat) (q:Bool×Addr),l[m]? = some q->∃g I v,A[m]? = some (q.1,g)/\jk K.fr q.1 O q.2 I/\I[i]? = some v/\Rel K O M (g.getD i .aB) v:=λm q e=>by
     obtain⟨g,I,f,r,b,c⟩:=J m q e;have hx:g[i]? = some (g.getD i .aB):=by rw[O1,nP (by lia)];rfl
     obtain⟨v,n,s⟩:=c.get hx;exact⟨g,I,v,f,b,n,s⟩
   refine⟨λq hq=>?_,λx H2 y=>?_⟩
   . obtain⟨m,hm⟩:=XJ hq
     obtain⟨_,I,v,_,b,c,_⟩:=U m q hm;exact⟨I,v,b,c⟩
   . obtain⟨T,ws,rfl,o,rfl,hw,hy⟩:=y
     refine⟨Ext.lay o,Q.lay o,?_⟩;simp only[Rel];refine⟨T,ws,rfl,.inl ⟨.inl aQ,Q.fresh o⟩,ai.ext (Ext.lay o) _ (Av (by simp[hw,B]) λm d hd=>?_)⟩;rw[E5,qy]at hd;obtain⟨q',X,rfl⟩:=p7.mp hd;have hm:m<l.length:=by rw[B];exact(nz.mp X).1
     obtain⟨g,I,v,f,b,c,n⟩:=U m _ (nP hm);obtain⟨v',s,h7⟩:=hy m _ (nP hm) I b;rw[c]at s;cases s;rw[X]at f;cases f;exact⟨_,h7,n⟩
def Ew {R:It->Hp->Prop}{l:List (Bool×Addr)}(h:l.length=2\/l.length=3)(I:mH X b y H c)(r:∀q∈l,∃x,jk X.K q.1 H q.2 x)(hR:R (B_ X.K l) H):
  wpAny (model X.prog X.w) X.A (call (.type "zip") (l.map λq=>.ref q.2)) (λv C=>wpAny (model X.prog X.w) X.A (Ux v) (Nf X b y (.Tuple d n B) R) X.xe C) X.xe c:=by
 refine He h (λq hm=>let⟨_,e⟩:=r q hm;let⟨_,_,p,_⟩:=Hc I e;⟨_,p⟩) λs g u i j f=>wpAny_pyIter_zip g ?_;refine⟨c.heap.objs.size+l.length+2,lg _ _ _ _ l,_,_,H,rfl,I.kept (t':=c.toks) f,Eu c.heap.objs.size l (by lia) (λz=>by rw[z]at h;simp at h),⟨g,u,⟨_,i,by simp⟩,j⟩,λE a=>?_,hR⟩;have le:c.heap.objs.size<=E:=by
  simp only[lg,gr,Et,nQ,oa,aet]at a;rcases a with rfl|rfl|rfl|⟨m,_,rfl⟩
  . exact WG _ _
  . exact qJ (WG _ l.length) (WG _ 2)
  . exact qJ (WG _ l.length) (WG _ 1)
  . exact WG _ _
 exact I.t8 le (I.aW.fresh le)
def LH {A:Pos}{Q:List Expr}(E:Gl X "zip")(C:X.mg "zip" = none)(J:DA X (e::d) k)(M:nN (e::d) X.env=(false,eval e X.env)::nN d X.env)(L:(vE A (nN d X.env)).any (·.1)=false):
  DI X (.Tuple Q n pos) (.Call (.Name "zip" B) (e::d) [] A) (s_ k):=.of (by
 intro U s Y H R I h;obtain⟨Z,σd,g,ds,g',G0,S0,h,q⟩:=h;obtain⟨⟨as,g1⟩,h1,h⟩:=bind_some h;obtain⟨qs,h2,h⟩:=bind_some h;cases qs with
 |nil=>cases h
 |cons q0 t =>
  dsimp only at h;split at h
  . rename_i x
    cases h;simp only[nc,zg,beq_iff_eq,Js]at x;refine Call_ (iQ I E C agT (ab9 (aX (J.un A U s Y H (λj O=>∃b,Ext H Z O b/\aw X.kw O b g'/\ai X.kw O b as j) I (iW.bind G0 S0 h1 λO b v fr o S1 i=>⟨b,fr,o,i⟩)) λus s1 aS=>?_) M L) (by decide) (by decide));obtain⟨j,O,I1,i,b,fr,o,rd⟩:=aS;obtain⟨l,rfl,u,r⟩:=Au rd h2;obtain rfl:=vi i;have f:l.length=2\/l.length=3:=by rw[u,xk];lia
    have l0:l ≠ []:=λz=>by rw[z]at f;simp at f
    refine Ew f I1 (λq c=>?_) (q O b _ fr o (.lj u l0 (λq c=>?_) r))
    . obtain⟨m,C⟩:=XJ c
      obtain⟨p,xs,_,y,h4⟩:=r m q C;obtain⟨a,j,e2,h5,_⟩:=Ca y h4 Ext.refl.d7;cases e2;exact⟨_,h5⟩
    . rcases nQ.mp c with rfl|c
      . rfl
      . exact x.2 q c
  . cases h)
def xV:s_ k l a=(k l a).bind λr=>(pY r.1).bind λc=>match c with
 | []=>none|q::t=>if((t.length == 1||t.length == 2)&&t.all λp=>p.2.length == q.2.length)=true then some (lj ((q::t).map (·.2)) q.2.length,r.2)else none:=rfl
abbrev VW:=Sh
def Hf {b:oP}{t:FG}:nF b t Z l a=(b l a).bind λr=>gF r.1 r.2.1 t Z r.2.1 l r.2.2:=rfl
theorem rj {t:FG}{b:FS}{Q:F×Sg×G->Prop}{p:VW}{L:Nat}(I:Nat->Sg->G->Prop):∀(k i:Nat) (u:Sg) (g:G),i+k=L->I i u g ->
  (∀j u g,j<=L->I j u g->∃v,p g=some v/\v.length=L /\ ∀d,v[j]? = some d->ni (t d u g) λq=>ni (b q.1 q.2) λr=>match r.1 with
   |.nx=>I (j+1) r.2.1 r.2.2|.ct=>I (j+1) r.2.1 r.2.2|.bk=>Q (.nx,r.2.1,r.2.2)|.rt d=>Q (.rt d,r.2.1,r.2.2))->(∀u g,I L u g->Q (.nx,u,g))->ni (gF p L t b k u g) Q
 | 0,i,u,g,hk,x,hs,he=>by
  obtain rfl:i=L:=by lia
  obtain⟨v,c,e,_⟩:=hs i u g (nA _) x;simp only[gF,c,nv,e,if_true,gH];exact he u g x
 |k+1,i,u,g,hk,x,hs,he=>by
  obtain⟨v,c,e,l⟩:=hs i u g (by lia) x;have f:i<v.length:=by lia
  have hd:v[L-(k+1)]? = some v[i]:=by rw[show L-(k+1)=i by lia];exact nP f
  simp only[gF,c,nv,e,if_true,hd,bav];refine NT (l _ (nP f)) λq n=>NT n λr a=>?_;obtain⟨h,o⟩:=r;cases h with
  |nx=>exact rj I k (i+1) _ _ (by lia) a hs he|ct=>exact rj I k (i+1) _ _ (by lia) a hs he|bk=>simp only[gH];exact a|rt d=>simp only[gH];exact a
noncomputable def oZ:D->Option (Bool×VW)
 |.lst c=>some (true,λ_=>some c)|.tup c=>some (false,λ_=>some c)|.ref n=>some (true,λg=>g[n]?)|_=>none
def nK (v w:VW):VW:=λg=>(v g).bind λc=>(w g).map λa=>oU c a
noncomputable def pZ (b a:FE):oP:=λc g=>(b c g).bind λr=>(oZ r.1).bind λv=>(a c r.2).bind λq=>(oZ q.1).bind λw=>(nK v.2 w.2 q.2).map λzs=>(nK v.2 w.2,zs.length,q.2)
def v_ {K H ι d x p v}(r:Rel K H ι d x)(h:oZ d=some (p,v)){l j g1}(e:jU H ι l j)(q:aw K l j g1)(o:v g1=some A):∃a g,x = .ref a/\jk K.fr p l a g/\ai K l j A g:=by
 cases d with
 |lst ys =>
  cases h;cases o;obtain⟨a,g,rfl,c,b⟩:=r;exact⟨a,g,rfl,(c.d7 e).sq,ai.d7 e _ b⟩
 |tup ys =>
  cases h;cases o;obtain⟨a,g,rfl,c,b⟩:=r;exact⟨a,g,rfl,(c.d7 e).sq,ai.d7 e _ b⟩
 |ref n =>
  cases h;obtain⟨a,rfl,i⟩:=r;obtain⟨g,f,b⟩:=q.at o (e.at i);exact⟨a,g,rfl,.inl (.inl f),b⟩
 |_=>cases h
def Pm (h:U.length=2):∃p q,U = [p,q]:=by
 cases U with
 |nil=>cases h
 |cons p t=>cases t with
  |nil=>cases h
  |cons q t=>cases t with
   |nil=>exact⟨p,q,rfl⟩|cons _ _=>simp at h
theorem sD.zip {K H ι a b C E B A v w L}(I:Rel K H ι C (.ref a))(J:oZ C=some (B,v))(M:Rel K H ι E (.ref b))(N:oZ E=some (A,w)):sD K (B_ K.fr [(B,a),(A,b)]) H ι (nK v w) L:=λi H1 ι1 g1 R r zs l hl=>by
 obtain⟨g,f,l⟩:=bind_some l;obtain⟨z,n,l⟩:=p7.mp l;subst l;obtain⟨_,O,e,s,hr⟩:=v_ I J R r f;cases e;obtain⟨_,Q,e,o,U⟩:=v_ M N R r n;cases e;have two:∀{P:Bool×Addr->Prop},P (B,a)->P (A,b)->∀q ∈ [(B,a),(A,b)],P q:=λp1 p2 q h=>by simp only[nQ,ah4,or_false]at h;rcases h with rfl|rfl<;>assumption
 refine⟨λhi=>⟨two ⟨_,s⟩ ⟨_,o⟩,?_⟩,λd hd=>?_⟩
 . have hU:min g.length z.length=L:=by simpa[oU]using hl
   by_cases c:g.length<=z.length
   . exact⟨_,.head _,O,s,by rw[<- hr.length];lia⟩
   . exact⟨_,.tail _ (.head _),Q,o,by rw[<- U.length];lia⟩
 unfold oU at hd;rw[qy]at hd;cases f:(g.zip z)[i]? with
 |none=>rw[f]at hd;cases hd
 |some pr =>
   obtain⟨d0,C⟩:=pr;rw[f]at hd;simp only[Iv,adR]at hd;subst hd;rw[Qy]at f;obtain⟨v,X,rv⟩:=hr.get f.1;obtain⟨u,hu,ru⟩:=U.get f.2;refine⟨two ⟨O,v,s,X⟩ ⟨Q,u,o,hu⟩,λx H2 y=>?_⟩;obtain⟨T,ws,rfl,j,rfl,hw,n⟩:=y;obtain⟨_,Y,y3⟩:=n 0 _ rfl O s;obtain⟨_,Z,y4⟩:=n 1 _ rfl Q o;rw[X]at Y;rw[hu]at Z;cases Y;cases Z;obtain⟨p,q,rfl⟩:=Pm hw;cases y3;cases y4;refine⟨Ext.lay j,r.lay j,?_⟩;simp only[Rel];refine⟨T,_,rfl,.inl ⟨.inl aQ,r.fresh j⟩,?_⟩;simp only[ai];exact⟨_,_,rfl,Rel.ext (Ext.lay j) _ rv,_,_,rfl,Rel.ext (Ext.lay j) _ ru,rfl⟩
def LI {l:Expr}{J:FE}{A:Pos}(M:Gl X "zip")(C:X.mg "zip" = none)(O:DE X l K)(Q:DE X e J)(E:nN [l,e] X.env=(false,eval l X.env)::nN [e] X.env)(N:nN [e] X.env=(false,eval e X.env)::nN [] X.env)(S:(vE A (nN [e] X.env)).any (·.1)=false):
   sE X (.Tuple d n pos) (.Call (.Name "zip" B) [l,e] [] A) (pZ K J):=.of (by
 intro cv s σ H R I h;obtain⟨ι,Y,g,vw,L,g',G0,S0,h,q⟩:=h;obtain⟨⟨d1,g1⟩,h1,h⟩:=bind_some h;obtain⟨⟨Z,v1⟩,r,h⟩:=bind_some h;obtain⟨⟨d2,g2⟩,h2,h⟩:=bind_some h;obtain⟨⟨z,v2⟩,y,h⟩:=bind_some h;obtain⟨zs,m,h⟩:=p7.mp h;cases h;obtain⟨xs,hx,m⟩:=bind_some m;obtain⟨ys,hy,m⟩:=p7.mp m;subst m;refine Call_ (iQ I M C agT (ab9 (aX ((iD O.un (iD Q.un my N) E) A cv s σ H (λi U=>∃v u c,i = [v,u]/\Ext H ι U c/\aw X.kw U c g2/\Rel X.kw U c d1 v/\Rel X.kw U c d2 u) I ?_) λus s1 ⟨i,U,I1,f,v,u,c,e0,j,P,x,p⟩=>?_) E S) (by decide) (by decide))
 . refine tD.bind G0 S0 h1 λU c v j P S1 f=>?_
   exact⟨c,Y,g1,_,g2,P,S1,h2,λH2 ι2 u o G2 r2=>⟨v,u,ι2,rfl,j.trans o,G2,Rel.ext o _ f,r2⟩⟩
 . subst e0
   cases f with
   |cons ra rr =>
    cases rr with
    |cons rb rn =>
     cases rn;obtain⟨a,i,rfl,hq,hr⟩:=v_ x r Ext.refl.d7 P hx;obtain⟨b,us,rfl,h_,iU⟩:=v_ p y Ext.refl.d7 P hy;cases ra;cases rb;exact Ew (l:=[(Z,a),(z,b)]) (.inl rfl) I1 (λq C=>by
      simp only[nQ,ah4,or_false]at C;rcases C with rfl|rfl
      . exact⟨_,hq⟩
      . exact⟨_,h_⟩) (q U c _ j P (.zip x r p y)))
def Hg {b:FE}:pZ K b l a=(K l a).bind λr=>(oZ r.1).bind λv=>(b l r.2).bind λq=>(oZ q.1).bind λw=>(nK v.2 w.2 q.2).map λzs=>(nK v.2 w.2,zs.length,q.2):=rfl
def lP (b a:D)(g:G):Option (D×G):=match b,a with
 |.lst c,.int k=>if(!c.isEmpty&&decide (0<=k)&&fK k&&az (c.length*k.toNat))=true then some (.ref g.length,g ++ [(nW k.toNat c).flatten])else none|b,a=>cP b a g
def Aw:bO X (tA .Mult) (dW X.kw lP):=by
 intro B s C H x y v u Q I h j q;obtain⟨E,g,J,r,d,M,G0,c,f,q,p⟩:=q;unfold lP at q;split at q
 . rename_i R k
   split at q
   . rename_i z
     simp only[nc,decide_eq_true_eq,x3]at z;cases q;simp only[Rel]at c f;subst f;obtain⟨a,n,rfl,hq,b⟩:=c;have o:=fK.and z.1.2;have l:=az.le z.2;rw[L3]at l;refine Ah B s C H _ _ v u Q I h j ⟨a,k,n,rfl,rfl,hq.sq,?_,z.1.1.2,o.2,by rw[<- b.length];exact l,λO i=>?_⟩
     . intro e
       subst e;have:=b.length;simp at this;subst this;simp at z
     . refine p _ _ _ (Ext.push i) (G0.push i (b.rep _)) ?_
       simp only[Rel];exact⟨O,rfl,eF.new G0.len⟩
   . cases q
 . exact xl B s C H x y v u Q I h j ⟨E,g,J,r,d,M,G0,c,f,q,p⟩
@[simp] def Vk:lP (.lst A) (.int i) a=if(!A.isEmpty&&decide (0<=i)&&fK i&&az (A.length*i.toNat))=true then some (.ref a.length,a ++ [(nW i.toNat A).flatten])else none:=rfl
mutual
noncomputable def og:D->Bool
 |.tup c=>jy c|.lst c=>jy c|.fn _ _=>false|_=>true
noncomputable def jy:List D->Bool
 | []=>true|d::ds=>og d&&jy ds
end
abbrev Am:=Addr->Option Obj
def d6 (m:Am)(H:Hp):Hp:=λb=>match m b with|some o=>some (oK b o)|none=>H b
noncomputable def di (m:Am)(H:Hp):Hp:=λb=>match m b with|some _=>none|none=>H b
def jV {m:Am}(q:m f=some g):d6 m H f=some (oK f g):=by unfold d6;rw[q]
def cp {m:Am}(q:m f=none):d6 m H f=H f:=by unfold d6;rw[q]
def jW {m:Am}(q:m f=some g):di m H f=none:=by unfold di;rw[q]
def bS {m:Am}(q:m f=none):di m H f=H f:=by unfold di;rw[q]
def kF {m:Am}(q:H f=none):di m H f=none:=by
 cases z:m f with
 |none=>rw[bS z];exact q|some o=>exact jW z
def Ex {m:Am}(x:eQ q u H z)(f:∀b o,m b=some o->z.get? b=some o/\H b=none):eQ q u (d6 m H) z:=λb w e=>by
 cases P:m b with
 |some o =>
  rw[jV P]at e;cases e;exact⟨(f b o P).1,⟨o,(f b o P).1⟩,λa d p k=>k _ p⟩
 |none =>
  rw[cp P]at e;have keep:∀c v,H c=some v->d6 m H c=some v:=λc v r=>by
   cases h:m c with
   |none=>rw[cp h];exact r|some o=>rw[(f c o h).2]at r;cases r
  exact(x b w e).dn (λc v _ r=>r) (λc r=>keep c _ r) (λc g r=>keep c _ r) λc P r=>keep c _ r
def Ey {m:Am}(x:eQ q u H z)(a:∀b o,m b=some o->H b=some (oK b o)):eQ q u (di m H) z:=λb w e=>by
 cases P:m b with
 |some o=>rw[jW P]at e;cases e
 |none =>
  rw[bS P]at e;have keep:∀c v,(∀o,v≠oK c o)->H c=some v->di m H c=some v:=λc v n r=>by
   cases h:m c with
   |none=>rw[bS h];exact r|some o=>rw[a c o h]at r;exact absurd (DK r).symm (n o)
  exact(x b w e).dn (λc v _ r=>r) (λc r=>keep c _ (λ_ h=>by cases h) r) (λc g r=>keep c _ (λ_ h=>by cases h) r) λc P r=>keep c _ (λ_ h=>by cases h) r
def uq {m:Am}(a:∀f o,m f=some o->H f=some (oK f o)){u:HO}(e:H f=some u)(n:∀o,u≠oK f o):m f=none:=by
 cases z:m f with
 |none=>rfl|some o=>rw[a f o z]at e;exact absurd (DK e).symm (n o)
def Pn {m:Am}(u:Un O [] (di m H) j z h')(f:∀b o,m b=some o->z.get? b=some o/\H b=some (oK b o)):Un O [] H (d6 m j) z h':=by
 have d:∀b,H b=none->m b=none:=λb n=>by
  cases g:m b with
  |none=>rfl|some o=>rw[(f b o g).2]at n;cases n
 have st:∀b v,(∀o,v≠oK b o)->H b=some v->(∀g:di m H b=some v,j b=some v)->d6 m j b=some v:=λb v n e k=>by have g:=uq (λb o q=>(f b o q).2) e n;rw[cp g];exact k (by rw[bS g];exact e)
 refine⟨λb o q n c a=>u.keep b o q (kF n) c a,λb o q n c a=>u.slot b o q (kF n) c a,λb o q n a=>?_,λb o q a=>u.there b o q a,
  λb h q=>st b _ (λ_ g=>by cases g) q λg=>u.l5 b h g,λb o v q=>st b _ (λ_ g=>by cases g) q λg=>u.kK b o v g,λb v t q=>st b _ (λ_ g=>by rw[g]at t;cases t) q λg=>u.kL b v t g⟩
 rw[cp (d b n)];exact u.free b o q (kF n) a
def Po {m:Am}(P:Un O [] (d6 m H) j z h')(f:∀b o,m b=some o->z.get? b=some o/\H b=none)(i:∀b o,m b=some o->j b=some (oK b o))(ok:eQ q u j h'):Un O [] H (di m j) z h':=by
 have h:∀b o,m b=some o->h'.get? b=some o:=λb o g=>(ok b _ (i b o g)).1;have d:∀b v,H b=some v->m b=none:=λb v e=>by
   cases w:m b with
   |none=>rfl|some o=>rw[(f b o w).2]at e;cases e
 have st:∀b v,H b=some v->(∀w:d6 m H b=some v,j b=some v)->di m j b=some v:=λb v e k=>by rw[bS (d b v e)];exact k (by rw[cp (d b v e)];exact e)
 refine⟨λb o g n c a=>?_,λb o g n c a=>?_,λb o g n a=>?_,λb o g a=>P.there b o g a,λb r g=>st b _ g λw=>P.l5 b r w,λb o v g=>st b _ g λw=>P.kK b o v w,λb v t g=>st b _ g λw=>P.kL b v t w⟩
 . cases w:m b with
   |none=>exact P.keep b o g (by rw[cp w];exact n) c a
   |some p =>
    have:=(f b p w).1;rw[g]at this;cases this;exact h b o w
 . cases w:m b with
   |none=>exact P.slot b o g (by rw[cp w];exact n) c a
   |some p =>
    have:=(f b p w).1;rw[g]at this;cases this;exact⟨o.slots,h b o w⟩
 . cases w:m b with
   |none=>rw[bS w];exact P.free b o g (by rw[cp w];exact n) a|some p=>exact jW w
section
variable {m:Am}
mutual
theorem Rel.xW (j:∀f g,m f=some g->H f=some (oK f g)):∀(d:D) {v:V},og d=true->Rel r H t d v->Rel r (di m H) t d v
 |.aB,v,_,z=>z|.bl _,v,_,z=>z|.int _,v,_,z=>z|.str _,v,_,z=>z
 |.tup p,v,o,z=>by
  simp only[Rel]at z ⊢;obtain⟨a,i,b,c,e⟩:=z;refine⟨a,i,b,?_,ai.xW j p o e⟩;rcases c with⟨z|⟨u,z⟩,n⟩|z
  . exact .inl ⟨.inl (by rw[bS (uq j z λ_ o=>by cases o)];exact z),n⟩
  . exact .inl ⟨.inr ⟨u,by rw[bS (uq j z λ_ o=>by cases o)];exact z⟩,n⟩
  . exact .inr z
 |.lst p,v,o,z=>by
  simp only[Rel]at z ⊢;obtain⟨a,i,b,c,e⟩:=z;refine⟨a,i,b,?_,ai.xW j p o e⟩;rcases c with⟨z|⟨u,z⟩,n⟩|z
  . exact .inl ⟨.inl (by rw[bS (uq j z λ_ o=>by cases o)];exact z),n⟩
  . exact .inl ⟨.inr ⟨u,by rw[bS (uq j z λ_ o=>by cases o)];exact z⟩,n⟩
  . exact .inr z
 |.dU,v,_,z=>by simp only[Rel]at z ⊢;obtain⟨a,b,c,e⟩:=z;exact⟨a,b,by rw[bS (uq j c λ_ o=>by cases o)];exact c,e⟩
 |.ref n,v,_,z=>z|.aA n,v,_,z=>z|.fn x ds,v,o,z=>by cases o
theorem ai.xW (i:∀f g,m f=some g->H f=some (oK f g)):∀(ds:List D) {h:List V},jy ds=true->ai r H t ds h->ai r (di m H) t ds h
 | [],h,_,z=>z|d::ds,h,o,z=>by simp only[ai]at z ⊢;simp only[jy,nc]at o;obtain⟨v,a,b,e,c⟩:=z;exact⟨v,a,b,Rel.xW i d o.1 e,ai.xW i ds o.2 c⟩
end
end
def Ext.lE {m:Am}{ι:Ix}(d:∀b o,m b=some o->H b=none):Ext H ι (d6 m H) ι:=by
 have c:∀a v,H a=some v->m a=none:=λa v e=>by
  cases z:m a with
  |none=>rfl|some o=>rw[d a o z]at e;cases e
 refine⟨λa o q _=>by rw[cp (c a o q)];exact q,λa q=>?_,⟨[],by simp,λ_ q=>by simp at q⟩,rfl,λ_ _=>rfl⟩;cases e:H a with
 |none=>exact absurd e q|some v=>rw[cp (c a v e),e];simp
def aw.empty (G0:aw r H t a)(e:∀b,H b≠none->j b≠none\/b ∉ t.ix++t.hd)(f:∀q∈r.lx.tb,j q.1=H q.1):aw r j (Ix.none t) []:=
 ⟨VX,rfl,λb d=>⟨by simp[Ix.none],by
  have g:b∈t.ix++t.hd:=d;rcases nY.mp g with m|m
  . exact(e b (G0.lE m)).elim id λz=>absurd g z
  . exact(e b (G0.cK b m).2).elim id λz=>absurd g z⟩,λi h q=>by simp at q,λq c=>⟨by rw[f q c];exact(G0.tb q c).1,by simp[Ix.none]⟩⟩
def LJ {m:Am}(G0:aw r H t a)(d:∀b o,m b=some o->H b=some (oK b o)/\b ∉ t.ix)(e:Ext (di m H) (Ix.none t) j ι'):Ext H t (d6 m j) t/\aw r (d6 m j) t a /\ ∀g∈t.ix,j g=H g:=by
 have sm:∀g o,m g=none->H g=some o->j g=some o:=λg o z q=>e.same g o (by rw[bS z];exact q) (by simp[Ix.none]);have E0:Ext H t (d6 m j) t:=by
  refine⟨λg o q _=>?_,λg q=>?_,⟨[],by simp,λ_ q=>by simp at q⟩,rfl,λ_ _=>rfl⟩
  . cases z:m g with
    |none=>rw[cp z];exact sm g o z q|some h=>rw[jV z];rw[(d g h z).1]at q;exact q
  . cases z:m g with
    |some h=>rw[jV z];simp
    |none =>
     rw[cp z];exact e.there g (by rw[bS z];exact q)
 have same:∀g∈t.ix,j g=H g/\m g=none:=λg c=>by
  have z:m g=none:=by
    cases z:m g with
    |none=>rfl|some o=>exact absurd c (d g o z).2
  obtain⟨o,i,_⟩:=G0.lst c;exact⟨by rw[i];exact sm g o z i,z⟩
 exact⟨E0,G0.ext E0 λg c=>by rw[cp (same g c).2];exact(same g c).1,λg c=>(same g c).1⟩
def LK {m:Am}(G0:aw r H t a)(f:∀b o,m b=some o->H b=none)(e:Ext (d6 m H) (Ix.none t) j ι'):Ext H t (di m j) t/\aw r (di m j) t a/\(∀g∈t.ix,j g=H g) /\ ∀b o,m b=some o->j b=some (oK b o):=by
 have d:∀g v,H g=some v->m g=none:=λg v e=>by
  cases z:m g with
  |none=>rfl|some o=>rw[f g o z]at e;cases e
 have sm:∀g o,H g=some o->j g=some o:=λg o q=>e.same g o (by rw[cp (d g o q)];exact q) (by simp[Ix.none]);have E0:Ext H t (di m j) t:=by
  refine⟨λg o q _=>by rw[bS (d g o q)];exact sm g o q,λg q=>?_,⟨[],by simp,λ_ q=>by simp at q⟩,rfl,λ_ _=>rfl⟩;cases z:H g with
  |none=>exact absurd z q|some v=>rw[bS (d g v z),sm g v z];simp
 have same:∀g∈t.ix,j g=H g/\m g=none:=λg c=>by obtain⟨o,h,_⟩:=G0.lst c;exact⟨by rw[h];exact sm g o h,d g o h⟩
 exact⟨E0,G0.ext E0 λg c=>by rw[bS (same g c).2];exact(same g c).1,λg c=>(same g c).1,λb o z=>e.same b _ (jV z) (by simp[Ix.none])⟩
def dw (fn:Fn):Fn:=λds g=>if jy ds=true then(ia fn ds g).bind λr=>if og r.1=true then some r else none else none
def td {ds g d g'}(fn:dw h ds g=some (d,g')):jy ds=true/\aF 0 ds=true/\(∃gx,h ds []=some (d,gx))/\bU 0 d=true/\og d=true/\g'=g:=by
 unfold dw at fn;split at fn
 . rename_i z
   obtain⟨⟨j,n⟩,i,fn⟩:=bind_some fn;split at fn
   . rename_i f
     cases fn;obtain⟨a,b,c,e⟩:=jL i;exact⟨z,a,b,c,f,e⟩
   . cases fn
 . cases fn
def kA (fn:Fn):Fn:=λds g=>(ia fn ds g).bind λr=>if og r.1=true then some r else none
def Cb {ds g d g'}(fn:kA h ds g=some (d,g')):aF 0 ds=true/\(∃gx,h ds []=some (d,gx))/\bU 0 d=true/\og d=true/\g'=g:=by
 unfold kA at fn;obtain⟨⟨j,n⟩,i,fn⟩:=bind_some fn;split at fn
 . rename_i f
   cases fn;obtain⟨a,b,c,e⟩:=jL i;exact⟨a,b,c,f,e⟩
 . cases fn
structure wa (l:eA):Prop where
 kind:l.sc.kind = .function
 co:l.sc.isCoroutine=false
 gen:l.sc.isGenerator=false
 Jh:∀y∈l.sc.names,y.2 ≠ .cell
 fr:∀x,l.sc.names.lookup x=some .free->x∈l.fv
 fv:∀x∈l.fv,l.sc.names.lookup x=some .free
 ps:∀x∈l.ps,l.sc.names.lookup x=some .local
 nd:(l.fv++l.ps).Nodup
 bind:∀(cl:List (Str×Addr)) (pm dG gh:Value) (us:List Value),us.length=l.ps.length->WE (agU "<lambda>" l.qual l.ar l.bd l.sc cl pm dG gh) ⟨us,[]⟩=pure (l.ps.zip us)
noncomputable def p_ (lx:Lx)(P:uV)(w:World)(K:o3)(mg:Str->Option Value)(base:Heap)(l:eA)(cl:List (Str×Addr))(f:Addr)(a:Value)(A:qr)(outer:List Env)(s:mJ)(H:Hp):Cx where
 prog:=P
 w:=w
 K:=K
 mg:=mg
 base:=base
 A:=A.deeper (afa l.qual l.sc s.heap.objs.size f a cl)
 N:=l.fv++l.ps
 s₀:=s
 H₀:=H
 env:=afa l.qual l.sc s.heap.objs.size f a cl
 outer:=outer
 stack:=afa l.qual l.sc s.heap.objs.size f a cl::outer
 ex:=[]
 calm:=true
 fn:=λ_=>false
 pn:=[]
 lx:=lx
 xe:=λ_ _=>False
theorem cN.mem {H:Hp}{g:Ix}:∀{cl:List (Str×Addr)} {i:List V},cN H g cl i->∀c∈cl.map (·.2),∃o u,Xo H g c (oK c o)/\o.data = .cell (some u)
 |_,_,.nil,c,h=>by simp at h
 |_,_,.cons (c:=c0) (o:=o) (u:=u) x d r t,c,h=>by
  rcases nQ.mp h with rfl|h
  . exact⟨o,u,x,d⟩
  . exact t.mem c h
theorem cN.get {H:Hp}{g:Ix}:∀{cl:List (Str×Addr)} {n:List V},cN H g cl n->∀{i:Nat} {v:V},n[i]? = some v->∃y c o u,cl[i]? = some (y,c)/\Xo H g c (oK c o)/\o.data = .cell (some u)/\m5 v u
 |_,_,.nil,_,_,h=>by simp at h|_,_,.cons (y:=y) (c:=c) (o:=o) (u:=u) x d r t,0,v,h=>by simp at h;subst h;exact⟨y,c,o,u,rfl,x,d,r⟩|_,_,.cons x d r t,i+1,v,h=>by obtain⟨y,c,o,u,a,b⟩:=t.get (i:=i) (by simpa using h);exact⟨y,c,o,u,by simpa using a,b⟩
theorem cN.len {H:Hp}{g:Ix}:∀{cl:List (Str×Addr)} {c:List V},cN H g cl c->cl.length=c.length
 |_,_,.nil=>rfl|_,_,.cons x d r t=>by simp[t.len]
theorem fO {a:Type}:∀{cl:List (Str×a)} {y:Str} {c:a},(cl.map (·.1)).Nodup->(y,c)∈cl->cl.lookup y=some c
 | [],_,_,_,h=>by simp at h
 | (z,e)::cl,y,c,nd,h=>by
  rw[yE];rw[x8,D5]at nd;rcases nQ.mp h with h|h
  . cases h;simp
  . rw[show(y == z)=false from beq_eq_false_iff_ne.mpr λe=>nd.1 (by rw[<- e];exact Pd (f:=(·.1)) h)]
    exact fO nd.2 h
theorem o_:∀{cl:List (Str×Addr)} {x y:Str} {c:Addr},(cl.map (·.2)).Nodup->(x,c)∈cl->(y,c)∈cl->x=y
 | [],_,_,_,_,h,_=>by simp at h
 | (z,e)::cl,x,y,c,nd,h1,h2=>by
  rw[x8,D5]at nd;rcases nQ.mp h1 with a|a<;>rcases nQ.mp h2 with b|b
  . cases a;cases b;rfl
  . cases a;exact absurd (Pd (f:=(·.2)) b) nd.1
  . cases b;exact absurd (Pd (f:=(·.2)) a) nd.1
  . exact o_ nd.2 a b
def uu {i:Nat}(nd:R.Nodup)(c:M.length=R.length)(a:R[i]? = some x)(b:M[i]? = some T):(R.zip M).reverse.lookup x=some T:=by refine fO ?_ (aeP.mpr (ta (i:=i) (Qy.mpr ⟨a,b⟩)));rw[List.map_reverse,(List.reverse_perm _).nodup_iff,ad7 (by lia)];exact nd
noncomputable def bT (cl:List (Str×Addr))(h:Heap):Am:=λb=>if b∈cl.map (·.2)then h.get? b else none
def i6 (e:bT s z f=some g):f∈s.map (·.2)/\z.get? f=some g:=by
 unfold bT at e;split at e
 . rename_i a;exact⟨a,e⟩
 . cases e
def xX (a:f∈s.map (·.2))(e:z.get? f=some g):bT s z f=some g:=by unfold bT;rw[if_pos a];exact e
def cN.m (K:cN H t s U)(ok:eQ q r.w H c.heap):∀b o,bT s c.heap b=some o->c.heap.get? b=some o/\H b=some (oK b o)/\b ∉ t.ix:=λb o P=>by obtain⟨a,e⟩:=i6 P;obtain⟨g,u,x,_⟩:=K.mem b a;have this:c.heap.get? b=some g:=(ok b _ x.1).1;rw[e]at this;cases this;exact⟨e,x.1,x.2.1⟩
def LL {l:eA}(S:wa l)(base:J.handled=none)(C:qS q r.w r.fr r.mg h' J outer c H)(E:s.map (·.1)=l.fv)(L:(s.map (·.2)).Nodup)(A:cN H t s U)(N:ys.length=l.ps.length)(K:Vals ys M){tk:Tok}(O:z.Ns c.heap.objs.size λy=>(l.ps.zip M).reverse.lookup y)(I:∀b o,c.heap.get? b=some o->z.get? b=some o):
   mH (p_ r.lx q r.w r.fr r.mg h' l s f T J outer c (di (bT s c.heap) H)) [] ((U++ys).map some) (di (bT s c.heap) H) { c with heap:=z,toks:=tk }:=by
 have Y:(s.map (·.1)).Nodup:=by rw[E];exact(UK.mp S.nd).1
 have cm:=A.m C.aW
 have Ji:∀x P,s.lookup x=some P->P∈s.map (·.2):=λx P e=>Pd (f:=(·.2)) (z6 e)
 have Z:∀P∈s.map (·.2),∃o u,c.heap.get? P=some o/\o.data = .cell (some u):=λP hc=>by obtain⟨o,u,x,d⟩:=A.mem P hc;exact⟨o,u,(C.aW P _ x.1).1,d⟩
 have Vn:U.length=l.fv.length:=by rw[<- A.len,<- E,ro]
 have R:∀b:Addr,b ∉ (p_ r.lx q r.w r.fr r.mg h' l s f T J outer c (di (bT s c.heap) H)).ex:=λb g=>absurd (show b∈([]:List Addr) from g) (by simp);refine⟨⟨C.mod,S.kind,rfl,rfl,nA _,λy g P z j=>?_,λy n=>?_,λy P hf _=>(Lo hf).elim,λ_=>base,agW C.frames,.inr ⟨rfl,rfl⟩,λb g=>absurd g (R b),λb o e=>⟨(C.bs b o e).1,kF (C.bs b o e).2⟩,C.oF,λb _ _=>R b,λb g=>absurd g (R b),C.iO,λb hb=>kF (C.rW b hb)⟩,
   rfl,C.bare,Un.kept I,⟨_,O,λi y v z j h3=>?_⟩,λy P h=>?_,kF (C.aW.fresh (nA _)),λy P h=>?_,λp hp=>absurd (show p∈([]:List (Addr×Obj)) from hp) (by simp),(Ey C.aW λb o B=>(cm b o B).2.1).kept I,?_⟩
 . exact o_ L (z6 z) (z6 j)
 . have n:l.sc.names.lookup y=some .cell\/l.sc.names.lookup y=some .free:=n
   rcases n with n|n
   . exact absurd rfl (S.Jh _ (z6 n))
   . have:=S.fr y n
     rw[<- E]at this;obtain⟨⟨Q,P⟩,hm,rfl⟩:=oa.mp this;exact⟨P,fO Y hm⟩
 . have z:(l.fv++l.ps)[i]? = some y:=z
   have j:((U++ys).map some)[i]? = some (some v):=j;rw[qy]at j;have j:(U++ys)[i]? = some v:=by
     cases e:(U++ys)[i]? with
     |none=>rw[e]at j;cases j|some a=>rw[e]at j;cases j;rfl
   by_cases hi:i<U.length
   . rw[r_ hi]at j
     rw[r_ (by lia)]at z;obtain⟨Q,P,o,u,e1,x,d,X⟩:=A.get j;have ey:Q=y:=by
      have:(s.map (·.1))[i]? = some Q:=by rw[qy,e1];rfl
      rw[E,z]at this;cases this;rfl
     subst ey;refine⟨u,X,.inr ⟨.inr (S.fv Q (ta z)),P,fO Y (ta e1),o,I _ _ (C.aW P _ x.1).1,d⟩⟩
   . rw[CY (by lia)]at j
     rw[CY (by lia),<- Vn]at z;obtain⟨u,hu,X⟩:=K.get j;refine⟨u,X,.inl ⟨S.ps y (ta z),uu (UK.mp S.nd).2.1 (by rw[<- K.length];exact N) z hu⟩⟩
 . obtain⟨o,u,e,d⟩:=Z P (Ji y P h)
   exact⟨some u,o,I _ _ e,d⟩
 . obtain⟨o,u,e,d⟩:=Z P (Ji y P h)
   exact jW (xX (Ji y P h) e)
 . show((U++ys).map some).length=(l.fv++l.ps).length
   rw[ro,nh,nh];lia
structure tw (P:uV)(K:KW)(base:Heap)(k:Nat)(x:Str)(fn:Fn):Prop where
 run:∀(A:qr) (outer:List Env) (s:mJ) (H:Hp) (ι:Ix) (a:Addr) (ic vs:List V) (us:List Value) (Q:VK) (ds es:List D) (d:D) (g g':G),dM k A->qS P K.w K.fr K.mg base A outer s H->DD K H ι x a ic->Vals vs us->aw K H ι g->ai K H ι ds ic->ai K H ι es vs ->
  dw fn (ds++es) g=some (d,g')->gi K H ι d g' Q->PM (model P K.w) A (.call (.ref a) ⟨us,[]⟩) (CR iT outer P K.w H s Q E0) s
noncomputable def cy (nf n:Nat)(f:FE):Fn:=λds g=>if ds.length=nf+n then f (ds.map some) g else none
def Hh (i:∀ds g,h ds g=none):tw q r z n x h:=⟨λA outer s H p a e b u Q ds f d g c _ _ _ _ _ _ _ P _=>by obtain⟨_,_,⟨gx,P⟩,_⟩:=td P;rw[i]at P;cases P⟩
def Pp {l:eA}(S:wa l)(E:r.lx.lm x=some l)(B:∀(cl:List (Str×Addr)) (a:Addr) (cd:Value) (A:qr) (outer:List Env) (s:mJ) (H:Hp),dM n (A.deeper (afa l.qual l.sc s.heap.objs.size a cd cl))->DE (p_ r.lx q r.w r.fr r.mg z l cl a cd A outer s H) l.bd K):
   tw q r z (n+1) x (cy l.fv.length l.ps.length K):=by
 refine⟨λA outer s H O a U X Z Q ds es d g g' hr j C rv G0 rd re h p=>?_⟩;obtain⟨l',c,gh,pm,cl,hU,hf,hc,hn,hd2,Y⟩:=C;rw[E]at hU;cases hU;obtain⟨z1,z2,⟨gx,hx⟩,z3,z4,rfl⟩:=td h;unfold cy at hx;split at hx
 . rename_i R
   have Vn:U.length=l.fv.length:=by rw[<- Y.len,<- hn,ro]
   have Vo:X.length=l.ps.length:=by have h1:=rd.length;have h2:=re.length;rw[nh]at R;lia
   have ar:Z.length=l.ps.length:=by rw[<- rv.length];exact Vo
   have KX:r.fr.In s.heap:=j.mod.rV.keeps λb o e=>(j.bs b o e).1;have lim:s.heap.NoLimit:=j.mod.nolimit.keeps λb o e=>(j.bs b o e).1;have ho:=(j.aW a _ hf.1).1;have j7:s.heap.CodeRec (.ref c) l.qual:=j.aW c _ hc.1;have cm:=Y.m j.aW;refine PySem.W.kla_callFunE hr.depth ho rfl S.co S.gen rfl j7 ?_;rw[S.bind cl pm (.ref c) gh Z ar];refine mT (wpAny_newFunctionEnv S.Jh (λy hy=>S.ps y.1 (UO hy).1) (λh1 uZ Ez=>⟨lim.fresh _ Ez,?_⟩) S.kind);show PM _ _ (.expr l.bd (afa l.qual l.sc s.heap.objs.size a (.ref c) cl)) _ _;have hk:∀b o,s.heap.get? b=some o->h1.get? b=some o:=λb o e=>Ez.extBut b o (sI (n7 e)) (nU _ e);have I:mH (p_ r.lx q r.w r.fr r.mg z l cl a (.ref c) A outer s (di (bT cl s.heap) H)) [] ((U++X).map some) (di (bT cl s.heap) H) { s with heap:=h1,toks:=s.toks+(l.ps.zip Z).length }:=LL S hr.hd j hn hd2 Y Vo rv uZ hk;have rl:ai r (di (bT cl s.heap) H) (Ix.none O) (ds++es) (U++X):=ai.xW (λb o P=>(cm b o P).2.1) _ z1 (ai.toN _ z2 (rd.append re));have Ge:aw r (di (bT cl s.heap) H) (Ix.none O) []:=G0.empty (λb k=>by
    cases P:bT cl s.heap b with
    |none=>exact .inl (by rw[bS P];exact k)
    |some o =>
     obtain⟨o',u,x,_⟩:=Y.mem b (i6 P).1;exact .inr λf=>(nY.mp f).elim x.2.1 (x.2.2 rfl)) λP hq=>bS (by
     cases f:bT cl s.heap P.1 with
     |none=>rfl|some o=>have:=(cm P.1 o f).2.1;rw[(G0.tb P hq).1]at this;cases this)
   have rs:bM r (di (bT cl s.heap) H) (Ix.none O) ((ds++es).map some) ((U++X).map some):=by
    refine⟨by rw[ro,ro];exact rl.length,λi dd P=>?_⟩;rw[qy]at P;cases e:(ds++es)[i]? with
    |none=>rw[e]at P;cases P
    |some dd' =>
     rw[e]at P;cases P;obtain⟨v,e1,e2⟩:=rl.get e;exact⟨v,by rw[qy,e1];rfl,e2⟩
   refine PySem.W.kla_codeExpr (ae0 ((B cl a (.ref c) A outer s _ (hr.deeper _)).un [] _ _ _ (λv M=>∃ι',Ext (di (bT cl s.heap) H) (Ix.none O) M ι'/\Rel r M ι' d v) I ⟨Ix.none O,_,[],d,gx,Ge,rs,hx,λM ι' v e _ base=>⟨ι',e,base⟩⟩) (λu s' hs=>?_) λe s' f=>f.elim);obtain⟨v,M,J,aq,ι',e,r'⟩:=hs;obtain⟨ab,G1,same⟩:=LJ G0 (λb o P=>(cm b o P).2) e;have jb:Un (lF outer) [] (di (bT cl s.heap) H) M s.heap s'.heap:=J.base;have ah:=Pn jb λb o P=>⟨(cm b o P).1,(cm b o P).2.1⟩
   have back:∀b o,bT cl s.heap b=some o->s'.heap.get? b=some o/\M b=none:=λb o P=>by
    have k:di (bT cl s.heap) H b=none:=jW P;refine⟨?_,jb.free b o (cm b o P).1 k (by simp)⟩;have nf:b ∉ lF outer:=λf=>by have:=j.rW b f;rw[(cm b o P).2.1]at this;cases this
    exact jb.keep b o (cm b o P).1 k nf (by simp)
   refine⟨v,d6 (bT cl s.heap) M,J.os,J.bare,ah,Ex J.aW back,aq,p _ O v ab G1 ?_⟩;refine Rel.ext (Ext.lE λb o P=>(back b o P).2) d (Rel.sO e.cK (λb B=>?_) d z3 r');obtain⟨o,ev,Pq⟩:=G0.lst B;exact⟨o,by rw[same b B];exact ev,Pq⟩
 . cases hx
noncomputable def nL (sc:Scope):List Str:=((sc.names.filter (·.2 == .free)).map (·.1)).reverse
theorem nM {c:Str->Addr}{f:Str×BB->List (Str×Addr)->Sem (ForInStep (List (Str×Addr)))}:∀(L:List (Str×BB)) (g:List (Str×Addr)),(∀x r,(x,zb)∈L->f (x,.free) r=pure (.yield ((x,c x)::r))) ->
  (∀x k r,(k == zb)=false->f (x,k) r=pure (.yield r))->forIn L g f=pure ((((L.filter (·.2 == .free)).map (·.1)).reverse.map λx=>(x,c x))++g)
 | [],g,_,_=>by simp
 | (nm,kd)::L,g,h1,h2=>by
  rw[aeg];cases hk:kd == zb with
  |true =>
   have e:kd = .free:=eq_of_beq hk;subst e;rw[h1 nm g tc,pure_bind];show forIn L _ f=_;rw[nM L _ (λx r a=>h1 x r (qz _ a)) h2];simp
  |false =>
   rw[h2 nm kd g hk,pure_bind];show forIn L _ f=_;rw[nM L _ (λx r a=>h1 x r (qz _ a)) h2];simp[hk]
def vP {c:Str->Addr}(h:∀x,(x,zb)∈I.names->env.cells.lookup x=some (c x)):af4 I env=pure ((nL I).map λx=>(x,c x)):=by
 unfold af4 nL;refine(congrArg (λz=>z >>= _) (nM (c:=c) I.names [] (λx r b=>?_) λx k r a=>?_)).trans ?_
 . simp[cellOf,h x b]
 . simp[a]
 . rw[pure_bind,wQ]
structure wb (X:Cx)(p:Pos)(x:Str)(l:eA):Prop where
 lm:X.lx.lm x=some l
 S:wa l
 Vp:l.fv=nL l.sc
 df:l.ar.defaults = []
 kd:l.ar.kw_defaults = []
 tab:∃cc P,X.env.code = .ref cc/\aiz X.base cc P/\(P,p,l.qual)∈X.lx.tb
 qual:X.env.qual ++ "<lambda>" = l.qual
 cells:∀y∈l.fv,X.env.scope.names.lookup y=some .cell
 al:∀y,X.fn y=true
inductive Ax (X:Cx)(σ:m6):List (Str×Addr)->List V->Prop
 |nil:Ax X σ [] []
 |cons {y:Str} {c:Addr} {v:V} {cl:List (Str×Addr)} {vs:List V} {i:Nat} (e:X.env.cells.lookup y=some c) (k:X.env.scope.names.lookup y=some .cell) (hN:X.N[i]? = some y) (hσ:σ[i]? = some (some v)) (t:Ax X σ cl vs):Ax X σ ((y,c)::cl) (v::vs)
inductive Hi (X:Cx)(H:Hp)(ι:Ix)(σ:m6):D->V->Prop
 |val {d:D} {v:V} (r:Rel X.kw H ι d v):Hi X H ι σ d v
 |lam {x:Str} {ds:List D} {l:eA} {a c:Addr} {gh pm:Value} {cl:List (Str×Addr)} {vs:List V} (hl:X.lx.lm x=some l) (hf:Xo H ι a (oK a (ae_ "<lambda>" l.qual l.ar l.bd l.sc cl pm c gh))) (hc:Xo H ι c (.jg l.qual)) (hn:cl.map (·.1)=l.fv) (hd:(cl.map (·.2)).Nodup) (hv:Ax X σ cl vs) (r:ai X.kw H ι ds vs):Hi X H ι σ (.fn x ds) (.ref a)
inductive pb (X:Cx)(H:Hp)(ι:Ix)(σ:m6):List D->List V->Prop
 |nil:pb X H ι σ [] []
 |cons {d:D} {v:V} {ds:List D} {vs:List V} (r:Hi X H ι σ d v) (t:pb X H ι σ ds vs):pb X H ι σ (d::ds) (v::vs)
theorem pb.len {X:Cx}{H ι σ}:∀{ds c},pb X H ι σ ds c->ds.length=c.length
 |_,_,.nil=>rfl|_,_,.cons r t=>by simp[t.len]
inductive tQ (X:Cx)(f:FA)(σ:m6)(H:Hp)(Q:List V->Hp->Prop):Prop
 |mk (ι:Ix) (σd:Sg) (g:G) (ds:List D) (g':G) (h0:aw X.kw H ι g) (h1:bM X.kw H ι σd σ) (h2:f σd g=some (ds,g')) (h3:∀H' ι' vs,Ext H ι H' ι'->aw X.kw H' ι' g'->pb X H' ι' σ ds vs->Q vs H'):tQ X f σ H Q
structure xY (X:Cx)(es:List Expr)(f:FA):Prop where of ::
 un:PA X es (tQ X f)
def LM:xY X [] af:=.of (PA.imp my λn H Q h=>by obtain⟨i,a,g,d,b,G0,c,h,p⟩:=h;cases h;exact p H i _ Ext.refl G0 .nil)
def Hj (C:DE X e K)(B:xY X d k)(A:nN (e::d) X.env=(false,eval e X.env)::nN d X.env):xY X (e::d) (ae K k):=.of (
 PA.imp (iD C.un B.un A) λJ H Q h=>by obtain⟨M,n,g,O,R,G0,l,h,p⟩:=h;obtain⟨⟨U,E⟩,j,h⟩:=bind_some h;obtain⟨⟨x,I⟩,f,h⟩:=bind_some h;cases h;refine tD.bind G0 l j λY z v q r b i=>?_;refine⟨z,n,E,x,I,r,b,f,λs y u a c o=>?_⟩;exact p s y _ (q.trans a) c (.cons (.val (Rel.ext a _ i)) o))
noncomputable def xZ:List Nat->Sg->Option (List D)
 | [],_=>some []
 |i::is,c=>match c[i]? with
  |some (some d)=>(xZ is c).map (d :: ·)|_=>none
noncomputable def uw (x:Str)(is:List Nat):FE:=λc g=>(xZ is c).map λds=>(.fn x ds,g)
def EA (N:List Str)(is:List Nat)(ys:List Str):Prop:=is.length=ys.length /\ ∀(j:Nat) i y,is[j]? = some i->ys[j]? = some y->N[i]? = some y
theorem EB {X:Cx}{H:Hp}{B:Ix}{x:Sg}{C:m6}(A:bM X.kw H B x C){c:Str->Addr}:∀{is:List Nat} {ys:List Str} {ds:List D},EA X.N is ys->(∀y∈ys,X.env.cells.lookup y=some (c y))->(∀y∈ys,X.env.scope.names.lookup y=some .cell)->xZ is x=some ds ->
  ∃g,Ax X C (ys.map λy=>(y,c y)) g/\ai X.kw H B ds g
 | [],[],ds,_,_,_,h=>by cases h;exact⟨[],.nil,by simp[ai]⟩| [],_::_,_,q,_,_,_=>by have:=q.1;simp at this|_::_,[],_,q,_,_,_=>by have:=q.1;simp at this
 |i::is,y::ys,ds,q,hc,hk,h=>by
  unfold xZ at h;split at h
  . rename_i d hd
    obtain⟨f,o,rfl⟩:=p7.mp h;obtain⟨g,l,r⟩:=EB A (is:=is) (ys:=ys) ⟨by have:=q.1;simpa using this,λj u s a b=>q.2 (j+1) u s (by simpa using a) (by simpa using b)⟩ (λz e=>hc z (qz _ e)) (λz e=>hk z (qz _ e)) o;obtain⟨v,p,n⟩:=A.2 i d hd;refine⟨v::g,.cons (hc y tc) (hk y tc) (q.2 0 i y rfl rfl) p l,?_⟩;simp only[ai];exact⟨v,g,rfl,n,r⟩
  . cases h
def Pr {l:eA}(L:wb X B x l){s:mJ}{ι:Ix}(I:mH X b y H s)(G0:aw X.kw H ι a)(q:∀σ c U pm s' Y,mH X b y Y s'->Ext H ι Y ι->aw X.kw Y ι a->Xo Y ι σ (oK σ (ae_ "<lambda>" l.qual l.ar l.bd l.sc (l.fv.map λg=>(g,(X.env.cells.lookup g).getD 0)) pm c U))->Xo Y ι c (.jg l.qual)->Q (.ref σ) s'):
   wpAny (model X.prog X.w) X.A (eval (.Lambda l.ar l.bd l.sc B) X.env) Q X.xe s:=by
 obtain⟨cc,P,Jj,aC,Pt⟩:=L.tab;obtain⟨R,aS⟩:=G0.tb _ Pt;have R:H P=some (.cz B l.qual):=R;have gR:af4 l.sc X.env=pure (l.fv.map λg=>(g,(X.env.cells.lookup g).getD 0)):=by
   rw[L.Vp];refine vP (c:=λg=>(X.env.cells.lookup g).getD 0) λg hy=>?_;have:g∈l.fv:=by rw[L.Vp];unfold nL;rw[aeP];exact oa.mpr ⟨(g,.free),Fp.mpr ⟨hy,rfl⟩,rfl⟩
   obtain⟨c,e⟩:=I.ok.has g (.inl (L.cells g this));rw[e];rfl
 obtain⟨ps,Z,ht,Td⟩:=I.aW P _ R;have hg:s.heap.Ns uP X.mg:=I.mod.glob.keeps I.bk;have C:aiz s.heap cc P:=aC.keeps I.bk;obtain⟨bm,E,O⟩:=I.mod.bm;have ah:uP≠P:=λz=>by obtain⟨o,es,ep,e,d,_⟩:=hg;rw[z,Z]at e;cases e;cases d
 have ab:bm≠P:=λz=>by have:=I.bk _ _ O.obj;rw[z,Z]at this;cases this;have z2:AR = .type "module":=O.cls;cases z2
 have aq:bm≠uP:=λz=>by obtain⟨o,es,ep,e,d,_⟩:=hg;have:=I.bk _ _ O.obj;rw[z,e]at this;cases this;rw[O.data]at d;cases d
 have hb:s.heap.BuiltinsAt X.mg P:=⟨bm,E,O.name,O.ne,aq,ab,I.bk _ _ O.obj,O.cls,O.dict,O.data⟩
 refine PySem.W.kla_eval (by rw[defaultsOf_eq,L.df,L.kd];rfl) ?_;rw[L.qual];rcases Td with IW|⟨c,hf,hc⟩
 . refine PySem.W.kla_makeFunction (mg:=X.mg) gR I.ok.glob hg Jj C Z ht IW ah hb λJ U f tk hx Pu bP XM Pw=>?_
   have j:H J=none:=I.aW.fresh Pu;have Px:s.heap.objs.size<=f.objs.size:=qJ Pu (ZQ bP);have h:H f.objs.size=none:=I.aW.fresh Px;have D1:f.objs.size≠J:=ae4 bP;have a0:J≠P:=λz=>by rw[z,R]at j;cases j
   have a3:f.objs.size≠P:=λz=>by rw[z,R]at h;cases h
   have e1:Ext H ι (upd H J (.jg l.qual)) ι:=Ext.lay j;have Cc:upd H J (.jg l.qual) f.objs.size=none:=by rw[aG D1];exact h
   have e2:=λo=>Ext.lay (ι:=ι) (o:=o) Cc;have G1:aw X.kw (upd H J (.jg l.qual)) ι a:=G0.lay j;have tx:∀(o:Obj) p E,p≠P->s.heap.get? p=some E->(f.push o).get? p=some E:=λo p E n e=>nU _ (hx p E n e);have M:∀o:Obj,o.isFreed=false->(f.push o).get? f.objs.size=some o:=λo z=>qt _ z;refine q _ J U ((X.mg "__name__").getD .none) _ (upd (upd H J (.jg l.qual)) f.objs.size (oK f.objs.size _)) (I.un (t':=tk) ⟨λp E e n _ _=>tx _ p E (λz=>by rw[z,R]at n;cases n) e,λp E e n _ _=>⟨E.slots,tx _ p E (λz=>by rw[z,R]at n;cases n) e⟩,λp E e n _=>?_,λp E e _=>?_,λp xs e=>?_,λp E u e=>?_,λp u _ e=>?_⟩ λp u e=>?_) (e1.trans (e2 _)) (G1.lay Cc) ⟨aQ,G1.fresh Cc,λ_=>G1.iV Cc⟩ ⟨by rw[aG (om D1)];exact aQ,G0.fresh j,λz=>(by cases z)⟩
   . have l1:=n7 e
     rw[aG (sI (wh l1 Px)),aG (sI (wh l1 Pu))];exact n
   . by_cases z:p=P
     . rw[z];exact⟨_,nU _ Pw⟩
     . exact⟨E,tx _ p E z e⟩
   . rw[aG (aN e h),aG (aN e j)];exact e
   . rw[aG (aN e h),aG (aN e j)];exact e
   . rw[aG (aN e h),aG (aN e j)];exact e
   . have lift:∀p u,H p=some u->upd (upd H J (.jg l.qual)) f.objs.size (oK f.objs.size (ae_ "<lambda>" l.qual l.ar l.bd l.sc (l.fv.map λg=>(g,(X.env.cells.lookup g).getD 0)) ((X.mg "__name__").getD .none) J U)) p=some u:=λp u e=>by
       rw[aG (aN e h),aG (aN e j)];exact e
     by_cases za:p=f.objs.size
     . subst za
       rw[aQ]at e;cases e;exact⟨M _ rfl,⟨_,M _ rfl⟩,λh1 h2 B k=>k _ B⟩
     . rw[aG za]at e
       by_cases zc:p=J
       . subst zc
         rw[aQ]at e;cases e;exact XM.push _
       . rw[aG zc]at e
         by_cases zp:p=P
         . subst zp
           rw[R]at e;cases e;refine⟨_,nU _ Pw,?_,.inr ⟨J,?_,?_⟩⟩
           . rw[ahh];exact TriplesOk_snoc _ _ _ _ ht
           . rw[ahh];exact codeAmong_snoc _ ht IW
           . rw[aG (om D1)];exact aQ
         . refine(I.aW p u e).dn (λd v hd r=>tx _ d v ?_ r) (λd r=>lift d _ r) (λd xs r=>lift d _ r) λd r' r=>lift d _ r
           rcases hd with rfl|hd
           . exact zp
           . intro z;rw[z,R]at hd;cases hd
 . refine PySem.W.kla_makeFunctionHit (mg:=X.mg) gR I.ok.glob hg Jj C Z ht hf hb λU f tk hk jS=>?_
   have h:H f.objs.size=none:=I.aW.fresh jS;have kk:∀(o:Obj) p E,s.heap.get? p=some E->(f.push o).get? p=some E:=λo p E e=>nU _ (hk p E e);have M:∀o:Obj,o.isFreed=false->(f.push o).get? f.objs.size=some o:=λo z=>qt _ z;have j:c ∉ ι.ix:=λz=>by
     obtain⟨o,ev,_⟩:=id (G0.lst z);rw[hc]at ev;cases ev;obtain⟨i,hi,e⟩:=Qa.mp z;have aB:i<a.length:=by rw[<- G0.len];exact hi
     obtain⟨p,o,vs,hb,h1,ov,_⟩:=G0.at_ i _ (nP aB);rw[nP hi,e]at hb;cases hb;rw[hc]at h1;cases h1;generalize ι.kd i=kk at ov;cases ov
   have e2:=λo=>Ext.lay (ι:=ι) (o:=o) h;refine q _ c U _ _ (upd H f.objs.size (oK f.objs.size _)) (I.laid (t':=tk) (kk _) jS ⟨M _ rfl,⟨_,M _ rfl⟩,λh1 h2 B k=>k _ B⟩) (e2 _) (G0.lay h) ⟨aQ,G0.fresh h,λ_=>G0.iV h⟩ ⟨by rw[aG (aN hc h)];exact hc,j,λz=>(by cases z)⟩
theorem baC {j n:Type}{f:j->n}:∀{l:List j},(∀x∈l,∀y∈l,f x=f y->x=y)->l.Nodup->(l.map f).Nodup
 | [],_,_=>VX|x::l,h,nd=>by rw[x8,D5];rw[D5]at nd;refine⟨λz=>?_,baC (λa d b i=>h a (qz _ d) b (qz _ i)) nd.2⟩;obtain⟨y,c,e⟩:=oa.mp z;have:=h y (qz _ c) x tc e;rw[this]at c;exact nd.1 c
def LN {l:eA}{is:List Nat}(L:wb X B x l)(J:EA X.N is l.fv)(A:xY X d k):xY X (.Lambda l.ar l.bd l.sc B::d) (ae (uw x is) k):=.of (by
 intro pos M s O H Q I h;obtain⟨R,p,g,fr,g',G0,E,h,q⟩:=h;obtain⟨⟨d1,g1⟩,f,h⟩:=bind_some h;obtain⟨⟨U,Y⟩,h2,h⟩:=bind_some h;cases h;unfold uw at f;obtain⟨ds,hc,f⟩:=p7.mp f;cases f;have o:∀y∈l.fv,X.env.cells.lookup y=some ((X.env.cells.lookup y).getD 0):=λy n=>by obtain⟨c,e⟩:=I.ok.has y (.inl (L.cells y n));rw[e];rfl
 obtain⟨vc,u,Z⟩:=EB E J o L.cells hc;show wpAny _ _ (spliced ((false,eval (.Lambda l.ar l.bd l.sc B) X.env)::vE pos (nN d X.env))) _ _ s;refine afz (Pr L I G0 λa c gh pm s1 H1 I1 r G1 xf xc=>?_);refine aX (A.un pos M s1 O H1 (λj b=>Q (.ref a::j) b) I1 ⟨R,p,g,U,Y,G1,E.ext r,h2,λb C j i G2 rq=>?_⟩) λus s2 ⟨j,b,I2,r2,q2⟩=>⟨.ref a::j,b,I2,.cons rfl r2,q2⟩
 refine q b C _ (r.trans i) G2 (.cons (.lam L.lm (xf.ext i) (xc.ext i) ?_ ?_ u (ai.ext (r.trans i) _ Z)) rq)
 . rw[E5];exact ahT _
 . rw[E5]
   refine baC (λy n z hz e=>?_) (UK.mp L.S.nd).1;have e:(X.env.cells.lookup y).getD 0=(X.env.cells.lookup z).getD 0:=e;have v:=o y n;rw[e]at v;exact I.ok.inj y z _ v (o z hz))
noncomputable def eI (X:Cx):List (Str×Addr):=(X.env.cells.map (·.1)).filterMap λy=>(X.env.cells.lookup y).map λc=>(y,c)
def pf (h:f∈(eI X).map (·.2)):∃y,X.env.cells.lookup y=some f:=by obtain⟨⟨y,c⟩,hm,rfl⟩:=oa.mp h;obtain⟨z,_,e⟩:=RI.mp hm;obtain⟨b,d,a⟩:=p7.mp e;cases a;exact⟨_,d⟩
def EC (e:X.env.cells.lookup x=some tu):tu∈(eI X).map (·.2):=
 oa.mpr ⟨(x,tu),RI.mpr ⟨x,Pd (f:=(·.1)) (z6 e),by rw[e];rfl⟩,rfl⟩
def tE (I:mH X b y H c):∀g o,bT (eI X) c.heap g=some o->c.heap.get? g=some o/\H g=none:=λg o q=>by obtain⟨h,e⟩:=i6 q;obtain⟨s,a⟩:=pf h;exact⟨e,I.ik s g a⟩
section
variable {σ:m6}{s:mJ}
theorem vj (I:mH X b σ H s)(G0:aw X.kw H t a):∀{cl:List (Str×Addr)} {i:List V},Ax X σ cl i->cN (d6 (bT (eI X) s.heap) H) t cl i
 |_,_,.nil=>.nil
 |_,_,.cons (y:=y) (c:=c) (v:=v) e k hN hσ g=>by
  obtain⟨mm,_,d⟩:=I.loc;obtain⟨u,r,f⟩:=d _ y v hN hσ (.inr (.inl k));rcases f with⟨h,_⟩|⟨_,c',e',o,ho,hd⟩
  . have h:X.env.scope.names.lookup y=some .local:=h
    rw[k]at h;cases h
  . rw[e]at e';cases e'
    have n:=I.ik y c e;exact .cons ⟨jV (xX (EC e) ho),G0.fresh n,λ_=>G0.iV n⟩ hd r (vj I G0 g)
end
theorem x4 (I:mH X b y H c)(G0:aw X.kw H t a):∀{ds:List D} {g:List V},pb X H t y ds g->ai X.kw (d6 (bT (eI X) c.heap) H) t ds g
 |_,_,.nil=>by simp[ai]
 |_,_,.cons r h=>by
  have e:Ext H t (d6 (bT (eI X) c.heap) H) t:=Ext.lE λi o q=>(tE I i o q).2;simp only[ai];refine⟨_,_,rfl,?_,x4 I G0 h⟩;cases r with
  |val r=>exact Rel.ext e _ r
  |lam n hf hc p hd u r =>
   simp only[Rel];exact⟨_,_,rfl,.inr ⟨_,_,_,_,_,n,hf.ext e,hc.ext e,p,hd,vj I G0 u⟩,ai.ext e _ r⟩
def LO (I:mH X b y H c)(h:∀s,X.fn s=true):qS X.prog X.w X.K X.mg X.base X.A X.stack c (d6 (bT (eI X) c.heap) H):=by
 have a:=I.Gj;have p:∀g o,bT (eI X) c.heap g=some o->X.s₀.heap.objs.size<=g:=λg o q=>by obtain⟨s,d⟩:=pf (i6 q).1;exact I.ok.zB s g (h s) d
 refine⟨a.frames,a.mod,λg o e=>⟨(a.bs g o e).1,?_⟩,a.oF,a.iO,λg i=>?_,Ex a.aW (tE I),a.bare⟩
 . rw[cp ?_]
   . exact(a.bs g o e).2
   . cases z:bT (eI X) c.heap g with
     |none=>rfl|some n=>exact absurd (wh (n7 e) (qJ I.ok.oF (p g n z))) (D7 _)
 . rw[cp ?_]
   . exact a.rW g i
   . cases z:bT (eI X) c.heap g with
     |none=>rfl
     |some n =>
      obtain⟨s,d⟩:=pf (i6 z).1;rcases nQ.mp (I.rX g i)with e|i
      . exact absurd e (I.uL s g d)
      . obtain⟨_,o,f,_⟩:=I.ok.iO.mem i
        exact absurd (wh (n7 f) (p g n z)) (D7 _)
def Hk {fd:yy}(F:eE X.prog X.w X.kw X.mg X.base iT p f fd R (lJ X.kw n h))(ps:dM p X.A)(J:X.mg x=some (.ref f))(L:Pz X.kw (.ref f)=true)(C:O_ X.kw fd R [])(S:∀ds g r,h ds g=some r->ds.length=n)(N:∀y,X.fn y=true)(K:xY X (e::d) k)(E:Gl X x)(O:(x == ("__debug__":Str))=false)(P:nN (e::d) X.env=(false,eval e X.env)::nN d X.env)(M:(vE B (nN d X.env)).any (·.1)=false):DE X (.Call (.Name x pos) (e::d) [] B) (aj (kA h) k):=.of (by
 intro cv s σ H Q I fn;obtain⟨ι,σd,g,Z,g',G0,S0,fn,q⟩:=fn;obtain⟨⟨ds,g1⟩,h1,fn⟩:=bind_some fn;refine Sw (pO I E J ?_ O);refine afA (h₀:=X.base) I.ok.mod.rV L (aX (K.un B cv s σ H (λl U=>∃a,Ext H ι U a/\aw X.kw U a g1/\pb X U a σ ds l) I ⟨ι,σd,g,ds,g1,G0,S0,h1,λU a l e1 c rq=>⟨a,e1,c,rq⟩⟩) λus Y ⟨l,U,j,r,a,e1,c,rq⟩=>⟨j.g_,?_⟩) P M;obtain⟨z1,⟨gx,hx⟩,z3,z4,rfl⟩:=Cb fn;have cm:=tE j;have rl:=x4 j c rq;have hl:l.length=n:=by rw[<- rq.len];exact S _ _ _ hx
 have Ge:aw X.kw (d6 (bT (eI X) Y.heap) U) (Ix.none a) []:=c.empty (λb nn=>.inl ((Ext.lE (ι:=a) λb o q=>(cm b o q).2).there b nn)) λq i=>by rw[(c.tb q i).1];exact(Ext.lE (ι:=a) λb o q=>(cm b o q).2).same _ _ (c.tb q i).1 (c.tb q i).2
 have sp:lJ X.kw n h l (d6 (bT (eI X) Y.heap) U) (λv nm=>∃z,Ext (d6 (bT (eI X) Y.heap) U) (Ix.none a) nm z/\Rel X.kw nm z Z v) E0:=⟨hl,Ix.none a,[],ds,Z,gx,Ge,ai.toN _ z1 rl,hx,λnm z v e _ r=>⟨z,e,r⟩⟩
 have ab:(us ++ []).length=R.length:=by rw[wQ,<- r.length];exact F.len _ _ _ _ sp
 have IB:=C Y us j.g_ ab;rw[wQ]at IB;refine agV (V8 (F.run X.A X.stack Y (d6 (bT (eI X) Y.heap) U) ⟨us,[]⟩ us l _ E0 ps (LO j N) IB r sp) λrr s' i=>?_);cases rr with
 |error e=>exact i.elim
 |ok fl =>
  cases fl with
  |next=>exact CZ i|brk=>exact CZ i|cont=>exact CZ i
  |ret u =>
   obtain⟨v,nm,os,bare,un,aW,rv,z,e,r'⟩:=i;obtain⟨E1,G2,same,kS⟩:=LK c (λb o q=>(cm b o q).2) e;refine j.after ⟨v,di (bT (eI X) Y.heap) nm,os,bare,Po un cm kS aW,Ey aW kS,rv,?_⟩;refine q _ a v (e1.trans E1) G2 (Rel.xW kS Z z4 (Rel.sO e.cK (λb C=>?_) Z z3 r'));obtain⟨o,ev,Pq⟩:=c.lst C;exact⟨o,by rw[same b C];exact ev,Pq⟩)
end
section
open PyProof.Rows
variable {Z:List Value->Prop}{E:Expr->FE}{U:Env}{T:Nat->Nat->Fn}{R:List ado}{Q:Nat->yy}{M:List (Addr×Pos×Str)}{J:Nat->Addr}{A:Str->Option Value}{y:List CmpOp}{w:KW}{v:o3}{t:List Addr}{s:Expr->FT}{r:List yy}{o:Wm}{m:Stmt}{l:eA}{i:Expr}
structure G0 where
 T:Nat->Fn
 k:Nat
 fns:List (Str×Nat×Nat)
 jX:List Str
 x5:List (Str×D)
 x6:List (Str×List (Str×D))
 Py:List (Str×Nat)
structure Cs where
 N:List Str
 sc:Scope
 all:Bool
 mt:List Str
 own:List Str
 lam:Option (Pos×Str×eA)
inductive x_ (m:G0)(X:Cx)(x:Str)(i n:Nat):Prop
 |mk (f:Addr) (fd:yy) (ps:List Str) (ok:eE X.prog X.w X.K X.mg X.base iT m.k f fd ps (lJ X.kw n (m.T i))) (hm:X.mg x=some (.ref f)) (kp:Pz X.K (.ref f)=true) (b:O_ X.K fd ps []) (ln:∀ds g r,m.T i ds g=some r->ds.length=n):x_ m X x i n
structure Gd (m:G0)(c:Cs)(X:Cx):Prop where
 hN:X.N=c.N
 hs:X.env.scope=c.sc
 nd:c.N.Nodup
 xe:X.xe=λ_ _=>False
 cm:X.calm=true
 rm:dM m.k X.A
 al:c.all=true->∀x,X.fn x=true
 ow:∀x∈c.own,X.fn x=true
 fn:∀x i n,(x,i,n)∈m.fns->x_ m X x i n
 bl:∀x∈m.jX,X.mg x=none
 cn:∀x d,(x,d)∈m.x5->∃v u,X.mg x=some u/\m5 v u /\ ∀K H ι,Rel K H ι d v
 dc:∀x t,(x,t)∈m.x6->∃a,X.mg x=some (.ref a)/\jM X.w X.kw a t
 lf:∀x i n,(x,i,n)∈m.fns->X.lx.lm x=none
 ll:∀x i,(x,i)∈m.Py->(∃l,X.lx.lm x=some l)/\tw X.prog X.kw X.base m.k x (m.T i)
 lh:∀p x l,c.lam=some (p,x,l)->wb X p x l
noncomputable def lu:FT:=λ_ _=>none
noncomputable def tG:FA:=λ_ _=>none
noncomputable def cf:FS:=λ_ _=>none
noncomputable def ya:FI:=λ_ _=>none
noncomputable def tH:FG:=λ_ _ _=>none
def ux:DT X e lu:=.of (λc s g H Q I h=>by obtain⟨_,_,_,_,_,_,_,h,_⟩:=h;cases h)
def uy:DA X d tG:=.of (λ_ c s g H Q I h=>by obtain⟨_,_,_,_,_,_,_,h,_⟩:=h;cases h)
def bW:DS X m cf:=.of (λc s g H Q I h=>by obtain⟨_,_,_,_,_,_,_,_,h,_⟩:=h;cases h)
def Ay:DI X C e ya:=.of (λc s g H Q I h=>by obtain⟨_,_,_,_,_,_,_,h,_⟩:=h;cases h)
def qa:DG X e tH:=.of (λc s g H v u Q I r h=>by obtain⟨_,_,_,_,_,_,_,_,_,h,_⟩:=h;cases h)
noncomputable def isStar (e:Expr):Bool:=F0 e.ctorIdx 22
noncomputable def isSet (e:Expr):Bool:=F0 e.ctorIdx 7
noncomputable def wc (e:Expr):Bool:=F0 e.ctorIdx 26
noncomputable def pg (e:Expr):Bool:=F0 e.ctorIdx 8||F0 e.ctorIdx 9||F0 e.ctorIdx 10
noncomputable def Te (e:Expr):Bool:=F0 e.ctorIdx 24
noncomputable def mU (e:Expr):Bool:=F0 e.ctorIdx 25
noncomputable def Az (e:Expr):Bool:=F0 e.ctorIdx 16
noncomputable def nO:Expr->Bool
 |.UnaryOp .Not _ _=>false|.BoolOp ..=>false|.IfExp ..=>false|.Compare ..=>false|_=>true
noncomputable def Tf (e:Expr):Bool:=F0 e.ctorIdx 23||F0 e.ctorIdx 21||F0 e.ctorIdx 19
def bt (h:isStar e=false):nN (e::d) U=(false,eval e U)::nN d U:=by cases e<;>first|rfl|cases h
def marks {op:CmpOp}(h:isSet e=false):aeL op e=false:=by cases e<;>first|rfl|cases h
def plainT (h:nO e=true):∀whole,isTrue e U whole=(do let c <- whole;agG e.pos;HX [c] (truthy c)):=by
 intro whole;cases e with
 |UnaryOp op a p=>cases op<;>first|rfl|cases h
 |_=>first|rfl|cases h
def AA (h:wc e=false):pP e:=by intro o i;cases e<;>first|rfl|cases h
def baseOk (h:Az e=false):aeM e x U (eval e U)=eval e U:=by cases e<;>first|rfl|cases h
def yc {t:Option Expr}(h:pg e=false):OJ e t n U=pure false:=by cases e<;>first|rfl|cases h
def lQ (h:isSet e=false):∀x,FV e U x=pure x:=by intro x;cases e<;>first|rfl|cases h
def gL (h:d.any isStar=false):(vE B (nN d U)).any (·.1)=false:=by
 induction d with
 |nil=>rfl
 |cons e d c =>
  rw[BG,Ik]at h;rw[bt h.1]
  show(false||(vE B (nN d U)).any (·.1))=false
  rw[c h.2];rfl
def yd (h:d.any isStar=false):(vE B (nN d U)).all (λx=>!x.1)=true:=by
 induction d with
 |nil=>rfl
 |cons e d c =>
  rw[BG,Ik]at h;rw[bt h.1];show(true&&(vE B (nN d U)).all (λx=>!x.1))=true;rw[c h.2];rfl
noncomputable def i_:List Str->Str->Option Nat
 | [],_=>none|y::N,x=>if y == x then some 0 else(i_ N x).map (· + 1)
theorem eJ:∀{N:List Str} {x:Str} {i:Nat},i_ N x=some i->N[i]? = some x
 | [],_,_,h=>by cases h
 |y::N,x,i,h=>by
  unfold i_ at h;split at h
  . rename_i e
    cases h;simp[eq_of_beq e]
  . obtain⟨j,a,rfl⟩:=p7.mp h
    simpa using eJ a
theorem lookup_mem {c:Type}:∀{l:List (Str×c)} {x:Str} {a:c},l.lookup x=some a->(x,a)∈l
 | [],_,_,h=>by cases h
 | (y,b)::l,x,a,h=>by
  rw[yE]at h;split at h
  . rename_i e
    cases h;rw[eq_of_beq e];exact tc
  . exact qz _ (lookup_mem h)
def nn {a:Type}{x:a}{P:Prop}(h:(none:Option a)=some x):P:=nomatch h
noncomputable def AB:Expr->Option (Str×Pos)
 |.Name x p=>some (x,p)|_=>none
def tI (h:AB e=some (x,B)):e = .Name x B:=by
 cases e with
 |Name y B=>cases h;rfl|_=>exact nn h
noncomputable def nV (e:Expr):Option Str:=(AB e).map (·.1)
def jN (h:nV e=some x):∃p,e = .Name x p:=by obtain⟨⟨y,p⟩,a,rfl⟩:=p7.mp h;exact⟨p,tI a⟩
noncomputable def Jk:Expr->Option (Expr×Expr×Pos)
 |.Subscript o i p=>some (o,i,p)|_=>none
def ye (h:Jk e=some (C,i,B)):e = .Subscript C i B:=by
 cases e with
 |Subscript=>cases h;rfl|_=>exact nn h
noncomputable def sV (e:Expr):Option (Expr×Expr):=(Jk e).map λq=>(q.1,q.2.1)
def Cd (h:sV e=some (C,i)):∃p,e = .Subscript C i p:=by obtain⟨⟨c,d,p⟩,b,a⟩:=p7.mp h;cases a;exact⟨p,ye b⟩
noncomputable def tV:Expr->Option (List Expr)
 |.Tuple c _ _=>some c|_=>none
def Ce (h:tV e=some d):∃k p,e = .Tuple d k p:=by
 cases e with
 |Tuple a k p=>cases h;exact⟨k,p,rfl⟩|_=>exact nn h
noncomputable def ED:Expr->Option (Expr×List Expr×Pos)
 |.Call f c g p=>if g.isEmpty then some (f,c,p)else none|_=>none
def tJ (h:ED e=some (C,d,B)):e = .Call C d [] B:=by
 cases e with
 |Call g i c q=>cases c with
  |nil=>cases h;rfl|cons=>exact nn h
 |_=>exact nn h
noncomputable def cV (e:Expr):Option (Str×List Expr):=(ED e).bind λq=>(nV q.1).map λx=>(x,q.2.1)
def we (h:cV e=some (x,d)):∃p q,e = .Call (.Name x p) d [] q:=by obtain⟨⟨f,b,q⟩,c,h⟩:=bind_some h;obtain⟨y,a,h⟩:=p7.mp h;cases h;obtain⟨p,a⟩:=jN a;exact⟨p,q,by rw[tJ c];exact congrArg (λz=>Expr.Call z b [] q) a⟩
noncomputable def two {c:Type}:List c->Option (c×c)
 | [a,b]=>some (a,b)|_=>none
def tK {c:Type}{l:List c}{a b:c}(h:two l=some (a,b)):l = [a,b]:=by
 cases l with
 |nil=>cases h
 |cons x l=>cases l with
  |nil=>cases h
  |cons y l=>cases l with
   |nil=>cases h;rfl|cons=>cases h
noncomputable def gV:List ado->Option (Expr×Expr×List Expr)
 | [g]=>if g.is_async=0 then some (g.target,g.iter,g.ifs)else none|_=>none
def Jl (h:gV R=some (e,C,d)):R = [⟨e,C,d,0⟩]:=by
 cases R with
 |nil=>cases h
 |cons g R=>cases R with
  |cons=>cases h
  |nil =>
   obtain⟨a,b,c,k⟩:=g;change (if k=0 then some (a,b,c)else none)=some _ at h;by_cases hk:k=0
   . subst hk;cases h;rfl
   . rw[if_neg hk]at h;cases h
noncomputable def jA (x:Str):Bool:=x == ("__debug__":Str)||x == ("__classdict__":Str)||x == ("__name__":Str)
def ph (h:jA x=false):(x == ("__debug__":Str))=false/\(x == ("__classdict__":Str))=false/\x ≠ "__name__":=by simp only[jA,Ik]at h;exact⟨h.1.1,h.1.2,λe=>by have:=h.2;rw[e]at this;simp at this⟩
structure qb where
 nm:Str
 fn:Fn
 ok:∀{X:Cx} {k:Nat},dM k X.A->X.calm=true->(∃id,dY X (.builtin id) (mF X.kw fn)/\NW nm=some (.builtin id))\/(∃T,dY X (.type T) (mF X.kw fn)/\NW nm=some (.type T))
structure wg where
 nm:Str
 jj:D->Bool
 m:D->List D->G->Option (D×G)
 ok:∀{X:Cx} {k:Nat},dM k X.A->∃T id,MR X T nm id jj m
def aE (E:Expr->FE):List Expr->FA
 | []=>af|e::c=>if isStar e then tG else ae (E e) (aE E c)
structure Cf where
 nm:Str
 tup:Bool
 f:(Expr->FE)->List Expr->FI
 ok:∀{X:Cx} {k:Nat} {E:Expr->FE} {tg:Expr} {as:List Expr} {p pos:Pos},dM k X.A->X.calm=true->X.mg nm=none->Gl X nm->(∀e,DE X e (E e))->as.any isStar=false->(tup=true->mU tg=true)->DI X tg (.Call (.Name nm p) as [] pos) (f E as)
structure lR where
 e:G0->Cs->(Expr->FE)->Bool->Expr->Option FE
 vk:∀{m:G0} {c:Cs} {X:Cx} {E:Expr->FE},Gd m c X->(∀e,DE X e (E e))->∀{rf x f},e m c E rf x=some f->DE X x f
 t:G0->Cs->(Expr->FE)->Expr->Option FT
 tok:∀{m:G0} {c:Cs} {X:Cx} {E:Expr->FE},Gd m c X->(∀e,DE X e (E e))->∀{x f},t m c E x=some f->DT X x f
structure Pk where
 bl:List qb
 br:List qb
 mt:List wg
 it:List Cf
 xr:List lR
def EE:Const->FE
 |.int i=>fC (.int i)|.str x=>fC (.str x)|.bool b=>fC (.bl b)|.none=>fC .aB|_=>bN
noncomputable def wj:Option BB->Bool
 |some .local=>true|some .cell=>true|some .free=>true|_=>false
def eName (m:G0)(c:Cs)(x:Str):FE :=
 if jA x then bN else
 match wj (c.sc.names.lookup x),i_ c.N x with
 |true,some i=>aa i|true,none=>bN|false,_=>if c.sc.names.lookup x=some .globalImplicit then(match m.x5.lookup x with|some d=>fC d|none=>match m.fns.lookup x with|some _=>fC (.fn x [])|none=>bN)else bN
def PB (op:Wm)(c d:Bool)(b a:FE):FE:=match op with
 |.Add=>ag (if c then pX else bo) b a|.Sub=>ag (bX dJ (· - ·)) b a|.Mult=>ag (if d then(if c then lP else ko)else cP) b a|.FloorDiv=>ag (bX fA (· / ·)) b a|.Mod=>ag (bX cR (· % ·)) b a|.Pow=>ag (bX km (λi j=>i ^ j.toNat)) b a|_=>bN
def Vr (op:UnaryOp)(a:FE):FE:=match op with
 |.USub=>sr nG a|_=>bN
def bE (E:Expr->FE)(g:Bool)(op:BoolOp):List Expr->FE
 | []=>bN| [a]=>E a
 |a::b::r=>match op with
  |.And=>ip (E a) (bE E g .And (b::r))|.Or=>bN
noncomputable def Vs (_ _:D)(_:G):Option (D×G):=none
def Tg {f:Value->Value->Sem Value}:bO X f (dW X.kw Vs):=by intro n s r H x y v u Q I a e q;obtain⟨B,g,j,h,d,i,G0,b,c,q,p⟩:=q;cases q
def Vt:CmpOp->D->D->G->Option (D×G)
 |.Lt=>oLt|.LtE=>oLe|.Gt=>mM|.GtE=>Aa|.Eq=>oEq|.NotEq=>bf|.Is=>qH|.IsNot=>Vs|.In=>iz|.NotIn=>iG
def uz (E:Expr->FE)(l:Expr):List CmpOp->List Expr->FE
 | [op],[b]=>if isSet b then bN else ag (Vt op) (E l) (E b)|_,_=>bN
def pE (E:Expr->FE):Option Expr->FO
 |none=>eH|some e=>bG (E e)
def Hl (E:Expr->FE)(v:Expr):Expr->FE
 |.Slice c g none _=>dC (E v) (pE E c) (pE E g)|.Slice c g (some st) _=>xB (E v) (pE E c) (pE E g) (bG (E st))|s=>ag ao (E v) (E s)
def Cg (m:G0)(P:Pk)(c:Cs)(d:Bool)(E:Expr->FE)(f:Expr)(a:List Expr)(b:Pos):FE:=match f with
 |.Name x _=>if jA x||a.any isStar then bN else if c.sc.names.lookup x=some .globalImplicit then
   (match m.fns.lookup x with
   |some (i,_)=>aj (m.T i) (aE E a)
   |none=>if a.isEmpty || !(m.jX.elem x)then bN else match(if d then P.br else P.bl).find? (λr=>r.nm == x)with
    |some r=>aj r.fn (aE E a)|none=>bN)
  else bN
 |.Attribute o x g=>if Az o||a.any isStar || !(g.endLine == b.line) || !(decide (a.length<29))then bN else match P.mt.find? (λr=>r.nm == x)with
  |some r=>dD r.jj r.m (E o) (aE E a)|none=>bN
 |_=>bN
def Gd.hu {m:G0}{c:Cs}(g:Gd m c X):X.A.units+64<cLine:=g.rm.units
def Gd.gl {m:G0}{c:Cs}(g:Gd m c X)(h:c.sc.names.lookup x=some .globalImplicit):Gl X x:=by show X.env.scope.names.lookup x=_;rw[g.hs];exact h
theorem fD (a:∀e,DE X e (E e)):∀c:List Expr,DA X c (aE E c)
 | []=>DJ
 |e::c=>by
  unfold aE;split
  . exact uy
  . rename_i h
    exact ud (a e) (fD a c) (bt (by simpa using h))
def EF {v:Const}:DE X (.Constant v n B) (EE v):=by
 cases v with
 |int i=>exact N6|str x=>exact N7|bool b=>exact Sr|none=>exact N8|_=>exact bH
def Hm {m:G0}{c:Cs}(g:Gd m c X):DE X (.Name x B) (eName m c x):=by
 unfold eName;split
 . exact bH
 rename_i ho;obtain⟨a,r,_⟩:=ph (by simpa using ho);split
 . rename_i i b s
   refine N9 i (by rw[g.hN];exact eJ s) ?_ a r;rw[g.hs];unfold wj at b;split at b
   . rename_i e;exact .inl e
   . rename_i e;exact .inr (.inl e)
   . rename_i e;exact .inr (.inr e)
   . cases b
 . exact bH
 . split
   . rename_i l
     split
     . rename_i d hd
       obtain⟨v,u,z,q,o⟩:=g.cn x d (lookup_mem hd);exact KG (g.gl l) z q o a
     . split
       . rename_i y j
         obtain⟨i,n⟩:=y;obtain⟨f,fd,ps,_,hm,_⟩:=g.fn x i n (lookup_mem j);exact .of (PE.imp (t7 (v:=.ref f) (g.gl l) hm rfl a) λE H Q h=>by obtain⟨p,C,I,d,J,G0,M,h,B⟩:=h;cases h;exact B H p _ Ext.refl G0 (by simp only[Rel];exact⟨f,[],rfl,.inl ⟨rfl,g.lf x i n (lookup_mem j),hm⟩,by simp[ai]⟩))
       . exact bH
   . exact bH
def LP {h:Bool}{i:FE}(d:DE X e K)(op:DE X C i):DE X (.BinOp e o C B) (PB o Y h K i):=by
 cases o<;>first|exact bH|skip
 . cases Y
   . exact jK OR d op
   . exact jK Li d op
 . exact jK OD d op
 . cases h
   . exact jK xl d op
   . cases Y
     . exact jK Lq d op
     . exact jK Aw d op
 . exact jK OE d op
 . exact jK OF d op
 . exact jK K4 d op
def PC {op:UnaryOp}(d:DE X e K):DE X (.UnaryOp op e B) (Vr op K):=by
 cases op with
 |USub=>exact Ss OG d|_=>exact bH
theorem Jm (d:∀e,DE X e (E e)){gf:Bool}{op:BoolOp}{p:Pos}:∀c:List Expr,DE X (.BoolOp op c p) (bE E gf op c)
 | []=>bH| [a]=>Oh (d a)
 |a::b::r=>by
  have g:=Jm d (gf:=gf) (op:=op) (p:=p) (b::r);cases op<;>cases gf
  . exact DH (d a) g
  . exact DH (d a) g
  . exact bH
  . exact bH
def EG (hu:X.A.units+64<cLine):∀op:CmpOp,bO X (wR op) (dW X.kw (Vt op))
 |.Lt=>SF|.LtE=>SG|.Gt=>SH|.GtE=>SI|.Eq=>SK hu|.NotEq=>O3 hu|.Is=>SQ|.IsNot=>Tg|.In=>O7 hu|.NotIn=>El hu
def LR (hu:X.A.units+64<cLine)(a:∀l,DE X l (E l)):DE X (.Compare e y d B) (uz E e y d):=by
 unfold uz;split
 . split
   . exact bH
   . rename_i h
     exact Oa (EG hu _) (a _) (a _) (marks (by simpa using h))
 . exact bH
def LS (hu:X.A.units+64<cLine)(a:∀l,DE X l (E l)):DT X (.Compare e y d B) (ax (uz E e y d)):=by
 have none_:DT X (.Compare e y d B) (ax bN):=.of (λc s g H Q I h=>by obtain⟨_,_,_,_,_,_,_,h,_⟩:=h;cases h);unfold uz;split
 . split
   . exact none_
   . rename_i h
     exact Oc (EG hu _) (a _) (a _) (marks (by simpa using h))
 . exact none_
def wk (a:∀e,DE X e (E e)):∀o:Option Expr,DO X o (pE E o)
 |none=>K9|some e=>z_ (a e)
def LU (hu:X.A.units+64<cLine)(d:∀v,DE X v (E v)):DE X (.Subscript e C B) (Hl E e C):=by
 unfold Hl;split
 . exact Eg (d _) (wk d _) (wk d _)
 . exact Ed (d _) (wk d _) (wk d _) (z_ (d _))
 . rename_i b a
   refine O6 hu (d _) (d _) (AA ?_);cases C with
   |Slice c g st q =>
    cases st with
    |none=>exact absurd rfl (b _ _ _)|some v=>exact absurd rfl (a _ _ _ _)
   |_=>rfl
def Hn {m:G0}{c:Cs}(P:Pk)(g:Gd m c X)(A:∀H,DE X H (E H)):DE X (.Call e d [] B) (Cg m P c Y E e d B):=by
 unfold Cg;split
 . rename_i x p
   split
   . exact bH
   rename_i h;simp only[zg,not_or,VS]at h;obtain⟨q,O,I⟩:=ph h.1;have f:=h.2;split
   . rename_i s
     split
     . rename_i i n hf
       obtain⟨fa,fd,ps,ok,hm,z,b,ln⟩:=g.fn x i n (lookup_mem hf);cases d with
       |nil=>exact GI ok g.rm hm z b ln (g.gl s) q
       |cons H C =>
         rw[BG,Ik]at f;exact K0 ok g.rm hm z b ln (fD A _) (g.gl s) q (bt f.1) (gL f.2)
     . split
       . exact bH
       rename_i v;simp only[zg,not_or,VS,afG,x3]at v;split
       . rename_i r u
         have l:r.nm=x:=by have:=agw u;exact eq_of_beq this
         have hx:x∈m.jX:=IH.mp (by simpa using v.2);cases d with
         |nil=>simp at v
         |cons H C =>
          rw[BG,Ik]at f;rcases r.ok g.rm g.cm with⟨id,j,a⟩|⟨T,j,a⟩
          . rw[l]at a
            exact GJ j (g.bl x hx) a (fD A _) (g.gl s) I q (bt f.1) (gL f.2)
          . rw[l]at a
            exact DR j (g.bl x hx) a (fD A _) (g.gl s) I q (bt f.1) (gL f.2)
       . exact bH
   . exact bH
 . rename_i o x Q
   split
   . exact bH
   rename_i h;simp only[zg,not_or,VS,x3,afG,decide_eq_false_iff_not,Classical.not_not]at h;obtain⟨⟨⟨j,a⟩,y⟩,J⟩:=h;split
   . rename_i r u
     have l:r.nm=x:=by have:=agw u;exact eq_of_beq this
     obtain⟨T,id,R⟩:=r.ok g.rm;rw[l]at R;cases d with
     |nil=>exact Lv R (A o) (baseOk j) (by simpa using y)
     |cons H C =>
       rw[BG,Ik]at a;refine O8 R (A o) (fD A _) (baseOk j) ?_ (by simpa using y) (bt a.1) (gL a.2);rw[yd (by rw[BG,a.1,a.2];rfl)];have M:decide ((H::C).length+([]:List Vj).length+(if([]:List Vj).isEmpty then 0 else 1)<30)=true:=by simp at J ⊢;lia
       rw[M];rfl
   . exact bH
 . exact bH
noncomputable def yf (c:Cs)(x:Str):Option Nat:=match c.sc.names.lookup x with
 |some .local=>i_ c.N x|some .cell=>if c.all||c.own.elem x then i_ c.N x else none|_=>none
def Ho (f:Expr->FG):List Expr->qF
 | []=>fz|e::c=>a_ (f e) (Ho f c)
def Jn (c:Cs)(E:Expr->FE)(e:Expr):FG:=match nV e with
 |some x=>(match yf c x with|some i=>gN i|none=>tH)
 |none=>match sV e with
  |some q=>if wc q.2 then tH else dP (E q.1) (E q.2)|none=>tH
def oh (c:Cs)(E:Expr->FE):Nat->Expr->FG
 | 0,e=>Jn c E e
 |n+1,e=>match tV e with
  |some g=>if g.any isStar then tH else gT g.length (Ho (oh c E n) g)|none=>Jn c E e
def uA {m:G0}{c:Cs}(g:Gd m c X)(h:yf c x=some n):X.N[n]? = some x/\Ee X.env.scope x/\(X.fn x=true\/X.env.scope.names.lookup x=some .local):=by
 unfold yf at h;rw[g.hN,g.hs];split at h
 . rename_i e;exact⟨eJ h,.inl e,.inr e⟩
 . rename_i e
   split at h
   . rename_i a
     rw[zg]at a;exact⟨eJ h,.inr e,.inl (a.elim (λa=>g.al a x) λa=>g.ow x (IH.mp a))⟩
   . cases h
 . cases h
def Gd.pj {m:G0}{c:Cs}(g:Gd m c X):X.N.Nodup:=by rw[g.hN];exact g.nd
def rA (h:isStar e=false):Dc (e::d) U=(false,Hv e U)::Dc d U:=by cases e<;>first|rfl|cases h
def AD (h:d.any isStar=false):(Dc d U).length=d.length/\(Dc d U).findIdx? (·.1)=none:=by
 induction d with
 |nil=>exact⟨rfl,rfl⟩
 |cons e d c =>
  rw[BG,Ik]at h;obtain⟨a,b⟩:=c h.2;rw[rA h.1];exact⟨by simp[a],by rw[List.findIdx?_cons,b];rfl⟩
def LV (h:wc i=false):∀v,Hv (.Subscript e i B) U v=(do
  let c <- HX [v] (eval e U);let iv <- HX [v,c] (eval i U)
  agG B
  HX [v,c,iv] (ahz c iv v)
  release [v,c,iv] []):=by
 intro v;cases i<;>first|rfl|cases h
def EH {m:G0}{c:Cs}(g:Gd m c X)(l:∀e,DE X e (E e))(e:Expr):DG X e (Jn c E e):=by
 unfold Jn;split
 . rename_i x j
   obtain⟨p,rfl⟩:=jN j;split
   . rename_i i h;obtain⟨a,b,d⟩:=uA g h;exact KS g.pj a b d
   . exact qa
 . split
   . rename_i q f
     obtain⟨p,rfl⟩:=Cd f;split
     . exact qa
     . rename_i h;exact Lu g.hu (l _) (l _) (LV (by simpa using h))
   . exact qa
def mV {m:G0}{c:Cs}(g:Gd m c X)(i:∀e,DE X e (E e)):∀(n:Nat) (e:Expr),DG X e (oh c E n e):=by
 intro n;induction n with
 |zero=>exact EH g i
 |succ n p =>
  intro e;show DG X e (match tV e with|some a=>_|none=>_);split
  . rename_i a he
    obtain⟨r,f,rfl⟩:=Ce he;split
    . exact qa
    . rename_i b
      have b:a.any isStar=false:=by simpa using b
      have d:∀a:List Expr,a.any isStar=false->DN X a (Ho (oh c E n) a):=λa=>by
       induction a with
       |nil=>exact λ_=>KU
       |cons e a q =>
        intro h;rw[BG,Ik]at h;exact GF (p e) (q h.2) (by rw[rA h.1];rfl)
      have d:=d a b;exact Oq g.cm d (AD b).1 (AD b).2
  . exact EH g i e
def EI (m:G0)(P:Pk)(c:Cs)(E:Expr->FE)(h:Expr)(a:Expr):FI:=match cV a with
 |some (x,g)=>if c.sc.names.lookup x=some .globalImplicit then(match P.it.find? (λr=>r.nm == x)with
  |some r=>if m.jX.elem x && !(g.any isStar)&&(!r.tup||mU h)then r.f E g else ya|none=>da (E a))else da (E a)
 |none=>da (E a)
def pq {m:G0}{c:Cs}(P:Pk)(g:Gd m c X)(o:∀q,DE X q (E q)):DI X e C (EI m P c E e C):=by
 unfold EI;split
 . rename_i x u b
   obtain⟨p,pos,rfl⟩:=we b;split
   . rename_i j
     split
     . rename_i r f
       have d:r.nm=x:=by have:=agw f;exact eq_of_beq this
       split
       . rename_i h
         simp only[nc,zg,x3,beq_iff_eq]at h;obtain⟨⟨i,l⟩,a⟩:=h;have n:x∈m.jX:=IH.mp i;subst d;exact r.ok g.rm g.cm (g.bl _ n) (g.gl j) o l (λz=>by rcases a with a|a;(rw[z]at a;cases a);exact a)
       . exact Ay
     . exact xn (o _)
   . exact xn (o _)
 . exact xn (o _)
noncomputable def yg (e:Expr):Bool:=F0 e.ctorIdx 21
def yh (h:yg e=true):isStar e=false:=by cases e<;>first|rfl|cases h
def Hq (h:mU e=true):∃c k p,e = .Tuple c k p:=by
 cases e with
 |Tuple c k p=>exact⟨_,_,_,rfl⟩|_=>cases h
def Hr (m:G0)(c:Cs)(g a:Expr):Option (Expr×Expr):=(cV a).bind λq=>(two q.2).bind λr=>if q.1 == "zip" && mU g&&yg r.1&&yg r.2&&decide (c.sc.names.lookup q.1=some .globalImplicit)&&m.jX.elem q.1 then some r else none
def LW {m:G0}{c:Cs}(g:Gd m c X)(z:∀B,DE X B (E B)){b:Expr}(h:Hr m c e C=some (i,b)):sE X e C (pZ (E i) (E b)):=by
 obtain⟨⟨x,J⟩,o,r⟩:=bind_some h;obtain⟨⟨s,u⟩,H,d⟩:=bind_some r;obtain⟨p,pos,rfl⟩:=we o;obtain rfl:=tK H;dsimp only at d;split at d
 . rename_i f
   simp only[nc,beq_iff_eq,decide_eq_true_eq]at f;obtain⟨⟨⟨⟨⟨rfl,l⟩,y⟩,j⟩,q⟩,n⟩:=f;cases d;obtain⟨elts,M,v,rfl⟩:=Hq l;have I:=yh y;have nb:=yh j;exact LI (g.gl q) (g.bl _ (IH.mp n)) (z i) (z b) (bt I) (bt nb) (gL (by simp[nb]))
 . cases d
noncomputable def PD (sc:Scope)(S:Scope):Scope:={ sc with names:=sc.names.map λ(n,k)=>if(k == .free&&S.kind == .function&&S.names.lookup n == some .cell)then(n,.cell)else(n,k) }
noncomputable def vm:List Str->Bool
 | []=>true|x::r=>!(r.elem x)&&vm r
theorem pA:∀{l:List Str},vm l=true->l.Nodup
 | [],_=>VX|x::r,h=>by simp only[vm,nc,x3]at h;exact D5.mpr (And.intro (λz=>(by rw[IH.mpr z]at h;exact absurd h.1 (by simp))) (pA h.2))
noncomputable def mi (sc:Scope):List Str:=(sc.names.filter λy=>y.2 == .local||y.2 == .cell).map (·.1)
noncomputable def Th (sc:Scope):List Str:=(sc.names.filter λy=>y.2 == .cell).map (·.1)
noncomputable def jO (sc:Scope):List Str:=(sc.names.filter λy=>y.2 == .free).map (·.1)
def gu (c:Cs)(sc:Scope):Cs:=⟨mi sc++jO sc,PD sc c.sc,false,c.mt,Th sc,none⟩
def yi (c:Cs)(sc:Scope):List (Option Nat):=(mi sc).map (λ_=>none)++(jO sc).map (λx=>i_ c.N x)
def Ci (c:Cs)(sc:Scope):Bool:=ug c.sc c.N (mi sc++jO sc) (yi c sc) sc&&vm (mi sc++jO sc)
def EJ (T:Expr->FT):List Expr->FT
 | []=>cC| [t]=>T t|_=>lu
noncomputable def PF (c:Cs):Expr->Bool
 |.Name x _=>c.mt.elem x|_=>false
noncomputable def EK (c:Cs):Expr->Bool
 |.Name x _=>c.mt.elem (th "*" ++ x)|_=>false
def wm (m:G0)(P:Pk)(c:Cs)(a:Bool)(E:Cs->Expr->FE)(T:Cs->Expr->FT)(g:Expr)(n:List ado)(sc:Scope):FE:=match gV n with
 |some (i,it,h)=>if Ci c sc && !(isSet it)then
  (if EK c it||PF c it then bN
  else bC (if a then j4 else bD) (EI m P c (E c) i it) (yi c sc) (oh (gu c sc) (E (gu c sc)) 3 i) (EJ (T (gu c sc)) h) (E (gu c sc) g))else bN
 |none=>bN
def Gd.comp {m:G0}{c:Cs}(g:Gd m c X)(h:vm (mi I++jO I)=true){C:Addr}{s3:mJ}{fp:List Addr}{cv:List (Addr×Obj)}:Gd m (gu c I) (bj X (mi I++jO I) I C s3 H fp cv) where
 hN:=rfl
 hs:=by show ZY I X.env=PD I c.sc;rw[<- g.hs];rfl
 nd:=pA h
 xe:=rfl
 cm:=g.cm
 rm:=g.rm
 al:=λz=>by cases z
 ow:=λx p=>by
  show(I.names.any λy=>y.1 == x&&y.2 == .cell)=true
  obtain⟨y,j,e⟩:=oa.mp (show x∈(I.names.filter λy=>y.2 == .cell).map (·.1) from p)
  rw[Fp]at j;rw[aeQ];exact⟨y,j.1,by rw[e,j.2];simp⟩
 fn:=λx i n hm=>by obtain⟨f,fd,o,a,b,d,e,l⟩:=g.fn x i n hm;exact⟨f,fd,o,a,b,d,e,l⟩
 bl:=g.bl
 cn:=g.cn
 dc:=g.dc
 lf:=g.lf
 ll:=g.ll
 lh:=λ_ _ _ h=>nomatch h
def PH (a:∀e,DT X e (s e)):∀c:List Expr,iw X c (EJ s c)
 | []=>GL| [t]=>GN (a t)|_::_::_=>.of (λg T i H Q I h=>by obtain⟨_,_,_,_,_,_,_,h,_⟩:=h;cases h)
def AE {m:G0}{c:Cs}(g:Gd m c X){E:Cs->Expr->FE}{T:Cs->Expr->FT}(b:∀c X,Gd m c X->∀e,DE X e (E c e))(d:∀c X,Gd m c X->∀e,DT X e (T c e))(h:Ci c I=true){tg elt:Expr}{ifs:List Expr}:
  fF X (mi I++jO I) (yi c I) I /\ ∀C s3 H fp cv,DG (bj X (mi I++jO I) I C s3 H fp cv) tg (oh (gu c I) (E (gu c I)) 3 tg) /\
   iw (bj X (mi I++jO I) I C s3 H fp cv) ifs (EJ (T (gu c I)) ifs)/\DE (bj X (mi I++jO I) I C s3 H fp cv) elt (E (gu c I) elt):=by
 simp only[Ci,nc]at h;refine⟨D8 g.hs g.hN h.1,λC s3 H fp cv=>?_⟩;have a:=g.comp h.2 (C:=C) (s3:=s3) (H:=H) (fp:=fp) (cv:=cv);exact⟨mV a (b _ _ a) 3 tg,PH (d _ _ a) ifs,b _ _ a elt⟩
def yj {m:G0}{c:Cs}(P:Pk)(g:Gd m c X){E:Cs->Expr->FE}{T:Cs->Expr->FT}(d:∀c X,Gd m c X->∀e,DE X e (E c e))(i:∀c X,Gd m c X->∀e,DT X e (T c e)){elt:Expr}:
   DE X (.ListComp elt R I B) (wm m P c Y E T elt R I):=by
 unfold wm;split
 . rename_i tg it ifs b
   obtain rfl:=Jl b;split
   . rename_i h
     simp only[nc,x3]at h;obtain⟨ok,a⟩:=AE g d i h.1 (tg:=tg) (elt:=elt) (ifs:=ifs);split
     . exact bH
     . cases Y
       . exact K1 g.xe g.cm ok (pq P g (d c X g)) a (lQ h.2)
       . exact G_ g.xe g.cm ok (pq P g (d c X g)) a (lQ h.2)
   . exact bH
 . exact bH
def baR (T:Expr->FT)(op:BoolOp):List Expr->FT
 | []=>lu| [a]=>T a
 |a::b::r=>match op with
  |.And=>gX (T a) (baR T .And (b::r))|.Or=>w5 (T a) (baR T .Or (b::r))
noncomputable def xE (P:Pk)(m:G0)(c:Cs)(E:Expr->FE)(a:Bool)(e:Expr):Option FE:=P.xr.findSome? λr=>r.e m c E a e
noncomputable def xT (P:Pk)(m:G0)(c:Cs)(E:Expr->FE)(e:Expr):Option FT:=P.xr.findSome? λr=>r.t m c E e
def Ti (m:G0)(P:Pk)(E:Cs->Bool->Expr->FE)(T:Cs->Expr->FT)(c:Cs)(d:Bool):Expr->FE
 |.Constant v _ _=>EE v|.Name x _=>eName m c x|.BinOp a op b _=>PB op d (Te a) (E c false a) (E c false b)|.UnaryOp op a _=>Vr op (E c false a)|.BoolOp op g _=>bE (E c false) (g.dropLast.any Tf) op g|.IfExp t a b _=>uc (T c t) (E c d a) (E c d b)|.Compare l h rs _=>uz (E c false) l h rs|.Tuple i _ _=>aH ay (aE (E c false) i)|.List i _=>aH (if d then mkRef else dI) (aE (E c false) i)|.Dict n g _=>if n.isEmpty&&g.isEmpty then(if d then kz else fC .dU)else bN|.Subscript v s _=>Hl (E c false) v s|.Call f q n pos=>if n.isEmpty then Cg m P c d (E c false) f q pos else bN|.ListComp p r sc _=>wm m P c d (λc e=>E c false e) T p r sc|_=>bN
def Tj (m:G0)(P:Pk)(E:Cs->Bool->Expr->FE)(T:Cs->Expr->FT)(c:Cs):Expr->FT
 |.Compare l g rs _=>ax (uz (E c false) l g rs)|.UnaryOp op a q=>match op with|.Not=>w6 (T c a)|op=>if nO (.UnaryOp op a q)then gW (E c false (.UnaryOp op a q))else lu
 |.BoolOp op h _=>baR (T c) op h|e=>if nO e then gW (E c false e)else lu
def Cj (m:G0)(P:Pk)(E:Cs->Bool->Expr->FE)(T:Cs->Expr->FT)(c:Cs)(a:Bool)(e:Expr):FE:=match xE P m c (E c false) a e with
 |some f=>f|none=>Ti m P E T c a e
def baD (m:G0)(P:Pk)(E:Cs->Bool->Expr->FE)(T:Cs->Expr->FT)(c:Cs)(e:Expr):FT:=match xT P m c (E c false) e with
 |some f=>f|none=>Tj m P E T c e
def iv (m:G0)(P:Pk):Nat->(Cs->Bool->Expr->FE)×(Cs->Expr->FT)
 | 0=>(λ_ _ _=>bN,λ_ _=>lu)|n+1=>(Cj m P (iv m P n).1 (iv m P n).2,baD m P (iv m P n).1 (iv m P n).2)
theorem ly {j i:Type}{f:j->Option i}:∀{l:List j} {b:i},l.findSome? f=some b->∃a∈l,f a=some b
 | [],_,h=>by cases h
 |a::l,b,h=>by
  rw[List.findSome?_cons]at h;cases g:f a with
  |none=>rw[g]at h;obtain⟨x,d,e⟩:=ly h;exact⟨x,qz _ d,e⟩
  |some c=>rw[g]at h;cases h;exact⟨a,tc,g⟩
def Tn (c:∀e,DT X e (s e)){op:BoolOp}:∀g:List Expr,DT X (.BoolOp op g B) (baR s op g):=by
 have w:∀g:List Expr,g ≠ []->DW X (.BoolOp op g B) (baR s op g):=λg=>by
  induction g with
  |nil=>intro h;exact absurd rfl h
  |cons a r i =>
   intro _;cases r with
   |nil=>cases op;exact KJ (c a);exact Oe (c a)
   |cons b r =>
    have:=i (by simp);cases op
    . exact Of (c a) this
    . exact Su (c a) this
 intro g;cases g with
 |nil=>exact ux|cons a r=>exact(w (a::r) (by simp)).dt
theorem Ck (m:G0)(P:Pk):∀n:Nat,(∀c X,Gd m c X->∀rf e,DE X e ((iv m P n).1 c rf e))/\(∀c X,Gd m c X->∀e,DT X e ((iv m P n).2 c e))
 | 0=>⟨λ_ _ _ _ _=>bH,λ_ _ _ _=>ux⟩
 |n+1=>by
  obtain⟨d,i⟩:=Ck m P n;refine⟨λc X g rf e=>?_,λc X g e=>?_⟩
  . show DE X e (Cj m P (iv m P n).1 (iv m P n).2 c rf e)
    unfold Cj;split
    . rename_i f hf
      obtain⟨r,_,h⟩:=ly hf;exact r.vk g (d c X g false) h
    have b:=d c X g false;cases e with
    |Constant=>exact EF|Name=>exact Hm g|BinOp=>exact LP (b _) (b _)|UnaryOp=>exact PC (b _)|BoolOp=>exact Jm b _|IfExp=>exact Oi (i c X g _) (d c X g rf _) (d c X g rf _)|Compare=>exact LR g.hu b|Tuple=>exact DL (fD b _)
    |List=>cases rf with
      |false=>exact DM (fD b _)|true=>exact w8 (fD b _)
    |Dict p u _=>cases p with
      |cons=>exact bH
      |nil=>cases u with
        |cons=>exact bH
        |nil=>cases rf with
         |false=>exact GS|true=>exact Lw
    |Subscript=>exact LU g.hu b
    |Call f v p pos=>cases p with
      |nil=>exact Hn P g b|cons=>exact bH
    |ListComp=>exact yj P g (λc X g e=>d c X g false e) i|_=>exact bH
  . show DT X e (baD m P (iv m P n).1 (iv m P n).2 c e)
    unfold baD;split
    . rename_i f hf
      obtain⟨r,_,h⟩:=ly hf;exact r.tok g (d c X g false) h
    have j:∀e,DT X e (if nO e then gW ((iv m P n).1 c false e)else lu):=λe=>by
      split
      . rename_i h;exact Od (d c X g false _) (plainT h)
      . exact ux
    cases e with
    |Compare=>exact LS g.hu (d c X g false)
    |UnaryOp op a q=>cases op with
      |Not=>exact Og (i c X g _)|_=>exact j _
    |BoolOp=>exact Tn (i c X g) _|_=>exact j _
def Jo (f:Stmt->FS):List Stmt->FS
 | []=>aR| [s]=>f s|s::t::r=>av (f s) (Jo f (t::r))
noncomputable def Cm (S:Scope):Bool:=(if S.kind.isAnnotationScope then afH else S.kind)== .function
def Cn (S:Scope)(x:Str)(c p:Pos)(sc:Scope):Bool:=Cm S&&S.names.lookup x == some .local&&c.line == p.line && !(sc.names.any λ(n,k)=>n == x&&(k == .local||k == .cell))
noncomputable def IE:Expr->Option Str
 |.Constant v _ _=>match v with|.str k=>some k|_=>none
 |_=>none
def EL (a:List Str):Expr->Bool
 |e=>((nV e).map λx=>a.elem x).getD (((sV e).bind λq=>(IE q.2).map λk=>a.elem (th "=" ++ k)).getD false)
def aZ (E:Bool->Expr->FE)(a:List Str):List Expr->List Expr->FA
 |_,[]=>af| [],v::c=>if isStar v then tG else ae (E false v) (aZ E a [] c)|t::g,v::c=>if isStar v then tG else ae (E (EL a t) v) (aZ E a g c)
def Jp (m:G0)(P:Pk)(c:Cs)(a:Bool)(E:Cs->Expr->FE)(T:Cs->Expr->FT)(g:Expr)(n:List ado)(sc:Scope):FE:=match gV n with
 |some (i,it,h)=>if Ci c sc && !(isSet it)then
  (if EK c it then k_ (if a then j4 else bD) (xM (E c it)) (yi c sc) (oh (gu c sc) (E (gu c sc)) 3 i) (EJ (T (gu c sc)) h) (E (gu c sc) g)
  else bC (if a then j4 else bD) (EI m P c (E c) i it) (yi c sc) (oh (gu c sc) (E (gu c sc)) 3 i) (EJ (T (gu c sc)) h) (E (gu c sc) g))else bN
 |none=>bN
noncomputable def qK (S:Scope)(a:List Expr):List Str:=a.filterMap fun
 |.Name id pos=>if S.names.lookup id == some .local&&pos.line == (a.head?.map (·.pos.line)).getD 0 then some id else none|_=>none
def PJ (S:Scope)(a c:List Expr):Option Bool :=
 if !(a.length == 2||a.length == 3)||c.length != a.length || !(Cm S)then some false
 else if(qK S a).length != a.length||(qK S a).eraseDups.length != (qK S a).length then some false
 else if c.all (foldedForSure 8)then some false
 else if c.all (constantsAlone 8)then none
 else some true
noncomputable def three {d:Type}:List d->Option (d×d×d)
 | [a,b,c]=>some (a,b,c)|_=>none
def yk {d:Type}{l:List d}{a b c:d}(h:three l=some (a,b,c)):l = [a,b,c]:=by
 match l,h with
 | [_,_,_],h=>cases h;rfl
noncomputable def mW (c:Cs)(x:Str):Bool:=c.sc.names.lookup x == some .local
noncomputable def Vv:Expr->Option (Expr×List ado×Scope×Pos)
 |.ListComp c g sc p=>some (c,g,sc,p)|_=>none
def PK (h:Vv e=some (C,R,I,B)):e = .ListComp C R I B:=by
 cases e with
 |ListComp=>cases h;rfl|_=>exact nn h
def Hs (m:G0)(P:Pk)(E:Cs->Bool->Expr->FE)(T:Cs->Expr->FT)(c:Cs)(g v:Expr):FS:=match AB g with
 |some (x,H)=>(match yf c x with
  |some i=>(match Vv v with
   |some (q,B,sc,p)=>aD (if Cn c.sc x H p sc then Jp m P c (c.mt.elem x) (λc e=>E c false e) T q B sc else wm m P c (c.mt.elem x) (λc e=>E c false e) T q B sc) (gN i)|none=>if pg v then cf else aD (E c (c.mt.elem x) v) (gN i))
  |none=>cf)
 |none=>match sV g with
  |some _=>aD (E c (EL c.mt g) v) (oh c (E c false) 3 g)
  |none=>match tV v with
   |some n=>(match tV g with
    |some h=>if n.any isStar then cf else(match PJ c.sc h n with
     |some r=>if r then(match two h,two n with
      |some C,some _=>(match nV C.1,nV C.2 with
       |some x,some y=>(match i_ c.N x,i_ c.N y with|some i,some j=>if qK c.sc h == [x,y]&&mW c x&&mW c y && !(i == j)then mf i j (aZ (E c) c.mt h n)else cf|_,_=>cf)
       |_,_=>cf)
      |_,_=>(match three h,three n with
       |some u,some _=>(match nV u.1,nV u.2.1,nV u.2.2 with
        |some x,some y,some z=>(match i_ c.N x,i_ c.N y,i_ c.N z with|some i,some j,some k=>if qK c.sc h == [x,y,z]&&mW c x&&mW c y&&mW c z && !(i == j) && !(i == k) && !(j == k)then sR i j k (aZ (E c) c.mt h n)else cf|_,_,_=>cf)
        |_,_,_=>cf)
       |_,_=>cf))else aD (aH ay (aZ (E c) c.mt h n)) (oh c (E c false) 3 g)
     |none=>cf)
    |none=>cf)
   |none=>if pg v||mU v||isStar g then cf else aD (E c false v) (oh c (E c false) 3 g)
def Ht (c:Cs)(E:Expr->FE)(g:Expr)(op:Wm)(v:Expr):FS:=match(nV g).bind λx=>yf c x with
 |some i=>(match op with|.Add=>rg i (λi j=>i+j) (E v)|.Sub=>rg i (λi j=>i-j) (E v)|_=>cf)
 |none=>cf
def PL (m:G0)(P:Pk)(W:Nat)(d:Bool)(E:Cs->Bool->Expr->FE)(T:Cs->Expr->FT)(B:List Stmt->FS)(c:Cs):Stmt->FS
 |.Return v _=>(match v with|some e=>aM (E c d e)|none=>cf)
 |.If t a b _=>b9 (T c t) (B a) (B b)|.Assign h v _=>(match h with|g::r=>if r.isEmpty then Hs m P E T c g v else cf| []=>cf)
 |.AugAssign g op v _=>Ht c (E c false) g op v|.For g it body i _=>if isSet it || !i.isEmpty then cf else(match Hr m c g it with|some q=>nF (pZ (E c false q.1) (E c false q.2)) (oh c (E c false) 3 g) (B body)|none=>dB (EI m P c (E c false) g it) (oh c (E c false) 3 g) (B body))
 |.While t body [] _=>zR W (T c t) (B body)|.Pass _=>aR|.Expr e _=>if(IE e).isSome then aR else if pg e then cf else cQ (E c false e)|_=>cf
def sS (m:G0)(P:Pk)(W:Nat)(a:Bool)(E:Cs->Bool->Expr->FE)(T:Cs->Expr->FT)(c:Cs):Nat->Stmt->FS
 | 0,_=>cf|n+1,s=>PL m P W a E T (Jo (sS m P W a E T c n)) c s
def body (m:G0)(P:Pk)(W:Nat)(b:Bool)(c:Cs)(a:List Stmt):FS:=Jo (sS m P W b (iv m P 30).1 (iv m P 30).2 c 12) a
theorem ym {f:Stmt->FS}(h:∀s,DS X s (f s)):∀c:List Stmt,mG X c (Jo f c)
 | []=>KL| [s]=>KN (h s)|s::t::r=>GD (h s) (ym h (t::r))
theorem tL {E:Bool->Expr->FE}{b:List Str}(a:∀rf e,DE X e (E rf e)):∀(g c:List Expr),DA X c (aZ E b g c)
 |_,[]=>by cases ‹List Expr›<;>exact DJ
 | [],v::c=>by
  unfold aZ;split
  . exact uy
  . rename_i h;exact ud (a _ v) (tL a [] c) (bt (by simpa using h))
 |t::g,v::c=>by
  unfold aZ;split
  . exact uy
  . rename_i h;exact ud (a _ v) (tL a g c) (bt (by simpa using h))
def AG {m:G0}{c:Cs}(g:Gd m c X){elt:Expr}{gs:List ado}{sc:Scope}{p px:Pos}{l:Nat}:OJ (.ListComp elt gs sc p) (some (.Name x px)) l X.env=pure (Cn c.sc x px p sc):=by rw[<- g.hs];rfl
def swT {m:G0}{c:Cs}{p:List Expr}{kt k2:Nat}{pt pt2:Pos}(g:Gd m c X)(n:p.any isStar=false)(h:PJ c.sc d p=some Y):TL [.Tuple d kt pt] (.Tuple p k2 pt2) X.env=pure (if Y then some (qK c.sc d)else none):=by
 have i:(p.any fun|.Starred ..=>true|_=>false)=false:=by
   have:(λ(e:Expr)=>match e with|.Starred ..=>true|_=>false)=isStar:=by funext e;cases e<;>rfl
   rw[this];exact n
 have l:(X.env.blockKind != afH)= !(Cm c.sc):=by rw[<- g.hs];rfl
 unfold PJ at h;show(if(!(d.length == 2||d.length == 3)||p.length != d.length||X.env.blockKind != afH)=true then pure none else if(p.any fun|.Starred ..=>true|_=>false)=true then pure none else
   if((qK X.env.scope d).length != d.length||(qK X.env.scope d).eraseDups.length != (qK X.env.scope d).length)=true then pure none else if p.all (foldedForSure 8)=true then pure none else if p.all (constantsAlone 8)=true then _ else pure (some (qK X.env.scope d)))=_
 rw[l,i,g.hs];split at h
 . rename_i b;cases h;rw[if_pos b];rfl
 rename_i b;rw[if_neg b,if_neg (by simp)];split at h
 . rename_i f;cases h;rw[if_pos f];rfl
 rename_i f;rw[if_neg f];split at h
 . rename_i a;cases h;rw[if_pos a];rfl
 rename_i a;rw[if_neg a];split at h
 . cases h
 rename_i j;cases h;rw[if_neg j];rfl
def Jq {c:FG}:DS X m (aD bN c):=.of (λg m i H Q I h=>by obtain⟨_,_,_,_,_,_,_,_,h,_⟩:=h;cases h)
def XO (h:mU C=false):TL [e] C U=pure none:=by
 cases e with
 |Tuple c g p=>cases C<;>first|rfl|cases h
 |List c p=>cases C<;>first|rfl|cases h
 |_=>rfl
def AH (h:isStar e=false):(Dc [e] U).map (·.2)= [Hv e U]:=by rw[rA h];rfl
def Hu:VH [.Subscript e i B] C n U=pure false:=by cases C<;>rfl
def PN:TL [.Subscript e i B] C U=pure none:=by cases C<;>rfl
def LX {m:G0}{c:Cs}(P:Pk)(g:Gd m c X){E:Cs->Bool->Expr->FE}{T:Cs->Expr->FT}(A:∀c X,Gd m c X->∀rf v,DE X v (E c rf v))(B:∀c X,Gd m c X->∀v,DT X v (T c v)){tg:Expr}{p:Pos}:DS X (.Assign [tg] e p) (Hs m P E T c tg e):=by
 have o:∀{x:Str},mW c x=true->X.env.scope.names.lookup x=some .local:=fun {x} h=>by rw[g.hs];exact eq_of_beq h
 unfold Hs;split
 . rename_i x px s
   obtain rfl:=tI s;split
   . rename_i i n
     obtain⟨a,b,d⟩:=uA g n;split
     . rename_i elt gs sc q f
       obtain rfl:=PK f;split
       . rename_i H
         unfold Jp;split
         . rename_i tg it ifs hg
           obtain rfl:=Jl hg;split
           . rename_i h
             simp only[nc,x3]at h;obtain⟨ok,C⟩:=AE g (λc X g v=>A c X g false v) B h.1 (tg:=tg) (elt:=elt) (ifs:=ifs);have hs:=(AG g (elt:=elt) (gs:=[⟨tg,it,ifs,0⟩]) (sc:=sc) (p:=q) (px:=px) (x:=x) (l:=p.line)).trans (by rw[H]);split
             . cases c.mt.elem x
               . exact xQ g.xe g.cm ok (Ao (A c X g false it)) C g.pj a b hs (lQ h.2) d
               . exact xR g.xe g.cm ok (Ao (A c X g false it)) C g.pj a b hs (lQ h.2) d
             cases c.mt.elem x
             . exact BQ g.xe g.cm ok (pq P g (A c X g false)) C g.pj a b hs (lQ h.2) d
             . exact zr g.xe g.cm ok (pq P g (A c X g false)) C g.pj a b hs (lQ h.2) d
           . exact Jq
         . exact Jq
       . rename_i H
         exact DP g.pj a b (yj P g (λc X g v=>A c X g false v) B) ((AG g).trans (by rw[show Cn c.sc x px q sc=false by simpa using H])) d
     . split
       . exact bW
       . rename_i h
         exact DP g.pj a b (A c X g _ _) (yc (by simpa using h)) d
   . exact bW
 . split
   . rename_i q hq
     obtain⟨_,rfl⟩:=Cd hq;exact w9 (A c X g _ _) (mV g (A c X g false) 3 _) Hu PN (AH rfl)
   . split
     . rename_i I f
       obtain⟨k2,pt2,rfl⟩:=Ce f;split
       . rename_i ts ht
         obtain⟨kt,pt,rfl⟩:=Ce ht;split
         . exact bW
         rename_i f;have f:I.any isStar=false:=by simpa using f
         have J:∀l,VH [.Tuple ts kt pt] (.Tuple I k2 pt2) l X.env=pure false:=λ_=>rfl;split
         . rename_i r hp
           have M:=swT (kt:=kt) (k2:=k2) (pt:=pt) (pt2:=pt2) g f hp;cases r with
           |false=>exact w9 (DL (tL (A c X g) ts I)) (mV g (A c X g false) 3 _) (J _) M rfl
           |true =>
             rw[if_pos rfl];split
             . rename_i xy O Q R
               split
               . rename_i x y s U
                 split
                 . rename_i i j n Y
                   split
                   . rename_i h
                     simp only[nc,x3,beq_iff_eq]at h;obtain⟨⟨⟨h1,h2⟩,Z⟩,h4⟩:=h;obtain⟨ex,ey⟩:=xy;obtain⟨a,b⟩:=O;obtain rfl:=tK Q;obtain rfl:=tK R;obtain⟨px,rfl⟩:=jN s;obtain⟨py,rfl⟩:=jN U;exact O0 g.cm g.pj (by rw[g.hN];exact eJ n) (by rw[g.hN];exact eJ Y) (by simpa using h4) (o h2) (o Z) (tL (A c X g) _ _) (M.trans (by rw[if_pos rfl,h1])) (J _)
                   . exact bW
                 . exact bW
               . exact bW
             . split
               . rename_i u O Q R
                 split
                 . rename_i x y z s U hz
                   split
                   . rename_i i j k n Y hk
                     split
                     . rename_i h
                       simp only[nc,x3,beq_iff_eq]at h;obtain⟨⟨⟨⟨⟨⟨h1,h2⟩,Z⟩,h4⟩,h5⟩,h6⟩,h7⟩:=h;obtain⟨ex,ey,ez⟩:=u;obtain⟨a,b,d⟩:=O;obtain rfl:=yk Q;obtain rfl:=yk R;obtain⟨px,rfl⟩:=jN s;obtain⟨py,rfl⟩:=jN U;obtain⟨pz,rfl⟩:=jN hz;exact Ln g.cm g.pj (by rw[g.hN];exact eJ n) (by rw[g.hN];exact eJ Y) (by rw[g.hN];exact eJ hk) (by simpa using h5) (by simpa using h6) (by simpa using h7) (o h2) (o Z) (o h4) (tL (A c X g) _ _) (M.trans (by rw[if_pos rfl,h1])) (J _)
                     . exact bW
                   . exact bW
                 . exact bW
               . exact bW
         . exact bW
       . exact bW
     . split
       . exact bW
       rename_i h;simp only[zg,not_or,VS]at h;exact w9 (A c X g false _) (mV g (A c X g false) 3 _) (yc h.1.1) (XO h.1.2) (AH h.2)
def LY {m:G0}{c:Cs}(g:Gd m c X)(n:∀p,DE X p (E p)):DS X (.AugAssign e o C B) (Ht c E e o C):=by
 unfold Ht;split
 . rename_i i h
   obtain⟨x,j,f⟩:=bind_some h;obtain⟨l,rfl⟩:=jN j;obtain⟨a,b,d⟩:=uA g f;cases o with
   |Add=>exact Eb g.pj a b Nb (n _) d|Sub=>exact Eb g.pj a b Nc (n _) d|_=>exact bW
 . exact bW
def PR (h:(IE e).isSome=true):∃s k p,e = .Constant (.str s) k p:=by
 cases e with
 |Constant v k p=>cases v with
  |str s=>exact⟨s,k,p,rfl⟩|_=>cases h
 |_=>cases h
def LZ {m:G0}{c:Cs}(P:Pk)(g:Gd m c X){E:Cs->Bool->Expr->FE}{T:Cs->Expr->FT}(f:∀c X,Gd m c X->∀rf e,DE X e (E c rf e))(j:∀c X,Gd m c X->∀e,DT X e (T c e)){B:List Stmt->FS}(i:∀b,mG X b (B b))(s:Stmt):
  DS X s (PL m P n Y E T B c s):=by
 have a:Z9 (model X.prog X.w) X.A X.env X.xe:=by rw[g.xe];exact PassesOwn.never
 cases s with
 |Return v p=>cases v with
  |some e=>exact Oj (f c X g _ _)|none=>exact bW
 |If=>exact Sv (j c X g _) (i _) (i _)
 |Assign y v p=>cases y with
  |nil=>exact bW
  |cons x r=>cases r with
    |nil=>exact LX P g f j|cons=>exact bW
 |AugAssign=>exact LY g (f c X g false)
 |For x it body u p =>
  show DS X _ (if isSet it || !u.isEmpty then cf else(match Hr m c x it with|some q=>_|none=>_));split
  . exact bW
  . rename_i h
    simp only[zg,not_or,VS,afG]at h;cases u with
    |cons=>cases h.2
    |nil =>
      split
      . rename_i q d
        exact zV a g.cm (LW g (f c X g false) d) (mV g (f c X g false) 3 _) (i _) (lQ h.1)
      . exact OC a g.cm (pq P g (f c X g false)) (mV g (f c X g false) 3 _) (i _) (lQ h.1)
 |While t body u p=>cases u with
  |nil=>exact GH n a (j c X g _) (i _)|cons=>exact bW
 |Pass=>exact KQ
 |Expr e p =>
  show DS X _ (if(IE e).isSome then aR else if pg e then cf else cQ (E c false e));split
  . rename_i h
    obtain⟨s,k,q,rfl⟩:=PR h;exact Ol
  . split
    . exact bW
    . rename_i h;exact KR (f c X g false _) (yc (by simpa using h))
 |_=>exact bW
def L4 {m:G0}{c:Cs}(P:Pk)(g:Gd m c X)(d:List Stmt):mG X d (body m P n Y c d):=by
 obtain⟨a,b⟩:=Ck m P 30;have:∀W s,DS X s (sS m P n Y (iv m P 30).1 (iv m P 30).2 c W s):=λW=>by
  induction W with
  |zero=>exact λ_=>bW|succ W h=>exact λs=>LZ P g a b (ym h) s
 exact ym (this 12) d
structure bY where
 nm:Str
 ps:List Str
 N:List Str
 st:Stmt
 kp:Bool
 mt:List Str
 pu:Bool
 gn:Str
 ld:Option eA
 lam:Option (Pos×Str)
structure Mo where
 ds:List bY
 jX:List Str
 x5:List (Str×D)
 x6:List (Str×List (Str×D))
 P:Pk
 W:Nat
noncomputable def lS:Nat->List bY->List (Str×Nat×Nat)
 |_,[]=>[]|j,d::ds=>if d.ld.isSome then lS (j+1) ds else(d.gn,j,d.ps.length)::lS (j+1) ds
noncomputable def lT:Nat->List bY->List (Str×Nat)
 |_,[]=>[]|j,d::ds=>if d.ld.isSome then(d.gn,j)::lT (j+1) ds else lT (j+1) ds
noncomputable def mX (ds:List bY):List (Str×eA):=ds.filterMap λd=>d.ld.map λl=>(d.gn,l)
def Mo.g (M:Mo)(T:Nat->Fn)(k:Nat):G0:=⟨T,k,lS 0 M.ds,M.jX,M.x5,M.x6,lT 0 M.ds⟩
def Co (a:Bool)(f:Fn):Fn:=if a then ia f else f
def Mo.tM (M:Mo)(d:bY):Option (Pos×Str×eA):=d.lam.bind λq=>((mX M.ds).lookup q.2).map λl=>(q.1,q.2,l)
def bY.run (M:Mo)(d:bY)(T:Nat->Fn)(k:Nat):Fn:=match d.ld with
 |some l=>cy l.fv.length l.ps.length ((iv (M.g T k) M.P 30).1 ⟨l.fv++l.ps,l.sc,false,[],[],none⟩ false l.bd)|none=>Co d.pu (ak d.kp d.N.length d.ps.length (body (M.g T k) M.P M.W d.kp ⟨d.N,aY d.st,true,d.mt,[],M.tM d⟩ (eu d.st)))
theorem vn:∀{ds:List bY} {j:Nat} {x:Str} {i n:Nat},(x,i,n)∈lS j ds->∃d q,i=j+q/\ds[q]? = some d/\d.ld=none/\d.gn=x/\d.ps.length=n
 | [],_,_,_,_,h=>by simp[lS]at h
 |d::ds,j,x,i,n,h=>by
  unfold lS at h;have rest:(x,i,n)∈lS (j+1) ds->∃e q,i=j+q/\(d::ds)[q]? = some e/\e.ld=none/\e.gn=x/\e.ps.length=n:=λh=>by obtain⟨e,q,f,c,a⟩:=vn h;exact⟨e,q+1,by lia,by simpa using c,a⟩
  split at h
  . exact rest h
  . rename_i b
    rcases nQ.mp h with h|h
    . cases h;exact⟨d,0,rfl,rfl,by simpa using b,rfl,rfl⟩
    . exact rest h
theorem vo:∀{ds:List bY} {j:Nat} {x:Str} {i:Nat},(x,i)∈lT j ds->∃d q l,i=j+q/\ds[q]? = some d/\d.ld=some l/\d.gn=x
 | [],_,_,_,h=>by simp[lT]at h
 |d::ds,j,x,i,h=>by
  unfold lT at h;have rest:(x,i)∈lT (j+1) ds->∃e q l,i=j+q/\(d::ds)[q]? = some e/\e.ld=some l/\e.gn=x:=λh=>by obtain⟨e,q,l,f,c,a⟩:=vo h;exact⟨e,q+1,l,by lia,by simpa using c,a⟩
  split at h
  . rename_i b
    rcases nQ.mp h with h|h
    . cases h
      obtain⟨l,e⟩:=aej.mp b;exact⟨d,0,l,rfl,rfl,e,rfl⟩
    . exact rest h
  . exact rest h
structure UI (M:Mo)(T:Nat->Nat->Fn):Prop where
 z:∀j ds g,T 0 j ds g=none
 s:∀k j d,M.ds[j]? = some d->T (k+1) j=d.run M (T k) k
 sc:∀d∈M.ds,d.ld=none->kC d.N d.ps (aY d.st)
 lc:∀d∈M.ds,∀p x l,M.tM d=some (p,x,l)->l.fv=nL l.sc/\l.ar.defaults = []/\l.ar.kw_defaults = []/\d.nm ++ ".<locals>." ++ "<lambda>" = l.qual /\ ∀y∈l.fv,(aY d.st).names.lookup y=some .cell
 ln:((mX M.ds).map (·.1)).Nodup
 lf:∀d∈M.ds,d.ld=none->d.gn ∉ (mX M.ds).map (·.1)
inductive yn (M:Mo)(T T':Nat->Fn)(k:Nat):Nat->List bY->Prop
 |nil {j:Nat}:yn M T T' k j []
 |cons {j:Nat} {d:bY} {ds:List bY} (h:T' j=d.run M T k) (r:yn M T T' k (j+1) ds):yn M T T' k j (d::ds)
theorem yn.get {M:Mo}{T U:Nat->Fn}{k:Nat}:∀{j:Nat} {ds:List bY},yn M T U k j ds->∀{i:Nat} {d:bY},ds[i]? = some d->U (j+i)=d.run M T k
 |_,_,.nil,_,_,h=>by simp at h|_,_,.cons h r,0,d,e=>by simp at e;subst e;exact h|j,_,.cons h r,i+1,d,e=>by have:=r.get (i:=i) (by simpa using e);rw[show j+(i+1)=j+1+i by lia];exact this
structure wV (M:Mo)(K:KW)(f:Nat->Addr)(fd:Nat->yy):Prop where
 fn:∀j d,M.ds[j]? = some d->d.ld=none->zH K.fr d.nm d.nm d.st (f j) (fd j)/\K.mg d.gn=some (.ref (f j))/\O_ K.fr (fd j) d.ps []
 lt:∀(j:Nat) (d:bY),M.ds[j]? = some d->d.ld=none->∀p x,d.lam=some (p,x)->∃cc P,(fd j).code = .ref cc/\ad4 K.fr cc P=true/\(P,p,d.nm ++ ".<locals>." ++ "<lambda>")∈K.lx.tb
 lm:K.lx.lm=λx=>(mX M.ds).lookup x
 ls:∀(j:Nat) (d:bY) (l:eA),M.ds[j]? = some d->d.ld=some l->wa l
 bl:∀x∈M.jX,K.mg x=none
 cn:∀x d,(x,d)∈M.x5->∃v u,K.mg x=some u/\m5 v u /\ ∀K H ι,Rel K H ι d v
 dc:∀x t,(x,t)∈M.x6->∃a,K.mg x=some (.ref a)/\jM K.w K a t
def UI.len {M:Mo}(G:UI M T){d:bY}(h:M.ds[p]? = some d)(a:d.ld=none):∀ds g r,T n p ds g=some r->ds.length=d.ps.length:=λds g r q=>by
 cases n with
 |zero=>rw[G.z]at q;cases q
 |succ n =>
  rw[G.s n p d h]at q;unfold bY.run at q;rw[a]at q;unfold Co at q;dsimp only at q;split at q
  . exact BX (λ_ _ _=>u9 _ _ _) ds g r q
  . exact u9 ds g r q
def Cp {M:Mo}(G:UI M T)(A:wV M w J Q)(h:(x,l)∈mX M.ds):w.lx.lm x=some l:=by rw[A.lm];exact fO G.ln h
def AI {ds:List bY}{d:bY}(h:ds[n]? = some d)(a:d.ld=some l):(d.gn,l)∈mX ds:=RI.mpr ⟨d,ta h,by rw[a];rfl⟩
def L5 {M:Mo}{f:Nat->Addr}(G:UI M T)(A:wV M w f Q){d:bY}(a:d∈M.ds)(b:d.ld=none):w.lx.lm d.gn=none:=by
 rw[A.lm];show(mX M.ds).lookup d.gn=none;cases e:(mX M.ds).lookup d.gn with
 |none=>rfl|some l=>exact absurd (Pd (f:=(·.1)) (z6 e)) (G.lf d a b)
section
variable {M:Mo}{P:uV}{base:Heap}
theorem EN (G:UI M T)(A:wV M w J Q):∀k,(∀j d,M.ds[j]? = some d->d.ld=none->eE P w.w w.fr w.mg base iT k (J j) (Q j) d.ps (lJ w d.ps.length (T k j))) /\ ∀j d l,M.ds[j]? = some d->d.ld=some l->tw P w base k d.gn (T k j)
 | 0=>⟨λj d h _=>KZ λds g=>G.z j ds g,λj d l h _=>Hh λds g=>G.z j ds g⟩
 |k+1=>by
  obtain⟨ih,ah⟩:=EN G A k;have U:∀{X:Cx},X.prog=P->X.kw=w->X.base=base->(∀x i n,(x,i,n)∈(M.g (T k) k).fns->x_ (M.g (T k) k) X x i n/\X.lx.lm x=none)/\(∀x i,(x,i)∈(M.g (T k) k).Py->(∃l,X.lx.lm x=some l)/\tw X.prog X.kw X.base (M.g (T k) k).k x ((M.g (T k) k).T i)):=fun {X} C O e3=>by
    subst C O e3;refine⟨λx i n b=>?_,λx i b=>?_⟩
    . obtain⟨e,q,v,o,B,R,h4⟩:=vn b
      have v:i=q:=by lia
      subst v R h4;obtain⟨F',mC,n9⟩:=A.fn i e o B;exact⟨⟨J i,Q i,e.ps,ih i e o B,mC,F'.kp,n9,G.len o B⟩,L5 G A (ta o) B⟩
    . obtain⟨e,q,l,v,o,B,R⟩:=vo b
      have v:i=q:=by lia
      subst v R;exact⟨⟨l,Cp G A (AI o B)⟩,ah i e l o B⟩
  refine⟨λj d h c=>?_,λj d l h c=>?_⟩
  . obtain⟨F,hm,hb⟩:=A.fn j d h c
    have hd:=ta h;have S:=G.sc d hd c;have f_:d.ps.length<=d.N.length:=by have:=congrArg aft S.pre;rw[Aq]at this;lia
    have main:eE P w.w w.fr w.mg base iT (k+1) (J j) (Q j) d.ps (lJ w d.ps.length (ak d.kp d.N.length d.ps.length (body (M.g (T k) k) M.P M.W d.kp ⟨d.N,aY d.st,true,d.mt,[],M.tM d⟩ (eu d.st)))):=by
      refine SA F S f_ λY y outer s H E j7 hr=>?_;have r:=U (X:=(nu w.lx iT P w.w w.fr w.mg base d.N d.nm (aY d.st) (J j) Y y outer s H E).wD) rfl rfl rfl;by_cases Z:w.fr.In base
      . have gd:Gd (M.g (T k) k) ⟨d.N,aY d.st,true,d.mt,[],M.tM d⟩ (nu w.lx iT P w.w w.fr w.mg base d.N d.nm (aY d.st) (J j) Y y outer s H E).wD:=⟨rfl,rfl,S.nd,rfl,rfl,hr,λ_ _=>rfl,(λ_ h=>nomatch h),λx i n b=>(r.1 x i n b).1,A.bl,A.cn,A.dc,λx i n b=>(r.1 x i n b).2,r.2,λp x l u=>?_⟩
        . exact L4 M.P gd _
        obtain⟨c2,c3,c4,c5,c6⟩:=G.lc d hd p x l u;obtain⟨⟨p',x'⟩,hq,u⟩:=Option.bind_eq_some_iff.mp u;obtain⟨l',hU,u⟩:=p7.mp u;cases u;have c1:=z6 hU;obtain⟨cc,PP,t1,t2,t3⟩:=A.lt j d h c _ _ hq;rw[c5]at t3;obtain⟨e,ar,ab⟩:=RI.mp c1;obtain⟨l',C,O⟩:=p7.mp ab;cases O;obtain⟨je,aq⟩:=XJ ar;exact⟨Cp G A c1,A.ls je e l aq C,c2,c3,c4,⟨cc,PP,j7.symm.trans t1,ahd Z t2,t3⟩,c5,c6,λ_=>rfl⟩
      . exact .of λcv s' σ H' K I _=>absurd I.ok.mod.rV Z
    rw[G.s k j d h];unfold bY.run;rw[c];unfold Co;dsimp only;split
    . exact Le main
    . exact main
  . rw[G.s k j d h]
    unfold bY.run;rw[c];have S:=A.ls j d l h c;refine Pp S (Cp G A (AI h c)) λcl a cd y outer s H hr=>?_;have r:=U (X:=p_ w.lx P w.w w.fr w.mg base l cl a cd y outer s H) rfl rfl rfl;have gd:Gd (M.g (T k) k) ⟨l.fv++l.ps,l.sc,false,[],[],none⟩ (p_ w.lx P w.w w.fr w.mg base l cl a cd y outer s H):=⟨rfl,rfl,S.nd,rfl,rfl,hr,(λz=>nomatch z),(λ_ h=>nomatch h),λx i n b=>(r.1 x i n b).1,A.bl,A.cn,A.dc,λx i n b=>(r.1 x i n b).2,r.2,λ_ _ _ h=>nomatch h⟩
    exact(Ck (M.g (T k) k) M.P 30).1 _ _ gd false l.bd
end
def Cq (K:o3)(lx:Lx):Sp:=λb H Q _=>∃(a:Addr) (c:List Int),b = [.ref a]/\dQ K H a (c.map V.int)/\c.length<=63/\(∀q∈lx.tb,H q.1=some (.cz q.2.1 q.2.2)) /\ ∀g,Q (.bl true) g
theorem vp {K:KW}{H:Hp}{g:Ix}:∀c:List Int,ai K H g (c.map D.int) (c.map V.int)
 | []=>by simp[ai]|n::c=>by simp only[x8,ai];exact⟨_,_,rfl,by simp[Rel],vp c⟩
def PU {K:KW}(fn:∀g:List Int,g.length<=63->∃u,h [.lst (g.map .int)] []=some (.bl true,u))(x:List V)(H:Hp)(Q:VK)(E:XK)(q:Cq K.fr K.lx x H Q E):lJ K 1 h x H Q E:=by
 obtain⟨a,g,rfl,c,f,n,d⟩:=q;obtain⟨u,o⟩:=fn g f;refine⟨rfl,⟨[],[],λ_=>0⟩,[],[.lst (g.map .int)],.bl true,u,⟨VX,rfl,(λb j=>by cases j),(λi y z=>by simp at z),λq d=>⟨n q d,by simp⟩⟩,?_,o,λl p v e G r=>?_⟩
 . simp only[ai]
   refine⟨_,_,rfl,?_,rfl⟩;simp only[Rel];refine⟨a,_,rfl,?_,vp g⟩;rcases c with c|c
   . exact .inl ⟨c,by simp,by simp⟩
   . exact .inr c
 . simp only[Rel]at r
   rw[r];exact d l
inductive bu (K:o3)(ts:List Addr):List bY->List Addr->List yy->List (Addr×Pos×Str)->Prop
 |nil:bu K ts [] [] [] []
 |cons {nm gn:Str} {ps N:List Str} {st:Stmt} {kp pu:Bool} {mt:List Str} {ds:List bY} {fs:List Addr} {fL:List yy} {tb:List (Addr×Pos×Str)} {f:Addr} {oc:Value} {od an:Option Addr} {sl:Array (Option Value)} {IE dc pm cd ct:Value}
  (a:Rv K uP gn=some (some (.ref f)))
  (l:K.lookup f=some ⟨oc,od,.func (OK nm nm (gE st) (eu st) (aY st) .none IE dc pm an cd ct),sl⟩)
  (e:aew K cd nm=true) (k:Pz K (.ref f)=true)
  (b:∀us:List Value,us.length=ps.length->WE (OK nm nm (gE st) (eu st) (aY st) .none IE dc pm an cd ct) ⟨us,[]⟩=pure (ps.zip us))
  (r:bu K ts ds fs fL tb):bu K ts (⟨nm,ps,N,st,kp,mt,pu,gn,none,none⟩::ds) (f::fs) (OK nm nm (gE st) (eu st) (aY st) .none IE dc pm an cd ct::fL) tb
 |maker {nm gn:Str} {ps N:List Str} {st:Stmt} {kp pu:Bool} {mt:List Str} {ds:List bY} {fs:List Addr} {fL:List yy} {tb:List (Addr×Pos×Str)} {f:Addr} {oc:Value} {od an:Option Addr} {sl:Array (Option Value)} {IE dc pm ct:Value} {cc:Addr} {P:Addr} {p:Pos} {x:Str} {vs:Array Value} {od2:Option Addr} {iR:Array (Option Value)}
  (a:Rv K uP gn=some (some (.ref f)))
  (l:K.lookup f=some ⟨oc,od,.func (OK nm nm (gE st) (eu st) (aY st) .none IE dc pm an (.ref cc) ct),sl⟩)
  (e:aew K (.ref cc) nm=true) (k:Pz K (.ref f)=true)
  (h:K.lookup cc=some ⟨.type "code",od2,.fields vs,iR⟩) (AJ:vs[11]? = some (.ref P)) (hh:ad4 K cc P=true) (o:K.lookup P=none) (m:P∈ts)
  (b:∀us:List Value,us.length=ps.length->WE (OK nm nm (gE st) (eu st) (aY st) .none IE dc pm an (.ref cc) ct) ⟨us,[]⟩=pure (ps.zip us))
  (r:bu K ts ds fs fL tb):bu K ts (⟨nm,ps,N,st,kp,mt,pu,gn,none,some (p,x)⟩::ds) (f::fs) (OK nm nm (gE st) (eu st) (aY st) .none IE dc pm an (.ref cc) ct::fL) ((P,p,nm ++ ".<locals>." ++ "<lambda>")::tb)
 |lam {nm gn:Str} {ps N:List Str} {st:Stmt} {kp pu:Bool} {mt:List Str} {ds:List bY} {fs:List Addr} {fL:List yy} {tb:List (Addr×Pos×Str)} {ld:eA}
  (b:∀(cl:List (Str×Addr)) (pm dG gh:Value) (us:List Value),us.length=ld.ps.length->WE (agU "<lambda>" ld.qual ld.ar ld.bd ld.sc cl pm dG gh) ⟨us,[]⟩=pure (ld.ps.zip us))
  (r:bu K ts ds fs fL tb):bu K ts (⟨nm,ps,N,st,kp,mt,pu,gn,some ld,none⟩::ds) (0::fs) (default::fL) tb
section
variable {f0:Addr}{d0:yy}
theorem bu.all (X:v.In z)(G:z.Ns uP A){ds:List bY}{fs:List Addr}{s:List yy}{tb:List (Addr×Pos×Str)}(L:bu v O ds fs s tb):
  ∀j d,ds[j]? = some d->(d.ld=none->(zH v d.nm d.nm d.st (fs.getD j f0) (s.getD j d0)/\A d.gn=some (.ref (fs.getD j f0))/\O_ v (s.getD j d0) d.ps []) /\ ∀g:List Value,g.length=d.ps.length->WE (s.getD j d0) ⟨g,[]⟩=pure (d.ps.zip g)) /\
   (∀p x,d.lam=some (p,x)->∃cc P,(s.getD j d0).code = .ref cc/\ad4 v cc P=true/\(P,p,d.nm ++ ".<locals>." ++ "<lambda>")∈tb) /\
   ∀l,d.ld=some l->∀(cl:List (Str×Addr)) (u y B:Value) (g:List Value),g.length=l.ps.length->WE (agU "<lambda>" l.qual l.ar l.bd l.sc cl u y B) ⟨g,[]⟩=pure (l.ps.zip g):=by
 induction L with
 |nil=>intro j d z;simp at z
 |cons a l e k b r h =>
  intro j d z;cases j with
  |zero=>cases z;exact⟨λ_=>⟨⟨Dt l e k,afP X G a,.all b⟩,b⟩,λ_ _ K=>nn K,λ_ K=>nn K⟩|succ j=>exact h j d z
 |maker a l e k h1 _ h2 C E b r h =>
  intro j d z;cases j with
  |zero=>cases z;exact⟨λ_=>⟨⟨Dt l e k,afP X G a,.all b⟩,b⟩,λp x K=>by cases K;exact⟨_,_,rfl,h2,tc⟩,λ_ K=>nn K⟩
  |succ j =>
   obtain⟨q,o,n⟩:=h j d z;refine⟨q,λp x K=>?_,n⟩;obtain⟨cc,P,f,i,c⟩:=o p x K;exact⟨cc,P,f,i,qz _ c⟩
 |lam b r h =>
  intro j d z;cases j with
  |zero=>cases z;exact⟨λK=>nn K.symm,λ_ _ K=>nn K,λl K=>by cases K;exact b⟩|succ j=>exact h j d z
end
def bu.out {ds:List bY}(L:bu v t ds O r M):∀q∈M,(∃c,ad4 v c q.1=true)/\v.lookup q.1=none/\q.1∈t:=by
 induction L with
 |nil=>intro q h;cases h|cons a l e k b fs g=>exact g|lam b fs g=>exact g
 |maker a l e k h1 _ h2 i n b fs g =>
  intro q h;cases h with
  |head=>exact⟨⟨_,h2⟩,i,n⟩|tail _ h=>exact g q h
def us0 (h:Z []):∀c:List Value,c.length=0->Z c
 | [],_=>h
def AK (h:∀a c,c.length=n->Z (a::c)):∀c:List Value,c.length=n+1->Z c
 |a::c,e=>h a c (Nat.succ.inj e)
def oj (h:∀a,Z [a]):∀c:List Value,c.length=1->Z c:=AK λa=>us0 (h a)
def oo (h:∀a b,Z [a,b]):∀c:List Value,c.length=2->Z c:=AK λa=>oj (h a)
def mY (h:∀a b c,Z [a,b,c]):∀g:List Value,g.length=3->Z g:=AK λa=>oo (h a)
def Vy (h:∀a b c d,Z [a,b,c,d]):∀g:List Value,g.length=4->Z g:=AK λa=>mY (h a)
def EO (h:∀a b c d e,Z [a,b,c,d,e]):∀g:List Value,g.length=5->Z g:=AK λa=>Vy (h a)
def us6 (h:∀a b c d e f,Z [a,b,c,d,e,f]):∀g:List Value,g.length=6->Z g:=AK λa=>EO (h a)
structure Jr (l:eA):Prop where
 kind:l.sc.kind = .function
 co:l.sc.isCoroutine=false
 gen:l.sc.isGenerator=false
 Jh:∀y∈l.sc.names,y.2 ≠ .cell
 fr:∀x,l.sc.names.lookup x=some .free->x∈l.fv
 fv:∀x∈l.fv,l.sc.names.lookup x=some .free
 ps:∀x∈l.ps,l.sc.names.lookup x=some .local
 nd:(l.fv++l.ps).Nodup
def whole {l:ad2}{K:o3}{fs:Mo}{d:bY}(X:K.In z)(G:z.Ns uP A)(E:fs.ds[n]? = some d)(J:d.ld=none)(I:d.ps = [x])(U:d.gn = "law")(R:A "law" = some (.ref f))(Z:UI fs T)(l0:∀e∈fs.ds,∀l,e.ld=some l->Jr l)(L:bu K t fs.ds O r M)(tn:(M.map (·.1)).Nodup)(Q:∀y∈fs.jX,Rv K uP y=some none)(cn:∀y e,(y,e)∈fs.x5->∃v h,Rv K uP y=some (some h)/\m5 v h /\ ∀K H ι,Rel K H ι e v)(Y:∀y N,(y,N)∈fs.x6->∃a,Rv K uP y=some (some (.ref a)) /\ ∀lx,jM u ⟨K,u,A,lx⟩ a N)(C:∀g:List Int,g.length<=63->∃g',T p n [.lst (g.map .int)] []=some (.bl true,g')):
   ∃(fd:yy) (lx:Lx),TabsOk K t lx/\(∀(s:mJ) (v:Value),ahA s fd ⟨[v],[]⟩ [(x,v)]) /\ ∀base:Heap,K.In base->base.Ns uP A->eE l.prog u K A base iT p f fd [x] (Cq K lx):=by
 have w:wV fs ⟨K,u,A,⟨M,λx=>(mX fs.ds).lookup x⟩⟩ (λj=>O.getD j f) (λj=>r.getD j (r.getD 0 default)):=⟨λj d z b=>((L.all X G j d z).1 b).1,λj d z _ i x b=>(L.all X G (f0:=f) j d z).2.1 i x b,rfl,λj d l z b=>by
   have S:=l0 d (ta z) l b;exact⟨S.kind,S.co,S.gen,S.Jh,S.fr,S.fv,S.ps,S.nd,(L.all X G (f0:=f) (d0:=default) j d z).2.2 l b⟩,λy o=>PySem.W.mg_none_of X G (Q y o),λy e hm=>by
   obtain⟨v,h,fa,B,mg⟩:=cn y e hm;exact⟨v,h,afP X G fa,B,mg⟩,λy N hm=>by
   obtain⟨a,fa,B⟩:=Y y N hm;exact⟨a,afP X G fa,B _⟩⟩
 obtain⟨F,hm,tb⟩:=w.fn n d E J;rw[U]at hm;have e:O.getD n f=f:=by have:=hm.symm.trans R;injection this with this;injection this
 refine⟨r.getD n (r.getD 0 default),⟨M,λx=>(mX fs.ds).lookup x⟩,⟨λq c=>(L.out q c).1,λq c=>(L.out q c).2.1,λq c=>(L.out q c).2.2,tn⟩,λs v=>.of_eq ?_,λbase _ _=>?_⟩
 . have:=((L.all X G (f0:=f) (d0:=r.getD 0 default) n d E).1 J).2 [v] (by rw[I];rfl)
   rw[this,I];rfl
 have ok:=(EN (P:=l.prog) (base:=base) Z w p).1 n d E J;dsimp only at ok;rw[e,I]at ok;exact eE.imp ok (PU (K:=⟨K,u,A,⟨M,λx=>(mX fs.ds).lookup x⟩⟩) C)
end
section
open PySem.SeqAt PyProof.Rows PySem.W
section
variable {N:Nat}(hN:0<N)
include hN
end
end
section
open PyProof.Rows
variable {Z:Nat->Nat->Fn}{Y:List bY}{M:Mo}
def XQ:qb:=⟨"len",bL,λ_ _=>.inl ⟨_,OM,PySem.boot_len⟩⟩
def XR:qb:=⟨"int",iZ,λ_ _=>.inr ⟨_,OO,aij⟩⟩
def PV:qb:=⟨"tuple",gZ,λ_ _=>.inr ⟨_,OP,ahR⟩⟩
noncomputable def kB (a c:Fn):Fn:=λds g=>match ds with| [_,_]=>a ds g|_=>c ds g
def ER {c:Fn}(f:dY X T (mF X.kw h))(e:dY X T (mF X.kw c)):dY X T (mF X.kw (kB h c)):=by
 intro i s n H u v Q I r q;obtain⟨x,g,ds,d,b,G0,a,q,p⟩:=q;unfold kB at q;split at q
 . exact f i s n H u v Q I r ⟨x,g,_,d,b,G0,a,q,p⟩
 . exact e i s n H u v Q I r ⟨x,g,_,d,b,G0,a,q,p⟩
def To:qb:=⟨"min",kB me i0,λa b=>.inl ⟨_,ER (ON b) (Ll a.hd),boot_min⟩⟩
def Tp:wg:=⟨"get",ky,k9,λa=>⟨_,_,O9 a.units⟩⟩
noncomputable def isRef:D->Bool
 |.ref _=>true|_=>false
def yo {g:Ix}{x:V}(I:mH X b y H c)(G0:aw X.kw H g a)(r:Rel X.kw H g v x)(i:m5 x T)(h:isRef v=true):
  c.TypeIs T "list" /\ ∀s,T = .ref s->∃p,c.heap.get? s=some p/\p.dict=none:=by
 cases v with
 |ref n =>
  obtain⟨s,rfl,q⟩:=r;have e:n<a.length:=by rw[<- G0.len];exact(nz.mp q.1).1
  obtain⟨u,f,_⟩:=G0.at (nP e) q;exact Dp I i (.inl ⟨rfl,u,.of f⟩)
 |_=>cases h
def bZ (d:D)(ds:List D)(g:G):Option (D×G):=match d,ds with
 |.ref n,[x]=>(g[n]?).bind λc=>if az (c.length+1)=true then some (.aB,g.set n (c ++ [x]))else none|_,_=>none
def ES:MR X "list" "append" "list.append" isRef bZ where
 pa:=agr
 slot:=PySem.F.slot_list_append
 ty:=PySem.F.type_list_append
 is:=yo
 run:=by
  intro cv s σ H x xs v us Q I f rs q;obtain⟨ι,g,d,ds,u,r,G0,h,rl,l,q,p⟩:=q;cases d with
  |ref n =>
   match ds,q,rl with
   | [y],q,rl =>
    simp only[bZ]at q;obtain⟨o,i,q⟩:=bind_some q;split at q
    . rename_i j
      cases q;obtain⟨a,rfl,c⟩:=h;obtain⟨w,_,rfl,b,rfl⟩:=rl;obtain⟨ws,hw,e⟩:=G0.at i c;refine uY cv s σ H _ _ v us Q I f rs ⟨a,ws,w,rfl,rfl,hw,?_,?_⟩
      . have:=az.le j;rw[<- e.length];lia
      . exact p _ ι _ (Ext.put c hw) (G0.put c hw (ai.append e (by simp only[ai];exact⟨_,_,rfl,b,rfl⟩))) (by simp[Rel])
    . cases q
   | [],q,_=>cases q|_::_::_,q,_=>cases q
  |_=>cases l
def Hw:wg:=⟨"append",isRef,bZ,λ_=>⟨_,_,ES⟩⟩
def ET (E:Expr->FE)(c:List Expr):FI:=match c with
 | [a]=>dR (aE E [a])| [a,b]=>UN (aE E [a,b])|_=>ya
def L6:Cf where
 nm:="range"
 tup:=false
 f:=ET
 ok:=λi h hm e d c _=>by
  rename_i X k E j as p pos;unfold ET;split
  . rename_i a
    simp only[BG,List.any_nil,afL]at c;exact Sy e hm (fD d _) (bt c)
  . rename_i a b
    simp only[BG,List.any_nil,afL,Ik]at c;exact Sz e hm (fD d _) (by rw[bt c.1,bt c.2];rfl) (bt c.2)
  . exact Ay
def Tq:Cf where
 nm:="zip"
 tup:=true
 f:=λE as=>s_ (aE E as)
 ok:=λj l hm d c a b=>by
  rename_i X k E i as p pos;have:=b rfl;cases as with
  |nil=>exact .of (λcv s σ H R I h=>by obtain⟨_,_,_,_,_,_,_,h,_⟩:=h;cases h)
  |cons e es =>
   rw[BG,Ik]at a;cases i with
   |Tuple elts kt tp=>exact LH d hm (fD c _) (bt a.1) (gL a.2)|_=>cases this
noncomputable def Hx (x:Str):Option Ty:=if x == "int" then some .int else if x == "bool" then some .bool else if x == "str" then some .str else if x == "tuple" then some .tuple else if x == "list" then some .list else if x == "dict" then some .dict else none
def L7 {T:Ty}(h:Hx x=some T):x=th T.name:=by
 unfold Hx at h
 split at h;· rename_i e;cases h;exact eq_of_beq e
 split at h;· rename_i e;cases h;exact eq_of_beq e
 split at h;· rename_i e;cases h;exact eq_of_beq e
 split at h;· rename_i e;cases h;exact eq_of_beq e
 split at h;· rename_i e;cases h;exact eq_of_beq e
 split at h;· rename_i e;cases h;exact eq_of_beq e
 cases h
noncomputable def yp:G0->Cs->(Expr->FE)->Expr->Option FT:=λ_ _ _ _=>none
def Vz (x:Expr):Option (Str×Expr×Str):=(cV x).bind λq=>(two q.2).bind λr=>(nV r.2).map λt=>(q.1,r.1,t)
def PX {t:Str}(h:Vz e=some (x,C,t)):∃p g pos,e = .Call (.Name x p) [C,.Name t g] [] pos:=by obtain⟨⟨i,u⟩,q,a⟩:=bind_some h;obtain⟨⟨n,l⟩,r,c⟩:=bind_some a;obtain⟨j,b,d⟩:=p7.mp c;cases d;obtain⟨p,pos,rfl⟩:=we q;obtain rfl:=tK r;obtain⟨g,rfl⟩:=jN b;exact⟨p,g,pos,rfl⟩
def XS:lR where
 e:=λm c E _ x=>(Vz x).bind λq=>if q.1 == "isinstance" && c.sc.names.lookup q.1 == some .globalImplicit&&c.sc.names.lookup q.2.2 == some .globalImplicit&&m.jX.elem q.1&&m.jX.elem q.2.2 && !(isStar q.2.1)then(Hx q.2.2).map λT=>BR T (E q.2.1)else none
 vk:=by
  intro m c X E g d v x f h;obtain⟨⟨z,a,t⟩,v1,b⟩:=bind_some h;obtain⟨p,y,pos,rfl⟩:=PX v1;dsimp only at b;split at b
  . rename_i i
    simp only[nc,beq_iff_eq,x3]at i;obtain⟨⟨⟨⟨⟨r,n⟩,j⟩,l⟩,s⟩,o⟩:=i;obtain⟨T,u,h⟩:=p7.mp b;subst h;have e:=L7 u;subst r;subst e;exact OQ T (g.bl _ (IH.mp l)) (g.bl _ (IH.mp s)) (d a) (g.gl n) (g.gl j) (bt o)
  . cases b
 t:=yp
 tok:=by intro m c X E g d x f h;cases h
def EU (d:bY):Bool:=d.ld.isSome||(
 decide ((aY d.st).kind = .function) && !(aY d.st).isCoroutine && !(aY d.st).isGenerator&&vm d.N&&decide (d.N.take d.ps.length=d.ps) &&
 d.ps.all (λx=>(aY d.st).names.lookup x == some .local||(aY d.st).names.lookup x == some .cell)&&(aY d.st).names.all (λy=>!(y.2 == .free)))
def AL (ds:List bY):Bool:=ds.all EU
def EV (h:AL Y=true):∀d∈Y,d.ld=none->kC d.N d.ps (aY d.st):=λd hd i=>by have:=Js.mp h d hd;unfold EU at this;rw[i]at this;simp only[ahv,Bool.false_or,nc,decide_eq_true_eq,x3,Js,zg,beq_iff_eq]at this;obtain⟨⟨⟨⟨⟨⟨f,o⟩,c⟩,n⟩,j⟩,a⟩,l⟩:=this;exact⟨f,o,c,pA n,j,a,λy b e=>by have:=l y b;rw[e]at this;simp at this⟩
def PY (l:eA):Bool:=decide (l.sc.kind = .function) && !l.sc.isCoroutine && !l.sc.isGenerator&&l.sc.names.all (λy=>!(y.2 == .cell))&&l.sc.names.all (λy=>!(y.2 == .free)||l.fv.elem y.1) &&
 l.fv.all (λx=>l.sc.names.lookup x == some .free)&&l.ps.all (λx=>l.sc.names.lookup x == some .local)&&vm (l.fv++l.ps)
def Ju (ds:List bY):Bool:=ds.all λd=>match d.ld with|some l=>PY l|none=>true
def L8 (h:Ju Y=true):∀d∈Y,∀l,d.ld=some l->Jr l:=λd hd l i=>by have:=Js.mp h d hd;rw[i]at this;simp only[PY,nc,decide_eq_true_eq,x3,Js,zg,beq_iff_eq]at this;obtain⟨⟨⟨⟨⟨⟨⟨f,q⟩,c⟩,p⟩,j⟩,a⟩,n⟩,r⟩:=this;exact⟨f,q,c,λy b e=>by have:=p y b;rw[e]at this;simp at this,λx o=>(j _ (z6 o)).elim (λz=>by simp at z) λz=>IH.mp z,a,n,pA r⟩
def PZ (M:Mo):Bool:=M.ds.all (λd=>match M.tM d with
 |some (_,_,l)=>decide (l.fv=nL l.sc)&&l.ar.defaults.isEmpty&&l.ar.kw_defaults.isEmpty&&decide (d.nm ++ ".<locals>." ++ "<lambda>" = l.qual)&&l.fv.all (λy=>(aY d.st).names.lookup y == some .cell)|none=>true)&&vm ((mX M.ds).map (·.1))&&M.ds.all (λd=>d.ld.isSome || !((mX M.ds).map (·.1)).elem d.gn)
def L9 (z:∀j ds g,Z 0 j ds g=none)(r:∀k,yn M (Z k) (Z (k+1)) k 0 M.ds)(s:AL M.ds=true)(q:PZ M=true):UI M Z:=by
 simp only[PZ,nc,Js]at q;obtain⟨⟨q,n⟩,o⟩:=q;refine⟨z,λk j d h=>by simpa using (r k).get h,EV s,λd hd p x l i=>?_,pA n,λd hd i m=>?_⟩
 . have:=q d hd
   rw[i]at this;simp only[nc,decide_eq_true_eq,Js,beq_iff_eq,aeT]at this;obtain⟨⟨⟨⟨a,b⟩,c⟩,e⟩,f⟩:=this;exact⟨a,b,c,e,f⟩
 . have:=o d hd
   rw[i,IH.mpr m]at this;simp at this
noncomputable def Jv:List Addr->Bool
 | []=>true|x::r=>!(r.elem x)&&Jv r
theorem EW:∀{l:List Addr},Jv l=true->l.Nodup
 | [],_=>VX|x::r,h=>by simp only[Jv,nc,x3]at h;exact D5.mpr (And.intro (λz=>(by rw[IH.mpr z]at h;exact absurd h.1 (by simp))) (EW h.2))
def At (K:o3)(b:List Addr)(w:World)(mg:Str->Option Value)(M:Mo):Prop:=∃fs c tb,bu K b M.ds fs c tb/\Jv (tb.map (·.1))=true/\(∀y∈M.jX,Rv K uP y=some none) /\
 (∀y e,(y,e)∈M.x5->∃v u,Rv K uP y=some (some u)/\m5 v u /\ ∀K H g,Rel K H g e v) /\
 (∀y t,(y,t)∈M.x6->∃a,Rv K uP y=some (some (.ref a)) /\ ∀lx,jM w ⟨K,w,mg,lx⟩ a t)
def L_ {l:ad2}{y:List Str}{I:(Str->Option Value)->Heap->Prop}{E:World->Heap->Prop}{d:DefRec}{K:Params->o3}{i R:Nat}{dt:bY}(X:l.most=some 63)(W:dM R Vx)(N:d.params.defaults = [])(Y:d.name = "law")(J:∀(w:World) (h:Heap),E w h->(K w.params).In h /\ ∀P∈O,h.get? P=some (VG #[]))(F:∀(w:World) (mg:Str->Option Value) (h:Heap),(K w.params).In h->h.Ns uP mg->At (K w.params) O w mg M)(H:M.ds[i]? = some dt)(vq:dt.ld=none)(S:dt.ps = [x])(Q:dt.gn = "law")(U:UI M Z)(T:Ju M.ds=true)(A:∀g:List Int,g.length<=63->∃g',Z R i [.lst (g.map .int)] []=some (.bl true,g')):
  ag_ q y I E l.row.toRowW d [] (λf vs=>agZ f vs):=
 Ku (n:=63) (k:=R) (x:=x) (CX:=λ_=>iT) (sp:=λw j=>Cq (K w.params) j) X (by decide) N W J
  (λw mg u h b G c=>by obtain⟨fs,v,tb,L,o,B,C,r⟩:=F w mg h b G;rw[Y]at c;exact whole b G H vq S Q c U (L8 T) L (EW o) B C r A)
  (λ_ _ _ a g e p s=>⟨a,g,rfl,p,e,s,λ_=>rfl⟩) λ_ _ _ _ _ z=>z
section
variable {α β:Type}{P:α->Prop}{Q:α->β->Prop}
def bn:∀y∈([]:List α),P y:=λy h=>by simp at h
def bc {x:α}{l:List α}(h:P x)(r:∀y∈l,P y):∀y∈x::l,P y:=λy z=>by
 rcases nQ.mp z with rfl|z
 . exact h
 . exact r y z
def VA:∀y e,(y,e)∈([]:List (α×β))->Q y e:=λy e h=>by simp at h
def cc {x:α}{d:β}{l:List (α×β)}(h:Q x d)(r:∀y e,(y,e)∈l->Q y e):∀y e,(y,e)∈(x,d)::l->Q y e:=λy e z=>by
 rcases nQ.mp z with z|z
 . cases z;exact h
 . exact r y e z
end
def Hy (m:G0)(c:Cs)(x:Str):Option (List (Str×D)):=if jA x then none else if c.sc.names.lookup x=some .globalImplicit then m.x6.lookup x else none
def Ma {m:G0}{c:Cs}(g:Gd m c X){t:List (Str×D)}(h:Hy m c x=some t):(x == ("__debug__":Str))=false/\Gl X x /\ ∃a,X.mg x=some (.ref a)/\jM X.w X.kw a t:=by
 unfold Hy at h;split at h
 . cases h
 . rename_i b
   split at h
   . rename_i d
     exact⟨(ph (by simpa using b)).1,g.gl d,g.dc x t (lookup_mem h)⟩
   . cases h
noncomputable def VB:Expr->Option (Expr×Str×Pos)
 |.Attribute o x p=>some (o,x,p)|_=>none
noncomputable def one {b:Type}:List b->Option b
 | [a]=>some a|_=>none
def P1 {b:Type}{l:List b}{a:b}(h:one l=some a):l = [a]:=by
 cases l with
 |nil=>cases h
 |cons x l=>cases l with
  |nil=>cases h;rfl|cons=>cases h
def P2 (h:VB e=some (C,x,B)):e = .Attribute C x B:=by
 cases e with
 |Attribute=>cases h;rfl|_=>exact nn h
def VC (e:Expr):Option (Str×Expr):=(sV e).bind λu=>(nV u.1).map λC=>(C,u.2)
def P4 (h:VC e=some (x,C)):∃g p4,e = .Subscript (.Name x p4) C g:=by obtain⟨⟨o,c⟩,a,h⟩:=bind_some h;obtain⟨d,b,h⟩:=p7.mp h;cases h;obtain⟨g,rfl⟩:=Cd a;obtain⟨p4,rfl⟩:=jN b;exact⟨g,p4,rfl⟩
def VD (e:Expr):Option (Expr×Str×Pos×Expr×Pos):=(ED e).bind λq=>(VB q.1).bind λr=>(one q.2.1).map λy=>(r.1,r.2.1,r.2.2,y,q.2.2)
def P5 {y:Expr}{pos:Pos}(h:VD e=some (C,x,B,y,pos)):e = .Call (.Attribute C x B) [y] [] pos:=by obtain⟨⟨f,g,p⟩,d,h⟩:=bind_some h;obtain⟨⟨l,i,a⟩,b,h⟩:=bind_some h;obtain⟨j,c,h⟩:=p7.mp h;cases h;obtain rfl:=tJ d;obtain rfl:=P2 b;obtain rfl:=P1 c;rfl
def VE (x:Expr):Option (Str×Expr×Str×Pos×Expr×Pos):=(VD x).bind λq=>(VC q.1).map λr=>(r.1,r.2,q.2)
def P6 {y:Expr}{nm:Str}{pos:Pos}(h:VE e=some (x,C,nm,B,y,pos)):∃g p4,e = .Call (.Attribute (.Subscript (.Name x p4) C g) nm B) [y] [] pos:=by obtain⟨⟨o,d,a,i,pos'⟩,b,h⟩:=bind_some h;obtain⟨⟨f,k⟩,c,h⟩:=p7.mp h;cases h;obtain rfl:=P5 b;obtain⟨g,p4,rfl⟩:=P4 c;exact⟨g,p4,rfl⟩
def Tr:lR where
 e:=λm c E _ x=>(VE x).bind λq=>if !(q.2.2.1 == "index")||wc q.2.1||isStar q.2.2.2.2.1 || !(q.2.2.2.1.endLine == q.2.2.2.2.2.line)then none else(Hy m c q.1).map λt=>BZ t (E q.2.1) (E q.2.2.2.2.1)
 vk:=by
  intro m c X E g d r x f h;obtain⟨⟨C,k,nm,ap,y,pos⟩,v1,b⟩:=bind_some h;obtain⟨s,u,rfl⟩:=P6 v1;dsimp only at b;split at b
  . cases b
  . rename_i i
    simp only[zg,not_or,x3,afY,VS]at i;obtain⟨⟨⟨s1,s2⟩,s3⟩,s4⟩:=i;have s1:=eq_of_beq s1;subst s1;obtain⟨t,j,rfl⟩:=p7.mp b;obtain⟨p,o,a,l,n⟩:=Ma g j;refine Lh n l (d _) (d _) o (AA s2) p (baseOk rfl) ?_ s4 (bt s3);rw[yd (by rw[BG,s3];rfl)];rfl
 t:=yp
 tok:=by intro m c X E g d x f h;cases h
def jB (d:D)(ds:List D)(g:G):Option (D×G):=match d,ds with
 |.ref n,[e]=>(g[n]?).bind λc=>(fB e g).bind λzs=>if az (c.length+zs.length)=true then some (.aB,g.set n (c++zs))else none|_,_=>none
def EX:MR X "list" "extend" "list.extend" isRef jB where
 pa:=agr
 slot:=PySem.F.slot_list_extend
 ty:=PySem.F.type_list_extend
 is:=yo
 run:=by
  intro cv s σ H x xs v us Q I j rs q;obtain⟨ι,g,d,ds,d',g',G0,l,rl,hT,q,p⟩:=q;unfold jB at q;split at q
  . rename_i n e
    obtain⟨ys,o,q⟩:=bind_some q;obtain⟨zs,c,q⟩:=bind_some q;split at q
    . rename_i y
      cases q;obtain⟨a,rfl,f⟩:=l;obtain⟨w0,_,rfl,z,rfl⟩:=rl;obtain⟨ws,hw,h⟩:=G0.at o f;obtain⟨b,r,rfl,u,i⟩:=iy G0 z c;have:=az.le y;refine B1 cv s σ H _ _ v us Q I j rs ⟨a,b,ws,r,rfl,rfl,hw,u,by rw[<- h.length,<- i.length];lia,?_⟩;exact p _ ι _ (Ext.put f hw) (G0.put f hw (ai.append h i)) (by simp[Rel])
    . cases q
  . cases q
def Hz:wg:=⟨"extend",isRef,jB,λ_=>⟨_,_,EX⟩⟩
end
section
noncomputable def rl (x:Nat):Nat:=(x*2147483648) % 18446744073709551616+x / 8589934592
noncomputable def gx (w:Nat):Nat:=let y:=((w+18446744073709551616-2870177450013471924) % 18446744073709551616)*614540362697595703 % 18446744073709551616;y % 2147483648*8589934592+y / 2147483648
noncomputable def out (w:Nat):Int:=if(w == 18446744073709551616-1)=true then 1546275796 else if w<9223372036854775808 then(w:Int)else(w:Int)-18446744073709551616
end
set_option maxRecDepth 10000
section
def el (a b:Int):[a,b].length=2:=rfl
def ec:((18446744073709551616:Nat):Int)=18446744073709551616:=rfl
end
section
open PyProof.Rows
noncomputable def ja (R:Str->Option Fn)(i:Nat)(fr:FA):FE:=λc g=>match c[i]? with
 |some (some (.fn y ds))=>(R y).bind λfn=>(fr c g).bind λq=>fn (ds++q.1) q.2|_=>none
def VF (m:G0):Str->Option Fn:=λy=>match m.fns.lookup y with
 |some q=>some (m.T q.1)|none=>(m.Py.lookup y).map λi=>dw (m.T i)
def P7:lR where
 e:=λm c E _ x=>match x with
  |.Call (.Name y _) (a::as) [] _=>if jA y||(a::as).any isStar || !(wj (c.sc.names.lookup y))then none else(i_ c.N y).map λi=>ja (VF m) i (aE E (a::as))|_=>none
 vk:=by
  intro m c X E g hE rf x f h;split at h
  . rename_i y p a as pos
    split at h
    . cases h
    . rename_i hh
      simp only[zg,not_or,VS,x3,afY]at hh;obtain⟨⟨h1,h2⟩,h3⟩:=hh;obtain⟨i,hi,rfl⟩:=p7.mp h;obtain⟨o1,o2,_⟩:=ph h1;rw[BG,Ik]at h2;have hN:X.N[i]? = some y:=by rw[g.hN];exact eJ hi
      have hv:CW X.env.scope y:=by
        rw[g.hs];unfold wj at h3;split at h3
        . rename_i e;exact .inl e
        . rename_i e;exact .inr (.inl e)
        . rename_i e;exact .inr (.inr e)
        . cases h3
      refine .of (λcv s σ H Q I o=>?_);obtain⟨ι,σd,g0,d,g',G0,S0,o,pp⟩:=o;unfold ja at o;split at o
      . rename_i z dz hz
        obtain⟨fn,qu,o⟩:=bind_some o;obtain⟨v,hσ,rv⟩:=S0.2 i _ hz;obtain⟨fa,ic,rfl,hV,rc⟩:=rv;obtain⟨mm,hn,tF⟩:=I.loc;obtain⟨u,r,l⟩:=tF i y _ hN hσ hv;cases r;have load:∀{Q:Value->mJ->Prop} {E:Value->mJ->Prop},Q (.ref fa) s->wpAny (model X.prog X.w) X.A (eval (.Name y p) X.env) Q E s:=λfin=>by
          rcases l with⟨hk,hm⟩|⟨hk,c,hc,gB⟩
          . exact ae1 (ae2 I.ok.kind hk hn hm fin) o1
          . rcases hk with hk|hk
            . exact ae1 (afd I.ok.kind hk hc gB fin) o1
            . exact ae1 (ahc I.ok.kind hk hc gB fin o2) o1
        unfold VF at qu;split at qu
        . rename_i jn hl
          obtain⟨j,n⟩:=jn;cases qu;obtain⟨ah,fd,ps,ok,hm,kp,b,ln⟩:=g.fn z j n (lookup_mem hl);rcases hV with⟨rfl,_,mC⟩|⟨l',_,_,_,_,hU,_⟩
          . have e:dz = []:=by
              have:=rc.length;exact acq.mp (by simpa using this)
            subst e;have mC:X.mg z=some (.ref fa):=mC;rw[hm]at mC;cases mC;have q2:vT (lJ X.kw n (m.T j)) [] E0 (iW X.kw (aE E (a::as))) σ H Q:=qU ln ⟨ι,σd,g0,d,g',G0,S0,o,pp⟩;refine Sw (load ?_);refine afA (h₀:=X.base) I.ok.mod.rV kp (aX ((fD hE (a::as)).un pos cv s σ H _ I q2) λus s1 ⟨vs,H1,I1,r,q⟩=>⟨I1.g_,?_⟩) (bt h2.1) (gL h2.2);exact wH ok g.rm b .nil BH I1 r q
          . have hU:X.lx.lm z=some l':=hU
            rw[g.lf z j n (lookup_mem hl)]at hU;cases hU
        . obtain⟨j,hl,rfl⟩:=p7.mp qu
          obtain⟨⟨l0,ab⟩,ok⟩:=g.ll z j (lookup_mem hl);obtain⟨⟨es,g1⟩,h4,h5⟩:=bind_some o;rcases hV with⟨_,hU,_⟩|C
          . have hU:X.lx.lm z=none:=hU
            rw[ab]at hU;cases hU
          . have EZ:∀{s':mJ} {H':Hp} {σ':m6},mH X cv σ' H' s'->∀{ι':Ix} {IZ:List V},DD X.kw H' ι' z fa IZ->PySem.W.FnAt fa s'.heap:=fun {s' H' σ'} I' {ι' IZ} C'=>by
              obtain⟨_,_,_,_,_,_,hf,_⟩:=C';exact⟨_,_,_,_,(I'.aW fa _ hf.1).1⟩
            refine Sw (load ?_);refine PySem.W.callWith_F (EZ I C) (aX ((fD hE (a::as)).un pos cv s σ H (λvs H1=>∃ι1,Ext H ι H1 ι1/\aw X.kw H1 ι1 g1/\ai X.kw H1 ι1 es vs) I ⟨ι,σd,g0,es,g1,G0,S0,h4,λH1 ι1 vs e1 G1 r1=>⟨ι1,e1,G1,r1⟩⟩) λus s1 aS=>?_) (bt h2.1) (gL h2.2);obtain⟨vs,H1,I1,r,ι1,e1,G1,r1⟩:=aS;have C1:DD X.kw H1 ι1 z fa ic:=by obtain⟨l,c,gh,pm,cl,q1,q2,q3,q4,q5,q6⟩:=C;exact⟨l,c,gh,pm,cl,q1,q2.ext e1,q3.ext e1,q4,q5,q6.mono λc u z q=>q.ext e1⟩
            refine⟨EZ I1 C1,agV (V8 (ok.run X.A X.stack s1 H1 ι1 fa ic vs us Q dz es d g1 g' g.rm I1.Gj C1 r G1 (ai.ext e1 _ rc) r1 h5 (pp.mono e1)) λrr s' o=>?_)⟩;cases rr with
            |error e=>exact o.elim
            |ok fl =>
              cases fl with
              |ret u=>exact I1.after o|next=>exact CZ o|brk=>exact CZ o|cont=>exact CZ o
      . cases o
  . cases h
 t:=yp
 tok:=by intro m c X E g hE x f h;cases h
noncomputable def dr (d:D)(g:G):D:=match d with
 |.ref n=>(match g[n]? with|some c=>.lst c|none=>.ref n)
 |d=>d
end
namespace PyProof.Rows
variable {Z:Array Value}
def HA {out:Array Value}(h:z.get? f=some (RV "list" M.toArray n)):∃c,(ag5 z f M out).get? f=some (RV "list" out c):=by unfold ag5;have e:f<z.objs.size:=n7 h;have b:=get?_update_seq h (λ_=>#[]);have d:=nU (RV "list" #[] 0) (nU (RV "tuple" M.toArray 0) b);exact⟨_,get?_update_seq d (λ_=>out)⟩
def E2 {b:Addr}{o:Obj}(c:b≠f)(e:z.get? b=some o):(ag5 z f M Z).get? b=some o:=by unfold ag5;rw[acC _ _ c.symm];exact nU _ (nU _ ((acC _ _ c.symm).trans e))
def E3 {ns:List Int}(y:ns.length<64)(v:∀(H:qr) (M:Value->mJ->Prop) (I:List Value->mJ->Prop),H.handled=J.handled->(∀(g:Heap) (C:Nat) (B:List Value),(∀b o,c.heap.get? b=some o->g.get? b=some o)->c.heap.objs.size<=g.objs.size->BJ B ns->I B { c with heap:=g,toks:=C })->wpAny (model q u) H (D4 T) I M c)(h:∀(g:Heap) (C L w:Nat) (out:Array Value),(∀b o,c.heap.get? b=some o->g.get? b=some o)->c.heap.objs.size<=L->g.get? L=some (RV "list" out w)->BJ out.toList (Uy ns)->Q (.ref L) { c with heap:=g,toks:=C }):
  wpAny (model q u) J (call (.builtin "sorted") [T]) Q E c:=by
 refine Calls.call_function_entry kind_sorted plain_sorted entry_sorted (args_sorted1 _) ?_;unfold u3.«sorted»;refine mA (m:=checkCount "sorted" 1 1 _) (mT ?_);refine mA (v _ _ _ rfl λa prog B r l f=>?_);have j:B.length<64:=by rw[f.length];exact y
 refine mA (wpAny_newList ?_ (by rw[L3];lia));have d:(a.push (RV "list" B.toArray 0)).get? a.objs.size=some (RV "list" B.toArray 0):=qt _ rfl;refine mA (v3 (x9 slot_list_sort ⟨_,d,rfl⟩ entry_list_sort (list_sort_tree d f j λout p O R n=>⟨_,rfl,?_⟩) (args_list_sort _)));have e:=agn R n;subst e;obtain⟨w,v⟩:=HA (out:=out) d;refine mT ⟨_,rfl,h _ _ a.objs.size w out (λb o x=>?_) l v O⟩;have i:=r b o x;exact E2 (sI (n7 i)) (nU _ i)
end PyProof.Rows
section
open PyProof.Rows
variable {Z:Vm}{U:D}
def jw.at {g:Heap}(e:jw z f Y r)(k:∀o,z.get? f=some o->g.get? f=some o):jw g f Y r:=by obtain⟨d,b,P,l,c,h⟩:=e;exact⟨d,b,P,l,k _ c,h⟩
def bR (val:Nat->Int):Nat->List Int
 | 0=>[]|i+1=>kP (bR val i) (val i)
theorem tN (val:Nat->Int){i:Nat}:∀{n:Nat},i<=n->(bR val i).length<=(bR val n).length
 | 0,h=>by
  have:i=0:=by lia
  subst this;exact nA _
 |n+1,h=>by
  by_cases e:i=n+1
  . subst e;exact nA _
  . refine qJ (tN val (n:=n) (by lia)) ?_
    show _<=(kP _ _).length;unfold kP;split<;>simp
def E4 {R:Result->mJ->Prop}{M:List Addr}{G:Array agc->Array agc->Prop}{P:Nat->Value->Prop}{St:Nat->mJ->Prop}(W:WalksS q u J.in1 f O M G n P St)(S:Addr)(B:S ∉ O)(I:Bool)(val:Nat->Int)(E:∀i v,P i v->∃t,v = .int (val i) t)(H:(bR val n).length<=4)(C:∀i,i<n->0<=val i/\val i<=7):
  ∀(k i:Nat) (s:mJ),n-i=k->i<=n->St i s->jw s.heap S I (bR val i) ->
    (∀g,Moved (S::M) G s g->jw g.heap S I (bR val n)->R (.ok (.ret .none)) g) ->
    PM (model q u) J (.builtin "set.update.loop" ⟨[.ref S,.ref f],[]⟩) R s:=by
 have p:S ∉ M:=λh=>B (W.sub _ h);have l:∀b∈M,b∈S::M:=λb a=>qz _ a;intro k;induction k with
 |zero =>
  intro i s hk x A j d;have r:i=n:=by lia
  subst r;refine adJ F.entry_set_update_loop ?_;rw[adt F.plain_set_update_loop _];show wpAny _ J.in1 (EM (.ref f) >>= _) _ _ s;refine mA (W.done s _ _ A λg hm=>?_);exact mT (d g (hm.mono l) (j.at λo e=>hm.heap S _ p e))
 |succ k Q =>
  intro i s hk x A j d;have c:i<n:=by lia
  refine adJ F.entry_set_update_loop ?_;rw[adt F.plain_set_update_loop _];show wpAny _ J.in1 (EM (.ref f) >>= _) _ _ s;refine mA (W.item i s _ _ c A λv g U X hm=>?_);obtain⟨t,rfl⟩:=E i v U;have z:jw g.heap S I (bR val i):=j.at λo e=>hm.heap S _ p e;show wpAny _ J.in1 (HX [afv (val i) t] (setAdd S (.int (val i) t)) >>= _) _ _ g;refine mA (v3 ?_);unfold setAdd;refine v3 ?_;refine mA ((Ob q u).pyHash (k:=val i) (intKind_is _ _ _ _) ?_);have w:(bR val i).length<=3\/val i∈bR val i:=by
    by_cases hm:val i∈bR val i
    . exact .inr hm
    . have h1:=tN val (i:=i+1) c
      have h2:(bR val (i+1)).length=(bR val i).length+1:=by show(kP _ _).length=_;unfold kP;rw[if_neg hm];simp
      exact .inl (by lia)
  refine KC (s:={ g with toks:=g.toks+1 }) z w (C i c) λb h' prog Y=>?_;refine mT ⟨afN F.plain_set_update_loop _,Q (i+1) _ (by lia) c (W.frame _ g _ _ X (ahU _) λb a o e=>?_) Y λy Z XW=>?_⟩
  . rw[prog.2 b (λh:b=S=>B (by rw[<- h];exact a))];exact e
  . refine d y (Moved.trans W.gtrans ((hm.mono l).then_heap (ahU _) λb o a e=>?_) Z) XW
    rw[prog.2 b (λh:b=S=>a (by rw[h];exact tc))];exact e
def XX (e:z.get? f=some (emp Y)):jw z f Y []:=
 ⟨#[],0,tb [] Y,[],e,⟨rfl,rfl,rfl,ahF,by intro j b;simp[tb]at b,rfl,by decide⟩,rfl,aiu _,rfl,by intro j b;simp[tb]at b⟩
def XY {prog:uV}(B:jw c.heap f (!u.params.followText "set-order") r):∃g C t H ok E,c.heap.get? f=some (jh g C t)/\Way prog u f g C t H ok/\(u.params.followText "set-order" = true\/t.plain=true)/\g.size<=18/\BJ H E/\E.Perm r:=by
 obtain⟨g,C,t,l,v,T,o,x,J,_⟩:=B;have hf:t.fits g.size=true:=T.fits;have n:g.size<=18:=qJ T.n4 (by decide)
 have w:(g.toList.map (·.2)).Perm (l.map λp=>(oO p).2):=by
  have:=x.map (·.2)
  rwa[E5]at this
 have M:∀l:List (Int×Nat),BJ (l.map λp=>(oO p).2) (l.map (·.1)):=by
  intro l;induction l with
  |nil=>exact .nil|cons p l O=>exact .cons _ _ O
 cases hb:u.params.followText "set-order" with
 |true =>
  obtain⟨E,d,s⟩:=u7 (((u4 (u.params.setOrder f C) g).map (·.2)).trans w) (M l)
  exact⟨g,C,t,_,_,E,v,Xe hf hb,.inl rfl,n,d,by rw[<- J];exact s⟩
 |false =>
  rw[hb]at o;obtain⟨E,d,s⟩:=u7 w (M l);have a:=T.ri;have z:∀i j,t.place[i]? = some j->rk t.place (j+1)=i+1:=by
   intro i j e;obtain⟨y,e⟩:=adn.mp e;obtain⟨Q,I,q⟩:=nB a (j+1);have d:¬rk t.place (j+1)<=i:=λh=>by have:=q i y h;lia
   have s:¬i+1<rk t.place (j+1):=λh=>by
    have b:i+1<t.place.size:=by lia
    have U:=I (i+1) b h;have X:=si a b (adz i);lia
   lia
  have R:rk t.place 0=0:=by
   obtain⟨Q,I,q⟩:=nB a 0;refine af7 λh=>?_;have b:0<t.place.size:=by lia
   have:=I 0 b (by lia);lia
  exact⟨g,C,t,_,_,E,v,Xf hf hb o T.pl T.sz R z,.inr T.pl,n,d,by rw[<- J];exact s⟩
def zw {prog:uV}{s:mJ}(H:J.handled=none)(B:jw s.heap f (!u.params.followText "set-order") r)(h:∀(C:Heap) (I L c:Nat) (out:Array Value),(∀b o,s.heap.get? b=some o->C.get? b=some o)->s.heap.objs.size<=L->C.get? L=some (RV "list" out c)->BJ out.toList (Uy r)->Q (.ref L) { s with heap:=C,toks:=I }):
  wpAny (model prog u) J (call (.builtin "sorted") [.ref f]) Q E s:=by
 obtain⟨n,v,t,M,ok,g,a,W,hd,x,w,i⟩:=XY (prog:=prog) B;have j:Uy g=Uy r:=by refine agn ((aer g).trans i) ?_;exact PySem.W.sortI_rises g
 have e:n.size<=nE:=by rw[L3];lia
 refine E3 (ns:=g) (by rw[<- w.length,W.len];lia) (λR z y d k=>?_) (by rw[j];exact h);exact zm W (by rw[d];exact H) a hd e λq l p O=>k q l _ O (ZQ p) w
section
set_option maxHeartbeats 3200000 in
def baF {items:Array Value}{val:Nat->Int}(Y:J.handled=none)(H:c.heap.IsList f items)(I:∀(i:Nat) (v:Value),items[i]? = some v->∃t,v=afv (val i) t)(B:(bR val items.size).length<=4)(C:∀i,i<items.size->0<=val i/\val i<=7)(h:∀(M:Heap) (O:Nat),jw M c.heap.objs.size (!u.params.followText "set-order") (bR val items.size)->(∀b o,b<c.heap.objs.size->c.heap.get? b=some o->M.get? b=some o)->Q (.ref c.heap.objs.size) { c with heap:=M,toks:=O }):
  wpAny (model q u) J (call (.type "set") [.ref f]) Q E c:=by
 generalize Z:(!u.params.followText "set-order")=g at *;obtain⟨w,tl,ah⟩:=F.called_set.mro;have aS:=F.called_set.made;have BK:=F.called_set.sub;refine agV (codeAny_of_tree ?_);show wpAny _ _ (callAny (.type "set") _) _ _ _;refine mT ⟨Code.quiet_builtin _ (by decide +kernel),adJ F.entry_type_call ?_⟩;rw[Around.under_plain (weight_type_call_type "set" [.ref f] []) rfl];have h1:=F.called_set.notType;have h2:=F.called_set.canCreate;have ar:=F.typeCall_set_1 (.ref f);repeat (any_goals (first|assumption|wp_step))
 refine V8 (KD (.ref f) (E:=E) (Q₁:=λobj l=>obj = .ref c.heap.objs.size/\l={ c with heap:=c.heap.push (emp g) }) ⟨rfl,by rw[Z]⟩) λr l d=>?_;cases r with
 |error e=>exact d
 |ok fl =>
  cases fl with
  |ret obj =>
   obtain⟨rfl,rfl⟩:=d;have U:(c.heap.push (emp g)).get? c.heap.objs.size=some (emp g):=qt _ rfl;have hT:ai0 { c with heap:=c.heap.push (emp g) } (.ref c.heap.objs.size) "set":=⟨_,U,rfl⟩
   have a0:=F.called_set.init.lookup;have aq:=F.called_set.init.bind (.ref c.heap.objs.size);repeat (any_goals (first|assumption|wp_step))
   refine V8 (codeAny_call_builtin (R:=wants (λr p=>r = .none /\ ∃M O,p={ c with heap:=M,toks:=O }/\jw M c.heap.objs.size g (bR val items.size) /\
      (∀b o,b<c.heap.objs.size->c.heap.get? b=some o->M.get? b=some o)) E) F.called_set.init.plain F.entry_set_init (check_set_init_1 hT ?_)) λr₂ p a=>?_
   . obtain⟨ol,y,z,X,prog⟩:=H
     obtain⟨ab,Ts,aB,P9⟩:=ol;simp only at z prog;subst z;subst prog;have XZ:(c.heap.push (emp g)).get? f=some { cls:=.type "list",dict:=Ts,data:=.seq items X,slots:=P9 }:=nU _ y;have aW:=F.sub_list_set;have aC:=F.sub_list_frozenset;have gQ:(wz "list" == wz "dict")=false:=by decide
     have x:(c.heap.push (emp g)).IsList f items:=⟨_,XZ,rfl,X,rfl⟩
     unfold u3.«set.__init__» noKeywords aiB;generalize A:Ux=PI
     wp_walk
     subst A;refine afT x ?_;refine mA (wpAny_runValue ?_);have n:f<c.heap.objs.size:=n7 y;have j:J.in1.in1.in1.handled=none:=by simp[Y]
     have X0:f≠(c.heap.push (emp g)).objs.size:=by rw[NX];exact sI (QA n)
     have zN:c.heap.objs.size ∉ [(c.heap.push (emp g)).objs.size,f]:=by rw[NX];simp only[nQ,afD,vV,or_false,not_or];exact⟨sI (adz _),ae4 n⟩
     refine E4 ((Walks.list j _ f X0 items).toS) c.heap.objs.size zN g val I B C (items.size-0) 0 _ (by lia) (tj _) ⟨⟨_,qt _ rfl,rfl,rfl⟩,(x.push _)⟩ ?hS0 ?hR
     case hS0=>exact XX (nU _ U)
     case hR =>
      intro s' hm zO;obtain⟨M,g',d',Dy,Df⟩:=s';have eg:g'=c.gens:=hm.gens;have ed:d'=c.drawn:=hm.drawn;have eo:Df=c.os:=hm.os;subst eg;subst ed;subst eo;show wpAny _ _ _ _ _ _;refine mT ?_;show wpAny _ _ (ret AR) _ _ _;have ht:∀b o,b<c.heap.objs.size->c.heap.get? b=some o->M.get? b=some o:=λb o B e=>by
       have q1:b≠c.heap.objs.size:=sI B;have q2:b≠(c.heap.push (emp g)).objs.size:=by rw[NX];exact sI (QA B)
       exact hm.heap b o (by simp only[nQ,vV,or_false,not_or];exact⟨q1,q2⟩) (nU _ (nU _ e))
      exact mT ⟨rfl,M,Dy,rfl,zO,ht⟩
   . cases r₂ with
     |error e=>exact a
     |ok fl₂ =>
      cases fl₂ with
      |ret r =>
       obtain⟨rfl,M,O,rfl,AM,h_⟩:=a;repeat (any_goals (first|assumption|wp_step))
       exact h _ _ AM h_
      |_=>exact a.elim
  |_=>exact d.elim
end
def pB (a:FE):FE:=λh g=>(a h g).bind λr=>(fB r.1 r.2).bind λn=>(fM n).bind λc=>if decide ((bR (λi=>c.getD i 0) c.length).length<=4 /\ ∀i,i<c.length->0<=c.getD i 0/\c.getD i 0<=7)=true then some (.lst ((Uy (bR (λi=>c.getD i 0) c.length)).map .int),r.2)else none
def P_ {T C R:Pos}(hh:X.A.handled=none)(N:X.mg "sorted" = none)(M:X.mg "set" = none)(S:DE X e K)(E:Gl X "sorted")(J:Gl X "set")(O:nN [Expr.Call (.Name "set" C) [e] [] B] X.env=(false,eval (.Call (.Name "set" C) [e] [] B) X.env)::nN [] X.env)(P:nN [e] X.env=(false,eval e X.env)::nN [] X.env):
   DE X (.Call (.Name "sorted" T) [.Call (.Name "set" C) [e] [] B] [] R) (pB K):=.of (by
 intro cv s σ H Q I h;obtain⟨ι,σd,g,d,g',G0,S0,h,p⟩:=h;obtain⟨⟨d1,g1⟩,h1,h⟩:=bind_some h;obtain⟨xs,hx,h⟩:=bind_some h;obtain⟨U,hn,h⟩:=bind_some h;dsimp only at hx h;split at h
 . rename_i l
   cases h;rw[decide_eq_true_eq]at l;obtain⟨l,h7⟩:=l;have arg:=(iD S.un my P) B cv s σ H (λvs Y=>∃j a Z,vs = [.ref a]/\dQ X.kw Y a Z/\ai X.kw Y j xs Z/\Ext H ι Y j/\aw X.kw Y j g') I (tD.bind G0 S0 h1 λY j v y f S1 r1=>by obtain⟨a,Z,rfl,hq,hr⟩:=iy f r1 hx;exact⟨j,a,Z,rfl,hq,hr,y,f⟩)
   refine Sw (iQ I E N (u:=.builtin "sorted") rfl ?_ (by decide) (by decide));refine ae6 ?_ O rfl;rw[O];show wpAny _ _ (spliced ((false,eval (.Call (.Name "set" C) [e] [] B) X.env)::vE R (nN [] X.env))) _ _ s;refine afz ?_;refine Sw (iQ I J M (u:=.type "set") rfl ?_ (by decide) (by decide));refine ab9 (aX arg λoj s1 q1=>?_) P rfl;obtain⟨vs,Y,r,rv,j,a,Z,rfl,hq,hr,y,f⟩:=q1;obtain⟨u,rfl,ru⟩:=rv.one;cases ru;obtain⟨x,gj,pl,hz⟩:=r.list hq;have hA:=oW hn hr gj;have z:x.length=U.length:=by obtain⟨ps,rfl,rfl⟩:=nH hA;simp
   have jS:x.toArray.size=U.length:=by rw[pd];exact z
   refine baF (items:=x.toArray) (val:=λi=>U.getD i 0) hh pl.isList (λi v hv=>aiI (by simpa using hA:BJ x.toArray.toList U) i v (by rw[adV];exact hv)) (by rw[jS];exact l) (by rw[jS];exact h7) λh2 VL u5 k2=>?_;rw[jS]at u5;refine ahD ?_;have kk:∀b o,s1.heap.get? b=some o->h2.get? b=some o:=λb o q=>k2 b o (n7 q) q;have I2:mH X cv σ Y { s1 with heap:=h2,toks:=VL }:=r.kept kk;refine zw (s:={ s1 with heap:=h2,toks:=VL }) hh u5 λh3 ab L c out k3 hL hc hO=>?_;have Ph:s1.heap.objs.size<=L:=by obtain⟨_,_,_,_,ha,_⟩:=u5;exact qJ (ZQ (n7 ha)) hL
   have n:=r.aW.fresh Ph;have UC:((Uy (bR (λi=>U.getD i 0) U.length)).map V.int).length<=nE:=by rw[ro,(aer _).length_eq];exact qJ l (by decide)
   refine⟨.ref L,_,r.laid (t':=ab) (λb o q=>k3 b o (kk b o q)) Ph (show dX X.prog X.w _ _ _ (.lst ((Uy (bR (λi=>U.getD i 0) U.length)).map V.int)) from⟨UC,out.toList,c,baS hO,by simpa[RV]using hc⟩),rfl,p _ _ _ (y.trans (Ext.lay n)) (f.lay n) ?_⟩;simp only[Rel];exact⟨_,_,rfl,.inl ⟨.inl aQ,f.fresh n,f.iV n⟩,sQ _⟩
 . cases h)
@[simp] def AN:pB K l a=(K l a).bind λr=>(fB r.1 r.2).bind λg=>(fM g).bind λc=>if decide ((bR (λi=>c.getD i 0) c.length).length<=4 /\ ∀i,i<c.length->0<=c.getD i 0/\c.getD i 0<=7)=true then some (.lst ((Uy (bR (λi=>c.getD i 0) c.length)).map .int),r.2)else none:=rfl
noncomputable def wo (x:Expr):Option (Str×Expr):=match x with
 |.Call f c g _=>(match f with
  |.Name t _=>(match c with
   | []=>none|a::r=>if r.isEmpty&&g.isEmpty then some (t,a)else none)
  |_=>none)
 |_=>none
def yr (h:wo e=some (x,C)):∃p pos,e = .Call (.Name x p) [C] [] pos:=by
 cases e with
 |Call f g i pos =>
  cases f with
  |Name n p =>
   cases g with
   |nil=>cases h
   |cons b r =>
    simp only[wo]at h;split at h
    . rename_i c
      rw[nc,aeT,aeT]at c;cases h;obtain⟨rfl,rfl⟩:=c;exact⟨_,_,rfl⟩
    . cases h
  |_=>cases h
 |_=>cases h
def E6 (m:G0)(c:Cs)(t r:Str)(x:Expr):Option Expr:=(wo x).bind λy=>(wo y.2).bind λz=>if y.1 == t&&z.1 == r&&c.sc.names.lookup y.1 == some .globalImplicit&&c.sc.names.lookup z.1 == some .globalImplicit&&m.jX.elem y.1&&m.jX.elem z.1 && !(isStar z.2)then some z.2 else none
def E_ {m:G0}{c:Cs}{r:Str}(h:E6 m c x r e=some C):∃p g pos v,e = .Call (.Name x p) [.Call (.Name r g) [C] [] v] [] pos/\c.sc.names.lookup x=some .globalImplicit/\c.sc.names.lookup r=some .globalImplicit/\x∈m.jX/\r∈m.jX/\isStar C=false:=by
 obtain⟨⟨s,y⟩,n,o⟩:=bind_some h;obtain⟨⟨u,z⟩,d,b⟩:=bind_some o;dsimp only at b d;obtain⟨p,pos,rfl⟩:=yr n;obtain⟨g,v,rfl⟩:=yr d;split at b
 . rename_i t
   simp only[nc,beq_iff_eq,x3]at t;obtain⟨⟨⟨⟨⟨⟨rfl,rfl⟩,f⟩,j⟩,q⟩,l⟩,i⟩:=t;cases b;exact⟨_,_,_,_,rfl,f,j,IH.mp q,IH.mp l,i⟩
 . cases b
def Qb:lR where
 e:=λm c E _ x=>(E6 m c "sorted" "set" x).map λa=>pB (E a)
 vk:=by intro m c X E g b q x f h;obtain⟨a,o,rfl⟩:=p7.mp h;obtain⟨p,r,pos,s,rfl,l,j,d,i,n⟩:=E_ o;exact P_ g.rm.hd (g.bl _ d) (g.bl _ i) (b a) (g.gl l) (g.gl j) rfl (bt n)
 t:=yp
 tok:=by intro m c X E g b x f h;cases h
def Tt:lR where
 e:=λm c E _ x=>match x with
  |.List [] _=>if c.mt.elem (th "[]")then some (aH mkRef af)else none|_=>none
 vk:=by
  intro m c X E g a b x f h;split at h
  . split at h
    . cases h
      exact w8 (fD a [])
    . cases h
  . cases h
 t:=yp
 tok:=by intro m c X E g a x f h;cases h
noncomputable def Qc:Expr->Option (List Expr)
 |.List c _=>some c|_=>none
def Fb (h:Qc e=some d):∃p,e = .List d p:=by
 cases e with
 |List a p=>cases h;exact⟨p,rfl⟩|_=>exact nn h
noncomputable def VM:Expr->Option (Expr×Expr)
 |.BinOp a op b _=>if op = .Mult then some (a,b)else none|_=>none
def Qd {b:Expr}(h:VM e=some (C,b)):∃p,e = .BinOp C .Mult b p:=by
 cases e with
 |BinOp C op b p =>
  cases op with
  |Mult=>cases h;exact⟨p,rfl⟩|_=>exact nn h
 |_=>exact nn h
def Qe (E:Expr->FE)(v:Expr):FE:=match Qc v with
 |some a=>aH mkRef (aE E a)
 |none=>match(VM v).bind λq=>(Qc q.1).map λa=>(a,q.2)with
  |some q=>ag lP (aH dI (aE E q.1)) (E q.2)|none=>E v
def Qf {E:Expr->FE}(j:∀e,DE X e (E e))(v:Expr):DE X v (Qe E v):=by
 unfold Qe;split
 . rename_i c h
   obtain⟨p,rfl⟩:=Fb h;exact w8 (fD j _)
 . split
   . rename_i q h
     obtain⟨⟨a,b⟩,d,h⟩:=bind_some h;obtain⟨c,f,rfl⟩:=p7.mp h;obtain⟨p,rfl⟩:=Qd d;obtain⟨i,rfl⟩:=Fb f;exact jK Aw (DM (fD j _)) (j _)
   . exact j _
def yt (E:Expr->FE):List (Option Expr)->List Expr->List (FE×FE)
 |some k::c,v::g=>(E k,Qe E v)::yt E c g|_,_=>[]
theorem AO {X:Cx}{E:Expr->FE}(a:∀e,DE X e (E e)):∀(c:List (Option Expr)) (g:List Expr),c.all (·.isSome)=true->c.length=g.length->gK X c g (yt E c g)
 | [],[],_,_=>by simp[yt,gK]| [],_::_,_,h=>by simp at h|_::_,[],_,h=>by simp at h|none::_,_::_,h,_=>by simp at h|some k::c,v::g,h,i=>by simp only[yt,gK];exact⟨a k,Qf a v,AO a c g (by simpa using h) (by simpa using i)⟩
def Qg:lR where
 e:=λm c E _ x=>match x with
  |.Dict (k::b) vals _=>if(k::b).all (·.isSome)&&decide ((k::b).length=vals.length)&&decide ((k::b).length<=15)then some (oX (yt E (k::b) vals))else none|_=>none
 vk:=by
  intro m c X E g d i x f h;split at h
  . rename_i k b vals pos
    split at h
    . rename_i a
      rw[nc,nc,decide_eq_true_eq,decide_eq_true_eq]at a;cases h;exact Ha g.hu (AO d _ _ a.1.1 a.1.2) a.1.1 a.1.2 (by simp) a.2
    . cases h
  . cases h
 t:=yp
 tok:=by intro m c X E g d x f h;cases h
noncomputable def Jx:Expr->Option (Const×Nat×Pos)
 |.Constant v k p=>some (v,k,p)|_=>none
def Fc {v:Const}(h:Jx e=some (v,n,B)):e = .Constant v n B:=by
 cases e with
 |Constant=>cases h;rfl|_=>exact nn h
noncomputable def Qh:Expr->Option (Vm×Expr×Scope×Pos)
 |.Lambda a b s p=>some (a,b,s,p)|_=>none
def Qi (h:Qh e=some (Z,C,I,B)):e = .Lambda Z C I B:=by
 cases e with
 |Lambda=>cases h;rfl|_=>exact nn h
noncomputable def Tu:Expr->Bool
 |e=>(Qh e).isSome
def yu {b:Type}[DecidableEq b]{x y:Option b}(h:(x.isSome&&decide (x=y))=true):∃z,x=some z/\y=some z:=by simp only[nc,decide_eq_true_eq]at h;obtain⟨z,a⟩:=aej.mp h.1;exact⟨z,a,h.2 ▸ a⟩
noncomputable def Cr (f:Expr->Expr->Bool):List Expr->List Expr->Bool
 | [],bs=>bs.isEmpty|a::c,bs=>(bs.head?.map λb=>f a b&&Cr f c bs.tail).getD false
def Mb {f:Expr->Expr->Bool}(h:∀a b,f a b=true->a=b):∀{c bs:List Expr},Cr f c bs=true->c=bs:=fun {c}=>by
 induction c with
 |nil=>intro bs q;cases bs with
  |nil=>rfl|cons=>cases q
 |cons a c g=>intro bs q;cases bs with
  |nil=>cases q
  |cons b bs =>
   have q:(f a b&&Cr f c bs)=true:=q;rw[nc]at q;rw[h a b q.1,g q.2]
def AQ:Nat->Expr->Expr->Bool
 | 0,_,_=>false
 |n+1,a,b=>((AB a).isSome&&decide (AB a=AB b))||((Jx a).isSome&&decide (Jx a=Jx b)) ||
  ((Jk a).bind λx=>(Jk b).map λy=>AQ n x.1 y.1&&AQ n x.2.1 y.2.1&&decide (x.2.2=y.2.2)).getD false ||
  ((ED a).bind λx=>(ED b).map λy=>AQ n x.1 y.1&&Cr (AQ n) x.2.1 y.2.1&&decide (x.2.2=y.2.2)).getD false
def baV {b a:Type}{x:Option b}{y:Option a}{f:b->a->Bool}(h:(x.bind λu=>y.map λv=>f u v).getD false=true):∃u v,x=some u/\y=some v/\f u v=true:=by
 cases x with
 |none=>cases h
 |some u=>cases y with
  |none=>cases h|some v=>exact⟨u,v,rfl,rfl,h⟩
def Qj:∀(n:Nat) (a b:Expr),AQ n a b=true->a=b:=λn=>by
 induction n with
 |zero=>intro a b h;cases h
 |succ n g =>
  intro a b h;rcases afg.mp h with h|h
  . rcases afg.mp h with h|h
    . rcases afg.mp h with h|h
      . obtain⟨z,c,d⟩:=yu h
        exact(tI c).trans (tI d).symm
      . obtain⟨z,c,d⟩:=yu h
        exact(Fc c).trans (Fc d).symm
    . obtain⟨⟨o,e,j⟩,⟨i,l,f⟩,c,d,h⟩:=baV h
      simp only[nc,decide_eq_true_eq]at h;rw[ye c,ye d,g _ _ h.1.1,g _ _ h.1.2,h.2]
  . obtain⟨⟨o,e,j⟩,⟨i,l,f⟩,c,d,h⟩:=baV h
    simp only[nc,decide_eq_true_eq]at h;rw[tJ c,tJ d,g _ _ h.1.1,Mb g h.1.2,h.2]
noncomputable def Jy:List Arg->Option (List (Str×Pos))
 | []=>some []|a::c=>if a.annotation.isSome then none else(Jy c).map ((a.arg,a.pos):: ·)
def Qk:∀{g:List Arg} {l:List (Str×Pos)},Jy g=some l->g=l.map λq=>⟨q.1,none,q.2⟩:=fun {g}=>by
 induction g with
 |nil=>intro l h;cases h;rfl
 |cons a g i =>
  intro l h;obtain⟨x,n,p⟩:=a;cases n with
  |some=>exact nn h
  |none =>
   obtain⟨c,b,rfl⟩:=p7.mp (show(Jy g).map ((x,p):: ·)=some l from h)
   rw[i b];rfl
noncomputable def Fd (a:Vm):Option (List (Str×Pos)):=if a.posonlyargs.isEmpty&&a.vararg.isNone&&a.kwonlyargs.isEmpty&&a.kw_defaults.isEmpty&&a.kwarg.isNone&&a.defaults.isEmpty then Jy a.args else none
def Fe {l:List (Str×Pos)}(h:Fd Z=some l):Z=⟨[],l.map λq=>⟨q.1,none,q.2⟩,none,[],[],none,[]⟩:=by
 obtain⟨p,c,v,k,kd,kw,d⟩:=Z;unfold Fd at h;split at h
 . rename_i z
   simp only[nc,aeT,Option.isNone_iff_eq_none]at z;obtain⟨⟨⟨⟨⟨rfl,rfl⟩,rfl⟩,rfl⟩,rfl⟩,rfl⟩:=z;rw[<- Qk h]
 . cases h
noncomputable def Ql (a b:Vm):Bool:=(Fd a).isSome&&decide (Fd a=Fd b)
def Mc {b:Vm}(h:Ql Z b=true):Z=b:=by obtain⟨z,d,c⟩:=yu h;exact(Fe d).trans (Fe c).symm
noncomputable def Ct (N:List Str):List Str->Option (List Nat)
 | []=>some []|y::c=>(i_ N y).bind λi=>(Ct N c).map (i :: ·)
theorem AS {N:List Str}:∀{g:List Str} {is:List Nat},Ct N g=some is->EA N is g
 | [],is,h=>by cases h;exact⟨rfl,λj i y a _=>by simp at a⟩
 |y::g,is,h=>by
  unfold Ct at h;obtain⟨i,d,h⟩:=bind_some h;obtain⟨o,n,rfl⟩:=p7.mp h;obtain⟨l,f⟩:=AS n;refine⟨by simp[l],λj c e a b=>?_⟩;cases j with
  |zero=>simp at a b;subst a b;exact eJ d|succ j=>exact f j c e (by simpa using a) (by simpa using b)
def aL (E:Expr->FE)(q:Pos×Str×eA)(is:List Nat):List Expr->Option FA
 | []=>some af
 |e::c=>match Qh e with
  |some (ar,bd,sc,p)=>if decide (p=q.1)&&Ql ar q.2.2.ar&&AQ 9 bd q.2.2.bd&&decide (sc=q.2.2.sc)then(aL E q is c).map (ae (uw q.2.1 is))else none|none=>if isStar e then none else(aL E q is c).map (ae (E e))
theorem Cu {X:Cx}{E:Expr->FE}(u:∀e,DE X e (E e)){p:Pos}{x:Str}{l:eA}(L:wb X p x l){is:List Nat}(s:EA X.N is l.fv):∀{g:List Expr} {f:FA},aL E (p,x,l) is g=some f->xY X g f
 | [],f,h=>by cases h;exact LM
 |e::g,f,h=>by
  rw[aL]at h;split at h
  . rename_i r bd sc q n
    obtain rfl:=Qi n;split at h
    . rename_i z
      simp only[nc,decide_eq_true_eq]at z;obtain⟨⟨⟨i,b⟩,j⟩,o⟩:=z;obtain⟨c,a,rfl⟩:=p7.mp h;subst i;have:=Mc b;subst this;have:=Qj _ _ _ j;subst this;subst o;exact LN L s (Cu u L s a)
    . cases h
  . split at h
    . cases h
    . rename_i d
      obtain⟨c,a,rfl⟩:=p7.mp h;exact Hj (u _) (Cu u L s a) (bt (by simpa using d))
def X1:lR where
 e:=λm c E _ x=>(cV x).bind λy=>if jA y.1||y.2.any isStar || !(y.2.any Tu) || !c.all || !(decide (c.sc.names.lookup y.1=some .globalImplicit))then none else c.lam.bind λq=>(m.fns.lookup y.1).bind λj=>(Ct c.N q.2.2.fv).bind λis=>(aL E q is y.2).map λfr=>aj (kA (m.T j.1)) fr
 vk:=by
  intro m c X E g r rf x f h;obtain⟨⟨y,as⟩,hv,d⟩:=bind_some h;obtain⟨p,pos,rfl⟩:=we hv;dsimp only at d;split at d
  . cases d
  . rename_i s
    simp only[zg,not_or,VS,x3,afY,decide_eq_true_eq]at s;obtain⟨⟨⟨⟨h1,o⟩,u⟩,v⟩,h5⟩:=s;obtain⟨⟨p',x',l⟩,hq,k1⟩:=bind_some d;obtain⟨⟨i,n⟩,hf,k2⟩:=bind_some k1;obtain⟨is,hi,k3⟩:=bind_some k2;obtain⟨fr,z,rfl⟩:=p7.mp k3;obtain⟨o1,o2,_⟩:=ph h1;cases as with
    |nil=>cases u
    |cons a as =>
     rw[BG,Ik]at o;obtain⟨fa,fd,ps,ok,hm,kp,b,ln⟩:=g.fn y i n (lookup_mem hf);have Ja:EA X.N is l.fv:=by rw[g.hN];exact AS hi
     exact Hk ok g.rm hm kp b ln (g.al v) (Cu r (g.lh _ _ _ hq) Ja z) (g.gl h5) o1 (bt o.1) (gL o.2)
 t:=yp
 tok:=by intro m c X E g r x f h;cases h
noncomputable def Qm:Nat->Expr->Option Expr
 |_,.Lambda a b s p=>some (.Lambda a b s p)|n+1,.Call _ c _ _=>c.findSome? (Qm n)|_,_=>none
noncomputable def AU:Nat->Stmt->Option Expr
 |n+1,.FunctionDef _ _ b _ _ _ _ _ _ _=>b.findSome? (AU n)|n+1,.If _ b o _=>(b.findSome? (AU n)).or (o.findSome? (AU n))|n+1,.For _ _ b _ _=>b.findSome? (AU n)|n,.Assign _ v _=>Qm n v|n,.Return (some v) _=>Qm n v|_,_=>none
def Cv (nm:Str)(c:Stmt):eA:=match AU 9 c with
 |some (.Lambda a b s _)=>⟨a,b,s,nm ++ ".<locals>." ++ "<lambda>",nL s,a.args.map (·.arg)⟩|_=>⟨⟨[],[],none,[],[],none,[]⟩,.Constant .none 0 ⟨0,0,0,0⟩,⟨.function,[],false,false,[]⟩,"",[],[]⟩
noncomputable def Qn (a:Stmt):Pos:=match AU 9 a with
 |some (.Lambda _ _ _ p)=>p|_=>⟨0,0,0,0⟩
noncomputable def top (i:Nat):Stmt:=agb.main.body.getD i (.Pass ⟨0,0,0,0⟩)
def md (nm:Str)(ps a:List Str)(i:Nat)(d:Bool:=false)(c:List Str:=[])(e:Bool:=false)(b:Str:=nm):bY:=⟨nm,ps,ps++a,top i,d,c,e,b,none,none⟩
def mm (nm:Str)(ps a:List Str)(i:Nat)(x:Str)(b:Str:=nm)(c:List Str:=[]):bY:=⟨nm,ps,ps++a,top i,false,c,false,b,none,some (Qn (top i),x)⟩
def ml (nm x:Str)(i:Nat):bY:=⟨"<lambda>",(Cv nm (top i)).fv++(Cv nm (top i)).ps,[],top i,false,[],false,x,some (Cv nm (top i)),none⟩
def X2:=md "number_of" ["manner","name"] [] 2
def X3:=md "hands_of" ["manner"] [] 3
def X4:=md "places_of" ["manner"] [] 4
def X5:=md "collect_boxes" ["manner"] ["word"] 6
def X6:=md "last_round" ["stride","span","moves","reads","moved_in"] ["seen","start","moved","hand","often"] 8 false ["seen","*seen"]
def X7:=md "write_step" ["writes","reads"] [] 10
def X8:=md "toggle_of" ["manner","deed","ahead"] [] 11
def X9:=md "others_of" ["manner","hand"] [] 20
def X_:=md "shaken_by" ["manner","hand"] [] 21
def Ya:=md "shake_step" ["sources","targets","answer","reads"] ["place"] 22
def Tv:=md "turned" ["bit"] [] 23
def Tw:=mm "shared_look" ["manner","hand","reads"] ["span","ending","used"] 25 "shared_look.lambda"
def Tx:=mm "round_step" ["manner","hand","reads"] ["calls","signs","collected"] 26 "round_step_shared.lambda" "round_step_shared"
def Tz:=md "second_collect" ["manner","hand","reads"] ["behind"] 28
def TB:=md "moved_in" ["manner","hand","reads"] ["shaken","opening","calls","moved","first","second","others","before","behind"] 29 false ["moved"] false "moved_in_shared"
def TC:=md "is_rewritten" ["manner","before","behind"] [] 31
def TF:=md "shared_put" ["manner","hand","deed","ahead","reads"] ["others","opening","signs","calls","rest","look","written","writes"] 32
def TH:=md "next_step" ["manner","hand","deed","ahead","reads"] [] 45
def TJ:=md "put_step" ["manner","hand","deed","ahead","reads"] ["word"] 47
def TK:=md "_law_hand" ["_law_script","_law_k"] ["_law_cell"] 50 true
def TM:=md "_law_take" ["_law_hand_here","_law_many"] ["_law_digit","_law_turn","_law_mixed","_law_other"] 51 false ["_law_hand_here"]
def TN:=md "_law_pick" ["_law_hand_here","_law_some"] [] 52
def TQ:=md "_law_value" ["_law_hand_here"] ["_law_way"] 53
def TR:=md "_law_world" ["_law_hand_here","_law_boxes","_law_changes"] [] 54 true
def TU:=md "_law_see" ["_law_world_here","_law_box"] [] 55 false ["_law_world_here"]
def TV:=md "_law_set" ["_law_world_here","_law_box","_law_content"] [] 56
def TX:=md "_law_collect" ["_law_world_here","_law_name","_law_many"] ["_law_found","_law_j"] 57 false ["_law_found"]
def TY:=md "_law_follows" ["_law_manner","_law_own","_law_deed","_law_ahead_here","_law_world_here","_law_due"] ["_law_reads","_law_step","_law_content","_law_found"] 58
def TZ:=md "_law_ahead" ["_law_hand_here","_law_many"] [] 59
def T1:=md "_law_hands" ["_law_hand_here"] [] 60
def T2:=md "_law_state" ["_law_hand_here","_law_many"] [] 61
def T3:=md "_law_other_content" ["_law_world_here","_law_box"] ["_law_hand_here","_law_value_here","_law_writer","_law_toggle","_law_writers"] 62
def T4:=md "_law_round" ["_law_world_here","_law_own","_law_manner"] ["_law_word","_law_hands_here","_law_places","_law_toggles","_law_shakes","_law_moves","_law_signs","_law_last","_law_j","_law_first","_law_second","_law_moved","_law_k","_law_one","_law_turned"] 63 false ["_law_signs","_law_last","_law_moved","*_law_signs","*_law_last"]
def T5:=md "_law_look" ["_law_world_here","_law_own","_law_manner"] ["_law_seen","_law_second","_law_moved","_law_j"] 64 false ["_law_seen"]
def T6:=md "_law_begin" ["_law_hand_here","_law_manner","_law_own"] ["_law_hands_here","_law_places","_law_boxes","_law_k","_law_i","_law_j","_law_world_here"] 65 true ["_law_world_here","_law_boxes","=moving","*_law_boxes"]
def T7:=md "_law_shared_manner" ["_law_hand_here"] ["_law_bits"] 66
def T9:=md "law" ["_law_script"] ["_law_n","_law_hand_here","_law_manner","_law_hands_here","_law_places","_law_own","_law_ahead_here","_law_k","_law_world_here","_law_j","_law_sign","_law_view","_law_toggle","_law_value_here"] 67
def T_:=ml "shared_look" "shared_look.lambda" 25
def Ua:=ml "round_step" "round_step_shared.lambda" 26
def ds:List bY:=[X2,X3,X4,X5,X6,X7,X8,X9,X_,Ya,Tv,Tw,Tx,Tz,TB,TC,TF,TH,TJ,TK,TM,TN,TQ,TR,TU,TV,TX,TY,TZ,T1,T2,T3,T4,T5,T6,T7,T9,T_,Ua]
noncomputable def mq:List (Str×D):=[("once",.tup [.str "hands"]),("twice",.tup [.str "hands",.str "turn"]),("handed",.tup [.str "hands",.str "turn",.str "moves"]),("signs",.tup [.str "hands",.str "toggles",.str "shakes",.str "moves"]),("shared",.tup [.str "hands",.str "places",.str "toggles",.str "shakes",.str "moves"]),("tables",.tup [.str "hands",.str "boxes"])]
def pk:Pk:=⟨[XQ,To,XR,PV],[PV],[Hw,Hz,Tp],[L6,Tq],[X1,XS,Tr,Qb,Qg,Tt,P7]⟩
def mo:Mo:=⟨ds,["len","min","int","tuple","sorted","set","range","zip","isinstance"],[],[("NUMBERS",mq)],pk,1000000⟩
@[simp] def Zz:ao (.tup A) v a=fj (.tup A) v a:=rfl
@[simp] def ZA:ao (.lst A) v a=fj (.lst A) v a:=rfl
@[simp] def ZC:ao (.ref n) v a=fj (.ref n) v a:=rfl
@[simp] def ZE:ao (.aA n) v a=(a[n]?).bind λc=>if aU 6 v=true then(aJ c v).map λv=>(v,a)else none:=rfl
@[simp] def Yb:mh (.ref n) U v a=putD (.ref n) U v a:=rfl
@[simp] def HB:mh (.aA n) U v a=(a[n]?).bind λc=>if(aU 6 U&&iH c)=true then some (a.set n (aP c U v))else none:=rfl
@[simp] def ZF {c:FE}:dP K c v l a=(K l a).bind λr=>(c l r.2).bind λq=>(mh r.1 q.1 v q.2).map λg=>(l,g):=rfl
@[simp] def qc {fr:FA}{c:D->Bool}{m:D->List D->G->Option (D×G)}:dD c m K fr l a=(K l a).bind λr=>if c r.1=true then(fr l r.2).bind λq=>m r.1 q.1 q.2 else none:=rfl
@[simp] def Yc:kz l a=some (.aA a.length,a ++ [[]]):=rfl
@[simp] def ZG:ky (.aA n)=true:=rfl
@[simp] def ZH:isRef (.ref n)=true:=rfl
@[simp] def acN:k9 (.aA n) [v] a=(a[n]?).bind λc=>if aU 6 v=true then some ((aJ c v).getD .aB,a)else none:=rfl
@[simp] def acO:k9 (.aA n) [v,U] a=(a[n]?).bind λc=>if aU 6 v=true then some ((aJ c v).getD U,a)else none:=rfl
@[simp] def acP:bZ (.ref n) [v] a=(a[n]?).bind λc=>if az (c.length+1)=true then some (.aB,a.set n (c ++ [v]))else none:=rfl
@[simp] def ZI:aU n (.int i)=true:=by cases n<;>rfl
@[simp] def ZJ:mR v (.aA n) a=(a[n]?).bind λc=>if aU 6 v=true then some (aJ c v).isSome else none:=rfl
@[simp] def ZK:iz v U a=(mR v U a).map λb=>(.bl b,a):=rfl
@[simp] def Ub:iG v U a=(mR v U a).map λb=>(.bl (!b),a):=rfl
@[simp] def Yd:HL .aB=false:=rfl
@[simp] def ZM:HL (.bl Y)=false:=rfl
@[simp] def Ye:HL (.int i)=false:=rfl
@[simp] def Yf:HL (.str x)=false:=rfl
@[simp] def Yg:HL (.tup A)=false:=rfl
@[simp] def Yh:HL (.lst A)=false:=rfl
@[simp] def Yi:HL .dU=false:=rfl
@[simp] def Yj:HL (.ref n)=false:=rfl
@[simp] def Yk:HL (.aA n)=false:=rfl
end
section
variable {R:Str->Option Fn}{Y:List (List Nat)}{X:List Nat}{U B:G}{T:List (List D)}{Q O M:Option D}{f:Nat->Nat}{J I:List D}{H:Prop}{d:FS}{E:Sg}{b t g:D}{C:F×Sg×G->Prop}{z:D×G->Prop}{c:FT}{y:Option (F×Sg×G)}{u:Int}{r:FA}{q:Fn}{m:FE}{k:Nat}
def rB {c:Type}{A B C:c->Prop}(h:∃x,A x/\B x/\C x)(k:∀x,A x->B x->C x->H):H:=by obtain⟨x,g,a,b⟩:=h;exact k x g a b
def Cw {d:Type}{c:Type}{A B C:d->c->Prop}(h:∃x y,A x y/\B x y/\C x y)(k:∀x y,A x y->B x y->C x y->H):H:=by obtain⟨x,y,g,a,b⟩:=h;exact k x y g a b
def pC {e:Type}{d:Type}{A B C D:e->d->Prop}(h:∃x y,A x y/\B x y/\C x y/\D x y)(k:∀x y,A x y->B x y->C x y->D x y->H):H:=by obtain⟨x,y,g,b,c,a⟩:=h;exact k x y g b c a
def fS {f:Type}{e:Type}{A B C D E:f->e->Prop}(h:∃x y,A x y/\B x y/\C x y/\D x y/\E x y)(k:∀x y,A x y->B x y->C x y->D x y->E x y->H):H:=by obtain⟨x,y,g,b,d,a,c⟩:=h;exact k x y g b d a c
def Yl {p:Type}{n:Type}{o:Type}{l:Type}{A B C D E F I J K:p->n->o->l->Prop}(h:∃x y z u,A x y z u/\B x y z u/\C x y z u/\D x y z u/\E x y z u/\F x y z u/\I x y z u/\J x y z u/\K x y z u)(k:∀x y z u,A x y z u->B x y z u->C x y z u->D x y z u->E x y z u->F x y z u->I x y z u->J x y z u->K x y z u->H):H:=by obtain⟨x,y,z,u,g,c,j,b,f,d,a,e,i⟩:=h;exact k x y z u g c j b f d a e i
def Ym {i:Type}{e:Type}{f:Type}{d:Type}{j:Type}{A B C D:i->e->f->d->j->Prop}(h:∃x y z u v,A x y z u v/\B x y z u v/\C x y z u v/\D x y z u v)(k:∀x y z u v,A x y z u v->B x y z u v->C x y z u v->D x y z u v->H):H:=by obtain⟨x,y,z,u,v,g,b,c,a⟩:=h;exact k x y z u v g b c a
def Uc {o:Type}{p:Type}{s:Type}{r:Type}{q:Type}{n:Type}{A B C D E F I J K L:o->p->s->r->q->n->Prop}(h:∃x y z u v w,A x y z u v w/\B x y z u v w/\C x y z u v w/\D x y z u v w/\E x y z u v w/\F x y z u v w/\I x y z u v w/\J x y z u v w/\K x y z u v w/\L x y z u v w)(k:∀x y z u v w,A x y z u v w->B x y z u v w->C x y z u v w->D x y z u v w->E x y z u v w->F x y z u v w->I x y z u v w->J x y z u v w->K x y z u v w->L x y z u v w->H):H:=by obtain⟨x,y,z,u,v,w,g,d,l,c,i,e,a,f,j,b⟩:=h;exact k x y z u v w g d l c i e a f j b
def wq:FS:=av (aD dV (gN 2)) (av (b9 (ax (ag oLt bg (aj bL (ae b0 (af))))) (aD (ag ao b0 bg) (gN 2)) (aR)) (aM (aH mkRef (ae (ag cP cO (aj iZ (ae (ag Aa cO (ag (bX km (λi j=>i ^ j.toNat)) j6 (fC (.int 18)))) (af)))) (ae (ag bo (ag bo (ag (bX cR (· % ·)) cO mn) (ag cP (fC (.int 7919)) bg)) fh) (ae dV (af)))))))
def wt:FS:=av (b9 (ax (ag mM (ag ao b0 dV) dV)) (av (aD (ag (bX cR (· % ·)) (ag ao b0 dV) bg) (gN 2)) (av (aD (ag (bX fA (· / ·)) (ag ao b0 dV) bg) (dP b0 dV)) (aM cO))) (aR)) (av (aD (ag bo (ag ao b0 eh) cT) (dP b0 eh)) (av (aD (ag ao b0 eh) (gN 3)) (av (aD (ag (bX cR (· % ·)) (ag cP (ag ao b0 cT) (ag bo (ag bo (fC (.int 48271)) (ag cP (ag cP eh de) de)) (ag cP (fC (.int 65537)) de))) (fC (.int 2305843009213693921))) (gN 4)) (av (aD (ag bo (ag bo (ag (bX cR (· % ·)) ef (fC (.int 1000003))) (ag cP de (fC (.int 99991)))) (fC (.int 11))) (gN 5)) (av (aD (ag (bX cR (· % ·)) (ag cP ef d4) (fC (.int 2305843009213693907))) (gN 4)) (aM (ag (bX cR (· % ·)) (ag bo (ag (bX fA (· / ·)) ef (fC (.int 97))) (ag (bX fA (· / ·)) ef (fC (.int 1000033)))) bg)))))))
def Cy (take:Fn):FS:=aM (ag ao bg (aj take (ae b0 (ae (aj bL (ae bg (af))) (af)))))
mutual
noncomputable def nf:D->Bool
 |.fn _ _=>false|.tup c=>VN c|_=>true
noncomputable def VN:List D->Bool
 | []=>true|d::ds=>nf d&&VN ds
end
def mZ (a:-(2 ^ 64)<i)(b:i<2 ^ 64):c_ i u=true:=by unfold c_;rw[zg];exact .inl (acW (by lia))
def iI (a:-(2 ^ 64)<u)(b:u<2 ^ 64):c_ i u=true:=by unfold c_;rw[zg];exact .inr (acW (by lia))
def nR (a:0<u)(b:u<1073741824):fA i u=true:=by unfold fA;rw[nc];exact⟨acW (by lia),acW (by lia)⟩
def gv (a:0<u):cR i u=true:=acW (by lia)
def Hd (g:G)(n:Nat)(B:Int):Prop:=∃a b c:Int,g[n]? = some [.int a,.int b,.int c]/\0<=a/\0<=b/\b<2 ^ 62/\0<=c/\c<=B
def Hd.mono {g n B B'}(h:Hd g n B)(o:B<=B'):Hd g n B':=by obtain⟨a,b,c,e,j,d,i,f,l⟩:=h;exact⟨a,b,c,e,j,d,i,f,by lia⟩
def Hd.lt {g n B}(h:Hd g n B):n<g.length:=by obtain⟨_,_,_,a,_⟩:=h;exact(nz.mp a).1
def p0 (n:Nat)(g c:G):Prop:=c.length=g.length /\ ∀j,j≠n->c[j]? = g[j]?
def p0.refl {n g}:p0 n g g:=⟨rfl,λ_ _=>rfl⟩
theorem p0.trans {n g g1 g2}(a:p0 n g g1)(b:p0 n g1 g2):p0 n g g2:=⟨b.1.trans a.1,λj h=>(b.2 j h).trans (a.2 j h)⟩
theorem p0.set:p0 n a (a.set n A):=⟨by simp,λj h=>by rw[p9 (om h)]⟩
def EZ:cJ [v,b,t] 0=some v:=rfl
def qI:cJ [v,b,t] 1=some b:=rfl
def at2:cJ [v,b,t] 2=some t:=rfl
def Yn (h:a[n]? = some [t,b,g]):putD (.ref n) (.int 0) v a=some (a.set n [v,b,g]):=by unfold putD;simp only[h];rfl
def put2 (h:a[n]? = some [t,b,g]):putD (.ref n) (.int 2) v a=some (a.set n [t,b,v]):=by unfold putD;simp only[h];rfl
def c9 (f:Fn):Prop:=∀(n:Nat) (m:Int) (g:G) (B:Int),B<2 ^ 40->0<m->m<1073741824->Hd g n B ->
 ∃r c,f [.ref n,.int m] g=some (.int r,c)/\0<=r/\r<m/\Hd c n (B+1)/\p0 n g c
def Md:c9 (ak false 6 2 wt):=λn m g B U hm r h=>by
 obtain⟨a,b,c,d,o,i,l,s,vt⟩:=h;have f:n<g.length:=(nz.mp d).1;by_cases C:0<a
 . refine⟨a % m,g.set n [.int (a / m),.int b,.int c],bp (σ':=[some (.ref n),some (.int m),some (.int (a % m)),none,none,none]) rfl ?_ (by simp),afb _ (by lia),aes _ hm,⟨a / m,b,c,by simp[f],Int.ediv_nonneg o (by lia),i,l,s,by lia⟩,p0.set⟩
   simp[wt,d,EZ,C,gv hm,nR hm r,Yn d]
 . have j:(g.set n [.int a,.int b,.int (c+1)])[n]? = some [.int a,.int b,.int (c+1)]:=by simp[f]
   generalize e:b*(48271+2*(c+1)*(c+1)+65537*(c+1)) % 2305843009213693921=x;have X:0<=x:=by rw[<- e];exact afb _ (by decide)
   have Y:x<2305843009213693921:=by rw[<- e];exact aes _ (by decide)
   generalize q:x*(x % 1000003+(c+1)*99991+11) % 2305843009213693907=y;refine⟨(y / 97+y / 1000033) % m,g.set n [.int a,.int b,.int (c+1)],bp (σ':=[some (.ref n),some (.int m),none,some (.int (c+1)),some (.int y),some (.int (x % 1000003+(c+1)*99991+11))]) rfl ?_ (by simp),afb _ (by lia),aes _ hm,⟨a,b,c+1,j,o,i,l,by lia,by lia⟩,p0.set⟩;have p:c_ 2 (c+1)=true:=mZ (by decide) (by decide);have E:c_ (2*(c+1)) (c+1)=true:=iI (by lia) (by lia);have v:c_ 65537 (c+1)=true:=mZ (by decide) (by decide);have H:c_ b (48271+2*(c+1)*(c+1)+65537*(c+1))=true:=mZ (by lia) (by lia);have z:c_ (c+1) 99991=true:=iI (by decide) (by decide);have I:c_ x (x % 1000003+(c+1)*99991+11)=true:=mZ (by lia) (by lia);have J:cR (b*(48271+2*(c+1)*(c+1)+65537*(c+1))) 2305843009213693921=true:=gv (by decide);have M:cR x 1000003=true:=gv (by decide);have O:cR (x*(x % 1000003+(c+1)*99991+11)) 2305843009213693907=true:=gv (by decide);have u:cR (y / 97+y / 1000033) m=true:=gv hm;have Q:fA y 97=true:=nR (by decide) (by decide);have R:fA y 1000033=true:=nR (by decide) (by decide);simp[wt,d,EZ,qI,at2,C,put2 d,j,p,E,v,H,z,I,J,M,O,u,Q,R,e,q]
def c9.w (f:c9 h)(j:u<2 ^ 40)(l:0<i)(m:i<1073741824)(v:Hd a n u)(q:∀r p,0<=r->r<i->Hd p n (u+1)->p0 n a p->z (.int r,p)):ni (h [.ref n,.int i] a) z:=by refine fS (f n i a u j l m v) λr p e d g b c=>?_;exact⟨_,e,q r p d g b c⟩
def ie (f:Fn):Prop:=∀(n:Nat) (c:List D) (g:G) (B:Int),B<2 ^ 40->c ≠ []->c.length<1000->Hd g n B ->
 ∃d h,f [.ref n,.lst c] g=some (d,h)/\d∈c/\Hd h n (B+1)/\p0 n g h
def Me (s:c9 h):ie (ak false 2 2 (Cy h)):=λn u g B o l q t=>by
 have p:0<u.length:=ahg.mpr l;refine fS (s n (u.length:Int) g B o (by lia) (by lia) t) λr d e f c i b=>?_;have a:r.toNat<u.length:=by lia
 have j:cJ u r=some u[r.toNat]:=by unfold cJ lH;rw[if_pos f,if_pos c];exact nP a
 refine⟨u[r.toNat],d,bp (σ':=[some (.ref n),some (.lst u)]) rfl ?_ b.1,Ds a,i,b⟩;simp[Cy,e,j]
def ie.w (f:ie h)(j:i<2 ^ 40)(l:A ≠ [])(r:A.length<1000)(u:Hd a n i)(q:∀d p,d∈A->Hd p n (i+1)->p0 n a p->z (d,p)):ni (h [.ref n,.lst A] a) z:=by refine pC (f n A a i j l r u) λd p e c g b=>?_;exact⟨_,e,q d p c g b⟩
def VP:km 10 18=true:=by decide
def p12:km 10 12=true:=by decide
def Ff (f:Fn):Prop:=∀(h:List Int) (i:Nat) (g:G),i<=100->∃c,f [.lst (h.map .int),.int i] g=some (.ref g.length,g ++ [c])/\Hd (g ++ [c]) g.length 0
def jY {σ1:Sg}{g1:G}(h:Z l a=some (.nx,σ1,g1)):av Z d l a=d σ1 g1:=by rw[pU,h];rfl
def tO (h:Z l a=some (.rt v,E,U)):av Z d l a=some (.rt v,E,U):=by rw[pU,h];rfl
def jP {g1:G}{d:D}{i:Nat}(h:K l a=some (d,g1)):aD K (gN i) l a=some (.nx,l.set i (some d),g1):=by rw[kE,h];rfl
def lz {g1:G}(h:c l a=some (true,g1)):b9 c Z d l a=Z l g1:=by rw[D9,h];rfl
def cX {g1:G}(h:c l a=some (false,g1)):b9 c Z d l a=d l g1:=by rw[D9,h];rfl
def dE {g1:G}{d:D}(h:K l a=some (d,g1)):aM K l a=some (.rt d,l,g1):=by rw[Ac,h];rfl
def aI (h:n<=1000):az n=true:=by rw[Ld];exact decide_eq_true (by lia)
def Mf:Ff (ak true 3 2 wq):=λq i g n=>by
 have fin:∀cell:Int,∃r,(aM (aH mkRef (ae (ag cP cO (aj iZ (ae (ag Aa cO (ag (bX km (λi j=>i ^ j.toNat)) j6 (fC (.int 18)))) (af)))) (ae (ag bo (ag bo (ag (bX cR (· % ·)) cO mn) (ag cP (fC (.int 7919)) bg)) fh) (ae dV (af)))))) [some (.lst (q.map .int)),some (.int i),some (.int cell)] g=some (.rt (.ref g.length),[some (.lst (q.map .int)),some (.int i),some (.int cell)],g ++ [r])/\Hd (g ++ [r]) g.length 0:=by
   intro cell;have p:0<=cell % 2305843009213693951:=afb _ (by decide);have o:cell % 2305843009213693951<2305843009213693951:=aes _ (by decide);have c:cR cell 2305843009213693951=true:=gv (by decide);have f:c_ 7919 (i:Int)=true:=mZ (by decide) (by decide);by_cases hc:1000000000000000000<=cell
   . have a:c_ cell 1=true:=iI (by decide) (by decide)
     refine⟨[.int cell,.int (cell % 2305843009213693951+7919*i+3),.int 0],by simp[VP,hc,a,f,c],?_⟩;exact⟨cell,cell % 2305843009213693951+7919*i+3,0,by simp,by lia,by lia,by lia,by lia,by lia⟩
   . have a:c_ cell 0=true:=iI (by decide) (by decide)
     refine⟨[.int 0,.int (cell % 2305843009213693951+7919*i+3),.int 0],by simp[VP,hc,a,f,c],?_⟩;exact⟨0,cell % 2305843009213693951+7919*i+3,0,by simp,by lia,by lia,by lia,by lia,by lia⟩
 by_cases h:i<q.length
 . obtain⟨r,e,b⟩:=fin q[i]
   refine⟨r,Ae (σ':=[some (.lst (q.map .int)),some (.int i),some (.int q[i])]) rfl ?_,b⟩;unfold wq;refine(jY (jP (d:=.int 0) (g1:=g) rfl)).trans ?_;refine(jY (σ1:=[some (.lst (q.map .int)),some (.int i),some (.int q[i])]) (g1:=g) ((lz (g1:=g) ?_).trans (jP ?_))).trans e
   . have:(i:Int)<(q.length:Int):=by lia
     simp[this]
   . have l:cJ (q.map D.int) (i:Int)=some (.int q[i]):=gC (by simp[h])
     simp[l]
 . obtain⟨r,e,b⟩:=fin 0
   refine⟨r,Ae (σ':=[some (.lst (q.map .int)),some (.int i),some (.int 0)]) rfl ?_,b⟩;unfold wq;refine(jY (jP (d:=.int 0) (g1:=g) rfl)).trans ?_;refine(jY (σ1:=[some (.lst (q.map .int)),some (.int i),some (.int 0)]) (g1:=g) ((cX (g1:=g) ?_).trans rfl)).trans e;have:¬(i:Int)<(q.length:Int):=by lia
   simp[this]
noncomputable def fT (i:Int)(n:Nat):List D:=(sv n).map λ(k:Nat)=>D.int (i+k)
def cA {i n}:(fT i n).length=n:=by simp[fT]
def qd {fr:FA}{σ:Sg}{g:G}{Q:List D×G->Prop}(h:ni (fr σ g) λr=>∃j:Int,r.1 = [.int j] /\ -1000000<=j/\j<=1000000/\Q (fT 0 j.toNat,r.2)):ni (dR fr σ g) Q:=by obtain⟨⟨ds,c⟩,e,j,rfl,a,b,q⟩:=h;refine⟨_,?_,q⟩;unfold dR;rw[e];simp only[nv];rw[if_pos (fK.of a b)];rfl
def Mg (h:(fT i n)[p]? = some v):p<n/\v = .int (i+p):=by
 unfold fT at h;rw[qy]at h;cases c:(sv n)[p]? with
 |none=>rw[c]at h;cases h
 |some x =>
  rw[c]at h;have a:=(nz.mp c).1;have:x=p:=by rw[Z3 (by simpa using a)]at c;cases c;rfl
  subst this;cases h;exact⟨by simpa using a,rfl⟩
def dj (h:(fT 0 n)[p]? = some v):p<n/\v = .int p:=by obtain⟨a,rfl⟩:=Mg h;exact⟨a,by simp⟩
def Mh (s:A.length=o)(h:ni (Z (A.map some++nW (p-o) none) a) λr=>∃(k:Nat) (g:List D),r.1 = .rt (.ref k)/\a.length<=k/\r.2.2[k]? = some g/\aF a.length g=true/\(r.2.2.take a.length).all (aF a.length)=true/\z (.lst g,r.2.2.take a.length)):ni (ak false p o Z A a) z:=by
 obtain⟨⟨r,u,b⟩,e,k,g,rfl,l,c,f,j,q⟩:=h;dsimp only at *;unfold ak;rw[if_pos s,e];have n:k<b.length:=(nz.mp c).1;refine⟨_,?_,q⟩;have i:¬b.length=a.length:=by lia
 have d:¬k<a.length:=by lia
 simp only[nv,sJ,if_false];unfold HT;rw[if_neg i,if_pos j];dsimp only;rw[if_neg d,c];simp only[f,if_true]
theorem eY {n:Nat}:∀{c:List D},(∀x∈c,bU n x=true)->aF n c=true
 | [],_=>rfl|x::c,h=>by simp only[aF,nc];exact⟨h x (by simp),eY λy a=>h y (by simp[a])⟩
theorem nS {n:Nat}:∀{c:List D},aF n c=true->∀x∈c,bU n x=true
 | [],_,x,hx=>by simp at hx
 |y::c,h,x,hx=>by
  simp only[aF,nc]at h;rcases nQ.mp hx with rfl|hx
  . exact h.1
  . exact nS h.2 x hx
def eK (h:aF n A=true)(b:aF n j=true):aF n (A++j)=true:=eY λx a=>by
 rcases nY.mp a with a|a
 . exact nS h x a
 . exact nS b x a
def Fg (h:A[n]? = some v):cJ A (n:Int)=some v:=by
 have c:=(nz.mp h).1;have b:(0:Int)<=n:=by lia
 have a:(n:Int)<(A.length:Int):=by lia
 unfold cJ lH;rw[if_pos b,if_pos a];simpa using h
theorem baH:∀c:List Int,fM (c.map .int)=some c
 | []=>rfl|v::c=>by simp[fM,baH c]
def yw:FS:=aM (oX [(kX,b0),(hI,bg),(iY,cO),(i7,aH mkRef af),(i8,aH mkRef af)])
def Cz (take other:Fn):FS:=av (b9 (gX (ax (ag mM (ag ao b0 iY) dV)) (gX (ax (ag iz bg (ag ao b0 ir))) (ax (ag oEq (aj take (ae (ag ao b0 kX) (ae fh af))) dV)))) (av (aD (ag (bX dJ (· - ·)) (ag ao b0 iY) cT) (dP b0 iY)) (aD (aj other (ae b0 (ae bg af))) (dP (ag ao b0 hI) bg))) aR) (av (cQ (dD isRef bZ (ag ao b0 i7) (ae (aH ay (ae jR (ae bg af))) af))) (av (cQ (dD isRef bZ (ag ao b0 i8) (ae (ag ao (ag ao b0 hI) bg) af))) (aM (ag ao (ag ao b0 hI) bg))))
def setB:FS:=av (cQ (dD isRef bZ (ag ao b0 i7) (ae (aH ay (ae j0 (ae bg (ae cO af)))) af))) (av (cQ (dD isRef bZ (ag ao b0 i8) (ae fk af))) (aD cO (dP (ag ao b0 hI) bg)))
def lA (c:Fn):FS:=av (aD (aH mkRef af) (gN 3)) (av (dB (dR (ae cO af)) (gN 4) (cQ (dD isRef bZ de (ae (aj c (ae b0 (ae (aH ay (ae bg (ae ef af))) af))) af)))) (aM de))
def rC (a:Fn):FS:=av (aD (aH ay af) (gN 6)) (av (nF (pZ (ag ao ef i7) (ag ao ef i8)) (gT 2 (a_ (gN 7) (a_ (gN 8) fz))) (av (b9 (ax (ag bf (aj a (ae b0 (ae bg (ae cO (ae de (ae ee af)))))) fb)) (aM (fC (.bl false))) aR) (aD (ag bo ee (aH ay (ae fc af))) (gN 6)))) (av (aD (aj a (ae b0 (ae bg (ae cO (ae de (ae ee af)))))) (gN 9)) (aM (ip (BR .tuple eW) (ip (ag oEq eW (aH ay (ae hF (ae d4 af)))) (ag oEq (aj a (ae b0 (ae bg (ae cO (ae de (ae ee af)))))) eW))))))
def tP (pick:Fn):FS:=aM (aj gZ (ae (bC bD (dR (ae bg af)) [none,none,some 0] (gN 1) cC (aj pick (ae cO (ae (aH dI (ae dV (ae cT (ae eh (ae fh (ae (fC (.int 8)) (ae (fC (.int 9)) (ae (fC (.int 11)) af)))))))) af)))) af))
def tR (take pick:Fn):FS:=aM (aj pick (ae b0 (ae (aH dI (ae cT (ae eh (ae eh (ae fh (ae fh (ae eh (ae fh (ae (ag bo jc (aj take (ae b0 (ae eh af)))) af))))))))) af)))
def wu (take pick:Fn):FS:=av (aD (aj take (ae b0 (ae (fC (.int 8)) af))) (gN 1)) (av (b9 (ax (ag oEq bg dV)) (aM (aH ay (ae (aj take (ae b0 (ae la af))) (ae (aH ay (ae (ag (bX dJ (· - ·)) (aj take (ae b0 (ae fh af))) cT) (ae (aH ay af) af))) af)))) aR) (av (b9 (ax (ag oEq bg cT)) (aM (aj pick (ae b0 (ae (aH dI (ae (sr nG cT) (ae (ag (bX dJ (· - ·)) (ag (bX km (λi j=>i ^ j.toNat)) j6 (fC (.int 12))) cT) (ae (ag (bX dJ (· - ·)) cT (ag (bX km (λi j=>i ^ j.toNat)) j6 (fC (.int 12)))) (ae (aH ay af) (ae (aH ay (ae dV af)) af)))))) af)))) aR) (aM (aj take (ae b0 (ae (fC (.int 7)) af))))))
noncomputable def W0 (h b:Nat)(l:Int)(s r:Nat):List D:=[.str "hand",.ref h,.str "boxes",.aA b,.str "left",.int l,.str "steps",.ref s,.str "reads",.ref r]
def m7:aJ (W0 n p i s o++A) (.str "hand")=some (.ref n):=rfl
def qf:aJ (W0 n p i s o++A) (.str "boxes")=some (.aA p):=rfl
def tS:aJ (W0 n p i s o++A) (.str "left")=some (.int i):=rfl
def uC:aJ (W0 n p i s o++A) (.str "steps")=some (.ref s):=rfl
def uD:aJ (W0 n p i s o++A) (.str "reads")=some (.ref o):=rfl
def rD:aJ (W0 n p i s o++A) (.str "moving")=aJ A (.str "moving"):=rfl
def Mi:aJ (W0 n p i s o++A) (.str "hands")=aJ A (.str "hands"):=rfl
def Qp:aP (W0 n p u s o++A) (.str "left") (.int i)=W0 n p i s o++A:=rfl
def AV (f:Fn):Prop:=∀h b l g,f [.ref h,.aA b,.int l] g=some (.aA g.length,g ++ [W0 h b l (g.length+1) (g.length+2),[],[]])
theorem tT {n:Nat}:∀(ps:List (D×D)) (g:G) (xs:List D),g[n]? = some xs->ps.all (λp=>aU 6 p.1)=true->xs.length+2*ps.length<=1000->Xb n ps g=some (g.set n (ps.foldl (λa p=>aP a p.1 p.2) xs))
 | [],g,xs,h,_,_=>by simp only[Xb,List.foldl_nil,adR];obtain⟨d,e⟩:=nz.mp h;rw[<- e,Vu]
 |p::ps,g,xs,h,hk,hz=>by
  rw[Z_,nc]at hk;simp only[xk]at hz;have f:iH xs=true:=by unfold iH;exact aI (by lia)
  have d:=(nz.mp h).1;have q:(aP xs p.1 p.2).length<=xs.length+2:=by
   have:∀(k:Nat) (xs:List D),xs.length<=k->(aP xs p.1 p.2).length<=xs.length+2:=λk=>by
    induction k with
    |zero=>intro xs c;match xs,c with| [],_=>simp[aP]
    |succ k i =>
     intro xs c;match xs,c with
     | [],_=>simp[aP]| [a],_=>simp[aP]
     |a::b::r,c =>
      simp only[aP];split
      . simp
      . have:=i r (by simp at c;lia)
        simp;lia
   exact this _ xs (nA _)
  have i:=tT ps (g.set n (aP xs p.1 p.2)) (aP xs p.1 p.2) (tv d) hk.2 (by lia);have e:mh (.aA n) p.1 p.2 g=some (g.set n (aP xs p.1 p.2)):=by simp only[HB,h,nv,hk.1,f,aec,if_true]
  unfold Xb;rw[e,nv,i,XT];rfl
def HC:AV (ak true 3 3 yw):=λh b l g=>by
 have e:oX [(kX,b0),(hI,bg),(iY,cO),(i7,aH mkRef af),(i8,aH mkRef af)] [some (.ref h),some (.aA b),some (.int l)] g=some (.aA g.length,g ++ [W0 h b l (g.length+1) (g.length+2),[],[]]):=by
  have d:um [(kX,b0),(hI,bg),(iY,cO),(i7,aH mkRef af),(i8,aH mkRef af)] [some (.ref h),some (.aA b),some (.int l)] (g ++ [[]])=some ([(.str "hand",.ref h),(.str "boxes",.aA b),(.str "left",.int l),(.str "steps",.ref (g.length+1)),(.str "reads",.ref (g.length+2))],g ++ [[],[],[]]):=by simp[um,mkRef,az,nE]
  unfold oX;rw[d];simp only[nv];rw[tT (xs:=[]) _ _ (by simp) (by rfl) (by simp)];have c:agY (λa (p:D×D)=>aP a p.1 p.2) [] [(.str "hand",.ref h),(.str "boxes",.aA b),(.str "left",.int l),(.str "steps",.ref (g.length+1)),(.str "reads",.ref (g.length+2))]=W0 h b l (g.length+1) (g.length+2):=rfl;rw[c];simp
 unfold ak yw;simp[Ac,e]
def cq (h:List Nat)(g c:G):Prop:=c.length=g.length /\ ∀j,j ∉ h->c[j]? = g[j]?
def cq.refl {cs g}:cq cs g g:=⟨rfl,λ_ _=>rfl⟩
theorem cq.trans {cs g g1 g2}(a:cq cs g g1)(b:cq cs g1 g2):cq cs g g2:=⟨b.1.trans a.1,λj h=>(b.2 j h).trans (a.2 j h)⟩
def cq.of {n cs g g'}(h:p0 n g g')(m:n∈cs):cq cs g g':=⟨h.1,λj a=>h.2 j λe=>a (e ▸ m)⟩
theorem cq.set (m:n∈X):cq X a (a.set n A):=.of p0.set m
def tU (nd:[n,p,o,s,k].Nodup):(n≠p/\n≠o/\n≠s/\n≠k)/\(p≠o/\p≠s/\p≠k)/\(o≠s/\o≠k)/\s≠k/\True:=by simp only[D5,nQ,vV,or_false,not_or]at nd;exact⟨nd.1,nd.2.1,nd.2.2.1,nd.2.2.2.1,trivial⟩
def CA {N x:Nat}(g:n<N)(h:p<N)(a:o<N)(i:s<N)(q:k<N)(c:N<=x):x ∉ [n,p,o,s,k]:=by simp only[nQ,vV,or_false,not_or];lia
def iB (h:n ∉ X)(a:n≠p):n ∉ X ++ [p]:=λm=>(nY.mp m).elim h λe=>a (afD.mp e)
def dS:List D->Bool
 |k::_::r=>aU 6 k&&dS r| []=>true|_=>false
theorem gw {k v:D}(c:aU 6 k=true):∀{g:List D},dS g=true->aJ (aP g k v) k=some v
 | [],_=>by simp only[aP,aJ];rw[if_pos ((gq k k c c).mpr rfl)]| [_],h=>by cases h
 |a::b::r,h=>by
  simp only[dS,nc]at h;simp only[aP];by_cases e:bq a k=true
  . rw[if_pos e];simp only[aJ];rw[if_pos e]
  . rw[if_neg e];simp only[aJ];rw[if_neg e];exact gw c h.2
theorem kG {k f v:D}(i:aU 6 k=true)(j:aU 6 f=true)(n:k≠f):∀{g:List D},dS g=true->aJ (aP g k v) f=aJ g f
 | [],_=>by simp only[aP,aJ];rw[if_neg λz=>n ((gq k f i j).mp z)]| [_],h=>by cases h
 |a::b::r,h=>by
  simp only[dS,nc]at h;simp only[aP];by_cases e:bq a k=true
  . have d:=(gq a k h.1 i).mp e
    subst d;have c:¬bq a f=true:=λz=>n ((gq a f i j).mp z);rw[if_pos e];simp only[aJ];rw[if_neg c,if_neg c]
  . rw[if_neg e]
    simp only[aJ];rw[kG i j n h.2]
theorem jC {k v:D}(c:aU 6 k=true):∀{g:List D},dS g=true->dS (aP g k v)=true
 | [],_=>by simp[aP,dS,c]| [_],h=>by cases h
 |a::b::r,h=>by
  simp only[dS,nc]at h;simp only[aP];split
  . simp[dS,h]
  . simp[dS,h,jC c h.2]
theorem m8 {k v c:D}:∀{g:List D},aJ g k=some c->(aP g k v).length=g.length
 | [],h=>by cases h| [_],h=>by cases h
 |a::b::r,h=>by
  simp only[aP,aJ]at h ⊢;split
  . simp
  . rename_i e
    rw[if_neg e]at h;simp[m8 h]
def Hd.ne {xs:List D}(f:Hd a p i)(g:n≠p):Hd (a.set n xs) p i:=by obtain⟨B,b,c,d,e⟩:=f;exact⟨B,b,c,by rw[p9 g];exact d,e⟩
def rE (take other:Fn):FS:=(b9 (gX (ax (ag mM (ag ao b0 iY) dV)) (gX (ax (ag iz bg (ag ao b0 ir))) (ax (ag oEq (aj take (ae (ag ao b0 kX) (ae fh af))) dV)))) (av (aD (ag (bX dJ (· - ·)) (ag ao b0 iY) cT) (dP b0 iY)) (aD (aj other (ae b0 (ae bg af))) (dP (ag ao b0 hI) bg))) aR)
def HD:FS:=(av (cQ (dD isRef bZ (ag ao b0 i7) (ae (aH ay (ae jR (ae bg af))) af))) (av (cQ (dD isRef bZ (ag ao b0 i8) (ae (ag ao (ag ao b0 hI) bg) af))) (aM (ag ao (ag ao b0 hI) bg))))
def Qq:Cz h q=av (rE h q) HD:=rfl
def fH:aU 6 (.str x)=true:=rfl
theorem iC {n:Nat}{k v:D}(d:bU n k=true)(c:bU n v=true):∀{g:List D},aF n g=true->aF n (aP g k v)=true
 | [],_=>by simp[aP,aF,d,c]| [_],_=>by simp[aP,aF,d,c]
 |a::b::r,h=>by
  simp only[aF,nc]at h;simp only[aP];split
  . simp[aF,h,c]
  . simp[aF,h,iC d c h.2.2]
mutual
theorem bQ {n:Nat}:∀d:D,flat d=true->bU n d=true
 |.aB,_=>rfl|.bl _,_=>rfl|.int _,_=>rfl|.str _,_=>rfl|.tup c,h=>by simp only[bU];exact d9 c (by simpa[flat]using h)|.lst c,h=>by simp only[bU];exact d9 c (by simpa[flat]using h)|.dU,h=>by simp[flat]at h|.ref _,h=>by simp[flat]at h|.aA _,h=>by simp[flat]at h|.fn _ _,h=>by simp[flat]at h
theorem d9 {n:Nat}:∀ds:List D,aO ds=true->aF n ds=true
 | [],_=>rfl|d::ds,h=>by simp only[aO,nc]at h;simp only[aF,bQ d h.1,d9 ds h.2,aec]
end
noncomputable def own (nm:Str)(j:Nat):D:=.tup [.str nm,.int j]
def Jz:aU 6 (own x n)=true:=rfl
def Qr (h:n≠p):own x n≠own x p:=λe=>by
 unfold own at e;injection e with e
 injection e with _ e
 injection e with e _
 injection e with e
 lia
def fW (nm:Str)(n:Nat):List D:=(sv n).map λj=>.tup [.str "read",own nm j]
def HE {nm n}:fW nm (n+1)=fW nm n ++ [.tup [.str "read",own nm n]]:=by simp[fW,afc]
def uE {nm n}:(fW nm n).length=n:=by simp[fW]
def Fh (P:D->Prop)(nm:Str)(n:Nat)(a:List D):Prop:=∀i,i<n->∃c,aJ a (own nm i)=some c/\P c
def Bd (g:G):Prop:=∀(i:Nat) c,g[i]? = some c->aF g.length c=true
def eM (h:n<=p):∀{g:List D},aF n g=true->aF p g=true:=by
 have main:∀d:D,bU n d=true->bU p d=true:=λd=>by
  refine D.rec (motive_1:=λd=>bU n d=true->bU p d=true) (motive_2:=λds=>aF n ds=true->aF p ds=true) ?_ ?_ ?_ ?_ ?_ ?_ ?_ ?_ ?_ ?_ ?_ ?_ d
  . intro h;rfl
  . intro b h;rfl
  . intro b h;rfl
  . intro b h;rfl
  . intro g i h;simpa[bU]using i (by simpa[bU]using h)
  . intro g i h;simpa[bU]using i (by simpa[bU]using h)
  . intro h;rfl
  . intro k h;simp only[bU,decide_eq_true_eq]at h ⊢;lia
  . intro k h;simp only[bU,decide_eq_true_eq]at h ⊢;lia
  . intro x g i h;simpa[bU]using i (by simpa[bU]using h)
  . intro h;rfl
  . intro x g a e h
    simp only[aF,nc]at h ⊢;exact⟨a h.1,e h.2⟩
 intro g h;exact eY λx c=>main x (nS h x c)
theorem Hd.take (h:Hd a n i)(q:n<p):Hd (a.take p) n i:=by obtain⟨g,b,c,d,e⟩:=h;exact⟨g,b,c,by rw[B0 q];exact d,e⟩
def AW {nm n m}:aF m (fW nm n)=true:=eY λx a=>by simp only[fW,oa]at a;obtain⟨j,_,rfl⟩:=a;rfl
structure yx (next:Fn)(m ow dd ah:D)(st rd:List D)(jl:D)(g:G):Prop where
 at_:∀i,i<rd.length->∃x,st[i]? = some x/\next [m,ow,dd,ah,.tup (rd.take i)] g=some (x,g)
 fin:next [m,ow,dd,ah,.tup rd] g=some (.tup [.str "told",jl],g)
def VQ:gT 2 (a_ (gN n) (a_ (gN p) fz)) (.tup [v,b]) l a=some ((l.set n (some v)).set p (some b),a):=by simp
def vG (d:D):Prop:=flat d=true/\dep d<=3
def jZ (f:Fn):Prop:=∀n g B,B+3<2 ^ 40->Hd g n B->∃d c,f [.ref n] g=some (d,c)/\vG d/\Hd c n (B+3)/\p0 n g c
def Mj (A:c9 h)(C:ie q):jZ (ak false 2 1 (wu h q)):=λn g B z hd=>by
 have J:ni (ak false 2 1 (wu h q) [.ref n] g) λpick=>vG pick.1/\Hd pick.2 n (B+3)/\p0 n g pick.2:=by
  refine NV rfl ?_;simp[wu];refine A.w (by lia) (by decide) (by decide) hd λr Q take c b I=>?_;simp;by_cases M:r=0
  . subst M
    simp;refine A.w (by lia) (by decide) (by decide) b λu O take c E H=>?_;simp;refine A.w (by lia) (by decide) (by decide) E λy R take c p i=>?_;have s:az 2=true:=rfl;have f:az 0=true:=rfl;simp[s,f];exact⟨(I.trans (H.trans i)).1,⟨by simp[flat,aO],by simp[dep,bF]⟩,p.mono (by lia),I.trans (H.trans i)⟩
  . by_cases a:r=1
    . subst a
      have v:az 5=true:=rfl;have f:az 0=true:=rfl;have l:az 1=true:=rfl;simp[v,f,l,p12];refine C.w (by lia) (by simp) (by simp) b λd O hm E H=>?_;refine⟨(I.trans H).1,?_,E.mono (by lia),I.trans H⟩;simp only[nQ,vV,or_false]at hm;rcases hm with rfl|rfl|rfl|rfl|rfl<;>exact⟨by simp[flat,aO],by simp[dep,bF]⟩
    . simp[M,a]
      refine A.w (by lia) (by decide) (by decide) b λu O take c E H=>?_;exact⟨(I.trans H).1,⟨by simp[flat],by simp[dep]⟩,E.mono (by lia),I.trans H⟩
 obtain⟨⟨d,x⟩,e,a,o,j⟩:=J;exact⟨d,x,e,a,o,j⟩
def AX (f:Fn):Prop:=∀n g B,B+2<2 ^ 40->Hd g n B->∃(k:Nat) (c:G),f [.ref n] g=some (.int k,c)/\1<=k/\k<=5/\Hd c n (B+2)/\p0 n g c
def HF (u:c9 h)(v:ie q):AX (ak false 1 1 (tR h q)):=λn g B p hd=>by
 have x:ni (ak false 1 1 (tR h q) [.ref n] g) λpick=>∃k:Nat,pick.1 = .int k/\1<=k/\k<=5/\Hd pick.2 n (B+2)/\p0 n g pick.2:=by
  refine NV rfl ?_;simp[tR];refine u.w (by lia) (by decide) (by decide) hd λr H s o a C=>?_;have z:az 8=true:=rfl;simp[z];refine v.w (by lia) (by simp) (by simp) a λd I hm y E=>?_;refine⟨(C.trans E).1,?_⟩;have:∃k:Nat,d = .int k/\1<=k/\k<=5:=by
   simp only[nQ,vV,or_false]at hm;rcases hm with rfl|rfl|rfl|rfl|rfl|rfl|rfl|rfl
   . exact⟨1,rfl,by decide,by decide⟩
   . exact⟨2,rfl,by decide,by decide⟩
   . exact⟨2,rfl,by decide,by decide⟩
   . exact⟨3,rfl,by decide,by decide⟩
   . exact⟨3,rfl,by decide,by decide⟩
   . exact⟨2,rfl,by decide,by decide⟩
   . exact⟨3,rfl,by decide,by decide⟩
   . exact⟨(4+r).toNat,by rw[Wg (by lia)],by lia,by lia⟩
  obtain⟨k,rfl,i,l⟩:=this;exact⟨k,rfl,i,l,y.mono (by lia),C.trans E⟩
 obtain⟨⟨d,j⟩,e,k,rfl,take,f,b,c⟩:=x;exact⟨k,j,e,take,f,b,c⟩
def AY (f:Fn):Prop:=∀n (k:Nat) g (B:Int),k<=20->B+k<2 ^ 40->Hd g n B->∃(is:List Nat) (c:G),f [.ref n,.int k] g=some (.tup (is.map λ(i:Nat)=>D.int i),c)/\is.length=k/\Hd c n (B+k)/\p0 n g c
def HG (z:ie h):AY (ak false 2 2 (tP h)):=λn k g B x y hd=>by
 have E:ni (ak false 2 2 (tP h) [.ref n,.int k] g) λq=>∃is:List Nat,q.1 = .tup (is.map λ(i:Nat)=>D.int i)/\is.length=k/\Hd q.2 n (B+k)/\p0 n g q.2:=by
  refine NV rfl ?_;simp[tP];refine qd ?_;have l:az k=true:=aI (by lia);simp[cA,l];refine⟨by lia,?_⟩;refine kY (λj C H b=>(∃pick,H = [none,pick,some (.ref n)])/\(∃is:List Nat,C=is.map (λ(i:Nat)=>D.int i)/\is.length=j)/\Hd b n (B+j)/\p0 n g b) _ 0 _ _ [] ⟨⟨none,rfl⟩,⟨[],by simp,rfl⟩,by simpa using hd,.refl⟩ ?_ ?_
  . rintro j d C H b u ⟨⟨pick,rfl⟩,⟨is,rfl,a⟩,c,f⟩
    obtain⟨v,rfl⟩:=dj u;have s:az 7=true:=rfl;simp[s];refine z.w (by lia) (by simp) (by simp) c λd M hm I J=>?_;have:∃k:Nat,d = .int k:=by
     simp only[nQ,vV,or_false]at hm;rcases hm with rfl|rfl|rfl|rfl|rfl|rfl|rfl
     . exact⟨0,rfl⟩
     . exact⟨1,rfl⟩
     . exact⟨2,rfl⟩
     . exact⟨3,rfl⟩
     . exact⟨8,rfl⟩
     . exact⟨9,rfl⟩
     . exact⟨11,rfl⟩
    obtain⟨i,rfl⟩:=this;simp at a;exact⟨⟨is ++ [i],by simp,by simp[a]⟩,I.mono (by lia),f.trans J⟩
  . rintro O H b ⟨_,⟨is,e,a⟩,c,f⟩
    simp[cA]at e a c;subst e;simp[bD,a,l];exact⟨f.1,is,rfl,a,c,f⟩
 obtain⟨⟨d,b⟩,e,is,rfl,r,p,o⟩:=E;exact⟨is,b,e,r,p,o⟩
def Bd.app (h:Bd a)(g:∀y∈U,aF (a.length+U.length) y=true):Bd (a++U):=λi c e=>by
 rw[nh];by_cases n:i<a.length
 . rw[r_ n]at e
   exact eM (WG _ _) (h i c e)
 . rw[CY (by lia)]at e
   exact g c (ta e)
theorem Bd.set (h:Bd a)(b:aF a.length A=true):Bd (a.set n A):=λi p e=>by
 rw[S3];by_cases c:i=n
 . subst c
   have g:i<a.length:=by have:=(nz.mp e).1;simpa using this
   rw[tv g]at e;cases e;exact b
 . rw[p9 (om c)]at e
   exact h i p e
def Fi (f:Hd a n i)(e:a[n]? = some A):aF p A=true:=by obtain⟨g,b,c,d,_⟩:=f;rw[d]at e;cases e;simp[aF,bU]
def Bd.fr (b:Bd a)(f:p0 n a U)(g:Hd U n i):Bd U:=λc p e=>by
 by_cases h:c=n
 . subst h;exact Fi g e
 . rw[f.1];rw[f.2 c h]at e;exact b c p e
def Bd.hand (b:Bd a)(c:Hd (a ++ [A]) a.length i):Bd (a ++ [A]):=b.app λy g=>by simp at g;subst g;exact Fi c (by simp)
def Hd.app (f:Hd a n i):Hd (a++U) n i:=by obtain⟨g,b,c,d,e⟩:=f;exact⟨g,b,c,by rw[r_ (nz.mp d).1];exact d,e⟩
def vx:FT:=ax (ag oLe (ag bo ee bg) (aj bL (ae de af)))
def Qt (R:Str->Option Fn):FS:=rg 6 (λi j=>i+j) b0
def CB (R:Str->Option Fn):FS:=av (b9 (ax (ag mM (aj bL (ae eW af)) dV)) (aM (aH ay (ae ee (ae (aj ((kB me i0)) (ae eW af)) af)))) aR) (Qt R)
def Yo (R:Str->Option Fn):FS:=av (aD (bC bD (da fb) [none,none,some 2,some 5] (gN 1) (ax (ag oEq (ag ao de bg) cO)) bg) (gN 9)) (CB R)
def Yp (R:Str->Option Fn):FS:=av (dB (da fb) (gN 8) (aD (ag bo (dD ky k9 d4 (ae fc (ae dV af))) cT) (dP d4 fc))) (Yo R)
def Yq (R:Str->Option Fn):FS:=av (b9 (ax (ag oEq (aj bL (ae fb af)) dV)) (aM (aH ay (ae ee (ae fk af)))) aR) (Yp R)
def pD (R:Str->Option Fn):FS:=av (aD (ja R 4 (ae (dC de (bG ee) (bG (ag bo ee bg))) af)) (gN 7)) (Yq R)
def iq (R:Str->Option Fn):FS:=av (aD kz (gN 5)) (av (aD dV (gN 6)) (av (zR 1000000 (ax (ag oLe (ag bo ee bg) (aj bL (ae de af)))) (av (aD (ja R 4 (ae (dC de (bG ee) (bG (ag bo ee bg))) af)) (gN 7)) (av (b9 (ax (ag oEq (aj bL (ae fb af)) dV)) (aM (aH ay (ae ee (ae fk af)))) aR) (av (dB (da fb) (gN 8) (aD (ag bo (dD ky k9 d4 (ae fc (ae dV af))) cT) (dP d4 fc))) (av (aD (bC bD (da fb) [none,none,some 2,some 5] (gN 1) (ax (ag oEq (ag ao de bg) cO)) bg) (gN 9)) (av (b9 (ax (ag mM (aj bL (ae eW af)) dV)) (aM (aH ay (ae ee (ae (aj ((kB me i0)) (ae eW af)) af)))) aR) (rg 6 (λi j=>i+j) b0))))))) (aM fk)))
noncomputable def num:D->Int
 |.tup (_ :: .int m::_)=>m|_=>0
def Ji (c:D):Prop:=∃v m r,c = .tup (v :: .int m::r)
noncomputable def dN (l:List Nat):List D:=l.map λ(j:Nat)=>D.int j
def cG {l}:(dN l).length=l.length:=by simp[dN]
structure SD (sd:List D)(f:Nat->Nat)(N:Nat):Prop where
 ka:dS sd=true
 at_:∀j:Nat,aJ sd (.int j)=if f j=0 then none else some (.int (f j))
 len:sd.length<=N
 nr:aF 0 sd=true
def SD.put {d f N}(h:SD d f N)(j:Nat):SD (aP d (.int j) (.int (f j+1:Nat))) (λi=>f i+if i=j then 1 else 0) (N+2):=by
 refine⟨jC rfl h.ka,λi=>?_,?_,iC rfl rfl h.nr⟩
 . by_cases e:i=j
   . subst e
     rw[gw rfl h.ka];simp
   . rw[kG rfl rfl (λz=>e (by injection z with z;lia)) h.ka,h.at_]
     simp[e]
 . have:∀(g:List D) k v,(aP g k v).length<=g.length+2:=λg k v=>by
     have:∀(n:Nat) (g:List D),g.length<=n->(aP g k v).length<=g.length+2:=λn=>by
      induction n with
      |zero=>intro g c;match g,c with| [],_=>simp[aP]
      |succ n p =>
       intro g c;match g,c with
       | [],_=>simp[aP]| [a],_=>simp[aP]
       |a::b::r,c =>
        simp only[aP];split
        . simp
        . have:=p r (by simp at c;lia)
          simp;lia
     exact this _ g (nA _)
   have:=this d (.int j) (.int (f j+1:Nat));have:=h.len;lia
noncomputable def cY (f:Nat->Nat)(l:List Nat):Nat->Nat:=λi=>f i+if i∈l then 1 else 0
def jq (f:Nat->Nat)(c:D)(l:List Nat):List Nat:=l.filter λj=>bq (.int (f j:Nat)) c
def uF {rd:List D}{m:Nat}(h:s+m<=rd.length):tf rd (some (s:Int)) (some ((s+m:Nat):Int))=(rd.drop s).take m:=by unfold tf;rw[jx (by lia),xp h,show s+m-s=m by lia]
def Mk {σ:Sg}{g:G}{l:List Nat}(v:g[n]? = some A)(S:SD A f p)(nd:l.Nodup)(x:p+2*l.length<=900)(y:σ[5]? = some (some (.aA n)))(u:σ.length=10):
  ∃B C,forL (gN 8) (aD (ag bo (dD ky k9 d4 (ae fc (ae dV af))) cT) (dP d4 fc)) (dN l) σ g=some (.nx,σ.set 8 C,g.set n B)/\SD B (cY f l) (p+2*l.length)/\(l = []->σ.set 8 C=σ):=by
 induction l generalizing σ g A f p with
 |nil =>
  refine⟨A,σ[8]'(by lia),?_,⟨S.ka,λj=>by simp[cY,S.at_],S.len,S.nr⟩,λ_=>by simp⟩;simp only[dN,ahs,forL];rw[Vu];obtain⟨b,e⟩:=nz.mp v;rw[<- e,Vu]
 |cons j l E =>
  rw[D5]at nd;simp only[xk]at x;have b:=(nz.mp v).1;have q:=S.put j;have r:(aJ A (.int j)).getD (.int 0)= .int (f j:Nat):=by
    rw[S.at_ j];by_cases e:f j=0
    . simp[e]
    . simp[e]
  have s:iH A=true:=by unfold iH;exact aI (by have:=S.len;lia)
  have c:(σ.set 8 (some (.int j)))[5]? = some (some (.aA n)):=by rw[p9 (by decide)];exact y
  have o:(σ.set 8 (some (D.int j)))[8]? = some (some (.int j)):=tv (by lia);have h:aD (ag bo (dD ky k9 d4 (ae fc (ae dV af))) cT) (dP d4 fc) (σ.set 8 (some (.int j))) g=some (.nx,σ.set 8 (some (.int j)),g.set n (aP A (.int j) (.int (f j+1:Nat)))):=by simp[c,o,v,r,s]
  obtain⟨B,C,d,a,_⟩:=E (σ:=σ.set 8 (some (.int j))) (g:=g.set n (aP A (.int j) (.int (f j+1:Nat)))) (tv b) q nd.2 (by lia) c (by simp[u]);refine⟨B,C,?_,?_,λz=>by cases z⟩
  . simp only[dN,x8,forL]at d ⊢
    rw[show gN 8 (D.int j) σ g=some (σ.set 8 (some (.int j)),g) from rfl];simp only[nv,h];rw[d,XT,XT]
  . refine⟨a.ka,λi=>?_,by have:=a.len;simp only[xk];lia,a.nr⟩
    rw[a.at_ i];have:cY (λi=>f i+if i=j then 1 else 0) l i=cY f (j::l) i:=by
      unfold cY;by_cases e:i=j
      . subst e;simp[nd.1]
      . simp[e]
    rw[this]
theorem yz {q:Nat}{g:G}{n:List D}{f:Nat->Nat}{p:D}(c:g[q]? = some n)(d:flat p=true):∀(l:List Nat),(∀j∈l,aJ n (.int j)=some (.int (f j:Nat)))->∀u,dq (gN 1) (ax (ag oEq (ag ao de bg) cO)) bg (dN l) [none,u,some p,some (.aA q)] g=some (dN (jq f p l),g)
 | [],_,_=>rfl
 |j::l,h,u=>by
  have r:=yz (f:=f) c d l (λi a=>h i (by simp[a])) (some (.int j));have b:=h j (by simp);have e:oEq (.int (f j:Nat)) p g=some (.bl (bq (.int (f j:Nat)) p),g):=by simp[oEq,flat,d,dep]
  simp only[dN,x8]at r ⊢;simp only[dq];simp[c,b,e];by_cases hc:bq (.int (f j:Nat)) p=true
  . simp[hc,r,jq,dN]
  . simp[hc,r,jq,dN]
def Qu {g:G}(h:n∈X)(i:∀j∈X,n<=j):kB me i0 [.lst (dN X)] g=some (.int n,g):=by
 have e:fM (dN X)=some (X.map λ(j:Nat)=>(j:Int)):=by have:=baH (X.map λ(j:Nat)=>(j:Int));rw[E5]at this;exact this
 have m:(X.map λ(j:Nat)=>(j:Int)).min? = some (n:Int):=by rw[agQ];refine⟨oa.mpr ⟨n,h,rfl⟩,λb c=>?_⟩;obtain⟨j,a,rfl⟩:=oa.mp c;have:=i j a;lia
 show i0 [.lst (dN X)] g=_;simp[fB,e,m]
theorem pF {n:Nat}{rest:List D}:∀{cs:List (List D)} {k:Nat},(∀c∈cs,c.length=n)->k<=cs.length->(cs.flatten++rest).drop (k*n)=(cs.drop k).flatten++rest
 |cs,0,_,_=>by simp| [],k+1,_,h=>by simp at h|c::cs,k+1,g,h=>by have a:c.length=n:=g c (by simp);have i:=pF (rest:=rest) (cs:=cs) (k:=k) (λx b=>g x (by simp[b])) (by simpa using h);rw[Qx,zU,show(k+1)*n=c.length+k*n by rw[Il,a];lia,List.drop_length_add_append,i];simp
theorem lB {n:Nat}:∀{g:List (List D)},(∀c∈g,c.length=n)->g.flatten.length=g.length*n
 | [],_=>by simp|c::g,h=>by rw[Qx,nh,lB λx a=>h x (by simp[a]),h c (by simp),xk,Il];lia
noncomputable def eD:Option Nat->D
 |none=>.aB|some j=>.int j
def last_eq:iq R=av (aD kz (gN 5)) (av (aD dV (gN 6)) (av (zR 1000000 vx (pD R)) (aM fk))):=rfl
def wp_seq (h:ni (Z l a) λr=>r.1 = .nx/\ni (d r.2.1 r.2.2) C):ni (av Z d l a) C:=by obtain⟨⟨r,c,i⟩,e,g,b⟩:=h;dsimp only at g b;subst g;rw[pU,e];exact b
def cL {σ1:Sg}{g1:G}{f1:FS}(h:f1 l a=some (.nx,σ1,g1))(k:Z σ1 g1=y):av f1 Z l a=y:=(jY h).trans k
def cD {g1:G}{d:D}(h:K l a=some (d,g1))(k:Z (l.set n (some d)) g1=y):av (aD K (gN n)) Z l a=y:=cL (jP h) k
def gM {g1:G}{g2:G}{g:FS}{d:D}(t:c l a=some (true,g1))(h:K l g1=some (d,g2)):av (b9 c (aM K) Z) g l a=some (.rt d,l,g2):=tO ((lz t).trans (dE h))
def cj {σ1:Sg}{g1:G}{f1:FS}(h:f1 l a=some (.nx,σ1,g1))(k:ni (Z σ1 g1) C):ni (av f1 Z l a) C:=by rw[jY h];exact k
def gO {g1:G}{d:D}(h:K l a=some (d,g1))(k:ni (Z (l.set n (some d)) g1) C):ni (av (aD K (gN n)) Z l a) C:=cj (jP h) k
def CC (t:c l a=some (true,U))(h:Z l U=some (.nx,E,B)):lI c Z (k+1) l a=lI c Z k E B:=by simp only[lI,t,nv,if_true,h]
def CD (t:c l a=some (true,U))(h:Z l U=some (.rt v,E,B)):lI c Z (k+1) l a=some (.rt v,E,B):=by simp only[lI,t,nv,if_true,h]
def cx {g1:G}{g2:G}{d:D}{d':D}{o:D->D->G->Option (D×G)}(h:K l a=some (d,g1))(k:m l g1=some (d',g2)):ag o K m l a=o d d' g2:=by simp[h,k]
def CF (h:K l a=some (v,U))(k:m l U=some (b,B)):mf n p (ae K (ae m af)) l a=some (.nx,(l.set n (some v)).set p (some b),B):=by simp[h,k]
def iu {σ:Sg}{g:G}{g1:G}{fr:FA}(h:fr σ g=some ([.int n],g1))(b:n<=1000):dR fr σ g=some (fT 0 n,g1):=by obtain⟨q,a,e⟩:=qd (fr:=fr) (σ:=σ) (g:=g) (Q:=λq=>q=(fT 0 n,g1)) ⟨_,h,n,rfl,by lia,by lia,by simp⟩;rw[a,e]
def m9 {l:List Nat}:aO (dN l)=true:=by
 induction l with
 |nil=>rfl|cons x l c=>exact c
noncomputable def fP (n:Nat)(c:D)(g:List D)(a:D)(q:Nat)(wi:Nat)(h i p:Option D):Sg:=[some (.int n),some (.int n),some c,some (.tup g),some a,some (.aA q),some (.int wi),h,i,p]
def vy {y:Str}{ds:List D}{fn:Fn}(h:l[n]? = some (some (.fn y ds)))(i:R y=some fn):ja R n r l a=(r l a).bind λq=>fn (ds++q.1) q.2:=by unfold ja;rw[h];simp[i]
structure AZ (R:Str->Option Fn)(fn:Fn)(nm:Str)(cap:List D)(n q wi N:Nat)(mv:D)(rd w:List D)(ms:List Nat)(sd:List D)(f:Nat->Nat)(g:G):Prop where
 hR:R nm=some fn
 hw:(rd.drop wi).take n=w
 hf:∀g,fn (cap ++ [.tup w]) g=some (.lst (dN ms),g)
 nd:ms.Nodup
 ml:ms.length<=20
 hs:wi+n<=rd.length
 hq:g[q]? = some sd
 S:SD sd f N
 hN:N+40<=900
 fm:flat mv=true
def yA {fn:Fn}{rd:List D}(H:AZ R fn x A n p o k v rd j X J f a):(aD (ja R 4 (ae (dC de (bG ee) (bG (ag bo ee bg))) af)) (gN 7)) (fP n v rd (.fn x A) p o Q O M) a=some (.nx,fP n v rd (.fn x A) p o (some (.lst (dN X))) O M,a):=by have nm:=uF (rd:=rd) (s:=o) (m:=n) H.hs;rw[H.hw]at nm;refine jP ?_;rw[vy (y:=x) (ds:=A) (fn:=fn) rfl H.hR];simp[fP,i5];rw[show(o:Int)+(n:Int)=((o+n:Nat):Int) by simp,nm];exact H.hf a
def Ml {o7:Option D}{o8:Option D}{o9:Option D}(H:AZ R h x A n p o s v j J X I f a)(b:X = []):∃c,pD R (fP n v j (.fn x A) p o o7 o8 o9) a=some (.rt (.tup [.int o,.aB]),c,a):=by have fn:az 2=true:=rfl;exact⟨_,cL (yA H) (gM (g1:=a) (d:=.tup [.int o,.aB]) (g2:=a) (by simp[fP,b,dN]) (by simp[fP,fn]))⟩
def Fj {o7:Option D}{o8:Option D}{o9:Option D}(H:AZ R h x A n p o s v j J X I f a)(nm:X ≠ []):∃g u,pD R (fP n v j (.fn x A) p o o7 o8 o9) a=CB R (fP n v j (.fn x A) p o (some (.lst (dN X))) u (some (.lst (dN (jq (cY f X) v X))))) (a.set p g)/\SD g (cY f X) (s+40):=by
 have r:=H.ml;refine Cw (Mk (l:=X) (σ:=fP n v j (.fn x A) p o (some (.lst (dN X))) o8 o9) H.hq H.S H.nd (by have:=H.hN;lia) rfl rfl) λg u N wi _=>?_;have b:SD g (cY f X) (s+40):=⟨wi.ka,wi.at_,by have:=wi.len;lia,wi.nr⟩
 have c:(a.set p g)[p]? = some g:=tv (nz.mp H.hq).1;have fn:=yz (f:=cY f X) c H.fm X (λq e=>by rw[b.at_ q,if_neg];simp[cY,e]) none
 have i:¬((X.length:Int)=0):=λz=>nm (acq.mp (by lia));have y:az X.length=true:=aI (by lia);exact⟨g,u,cL (yA H) (cL ((cX (g1:=a) (by simp[fP,cG,i,nm])).trans rfl) (cL (f1:=dB (da fb) (gN 8) (aD (ag bo (dD ky k9 d4 (ae fc (ae dV af))) cT) (dP d4 fc))) N (cD (d:=.lst (dN (jq (cY f X) v X))) (g1:=a.set p g) (by simp[fP,da,bb,cG,y,cu,fn,bD]) rfl))),b⟩
def JA {o7:Option D}{o8:Option D}{o9:Option D}(H:AZ R h x A n p o s v j J X I f a)(fn:X ≠ [])(b:jq (cY f X) v X = []):∃c i g q,pD R (fP n v j (.fn x A) p o o7 o8 o9) a=some (.nx,fP n v j (.fn x A) p (o+n) i g q,a.set p c)/\SD c (cY f X) (s+40):=by obtain⟨c,g,e,S⟩:=Fj (o7:=o7) (o8:=o8) (o9:=o9) H fn;refine⟨c,some (.lst (dN X)),g,some (.lst (dN [])),?_,S⟩;rw[e,b];unfold CB Qt;simp[fP,dN]
def Qw {g:G}{o7:Option D}{o8:Option D}{o9:Option D}(H:AZ R h x A n o s k v j J X I f g)(i:X ≠ [])(d:p∈jq (cY f X) v X)(l:∀fn∈jq (cY f X) v X,p<=fn):∃q r,pD R (fP n v j (.fn x A) o s o7 o8 o9) g=some (.rt (.tup [.int s,.int p]),r,g.set o q):=by obtain⟨q,c,e,S⟩:=Fj (o7:=o7) (o8:=o8) (o9:=o9) H i;refine⟨q,fP n v j (.fn x A) o s (some (.lst (dN X))) c (some (.lst (dN (jq (cY f X) v X)))),?_⟩;rw[e];have hm:=Qu (g:=g.set o q) d l;have b:0<(jq (cY f X) v X).length:=List.length_pos_of_mem d;have a:az 2=true:=rfl;unfold CB;simp[fP,cG,b,hm,a]
noncomputable def cI (ps:List (List Nat)):Nat->Nat->Nat
 | 0,_=>0|k+1,j=>cI ps k j+if j∈ps.getD k []then 1 else 0
def yB:cY (cI Y k) (Y.getD k [])=cI Y (k+1):=rfl
def cM (c:D)(ps:List (List Nat))(i:Nat):Prop:=ps.getD i [] ≠ []/\jq (cI ps (i+1)) c (ps.getD i [])= []
def gP (c:D)(ps:List (List Nat))(i:Nat):Option Nat->Prop
 |none=>ps.getD i []= []|some j=>ps.getD i [] ≠ []/\j∈jq (cI ps (i+1)) c (ps.getD i []) /\ ∀k∈jq (cI ps (i+1)) c (ps.getD i []),j<=k
structure A0 (fn:Fn)(cap:List D)(n:Nat)(ws:List (List D))(ps:List (List Nat)):Prop where
 len:∀w∈ws,w.length=n
 lp:ps.length=ws.length
 n1:1<=n
 cH:ws.length<=20
 at_:∀i,i<ws.length->(∀g,fn (cap ++ [.tup (ws.getD i [])]) g=some (.lst (dN (ps.getD i [])),g))/\(ps.getD i []).Nodup/\(ps.getD i []).length<=20
def Mm (a:∀w∈T,w.length=n)(h:k<T.length):((T.flatten++A).drop (k*n)).take n=T.getD k []:=by
 rw[pF a (by lia),Ws h,Qx,zU];have e:T.getD k []=T[k]:=by rw[O1,nP h];rfl
 rw[e,ac9 (by rw[a _ (Ds h)];exact nA _),Jt (by rw[a _ (Ds h)];exact nA _)]
def yC {rest:List D}(hR:R x=some h)(i:A0 h j n T Y)(d:flat v=true)(g:k<T.length)(c:a[p]? = some A)(S:SD A (cI Y k) (k*40)):
   AZ R h x j n p (k*n) (k*40) v (T.flatten++rest) (T.getD k []) (Y.getD k []) A (cI Y k) a:=by
 obtain⟨q,r,b⟩:=i.at_ k g;refine⟨hR,Mm i.len g,q,r,b,?_,c,S,?_,d⟩
 . rw[nh,lB i.len]
   have:(k+1)*n<=T.length*n:=Nat.mul_le_mul_right _ (by lia);rw[Il]at this;lia
 . have:=i.cH;lia
def nT (h:p+n<=A.length):vx (fP n b A v o p Q O M) a=some (true,a):=by
 have e:((p:Int)+(n:Int)<=(A.length:Int)):=by lia
 simp[vx,fP,fg,e]
def Fl (h:A.length<p+n):vx (fP n b A v o p Q O M) a=some (false,a):=by
 have e:¬((p:Int)+(n:Int)<=(A.length:Int)):=by lia
 simp[vx,fP,fg,e]
section
variable {q:Nat}{rest:List D}
theorem A1 (hR:R x=some h)(y:A0 h A n T Y)(r:flat v=true)(s:rest.length<n):∀(m k u:Nat) (g:G) (sd:List D) (o7 o8 o9:Option D),k+m=T.length->m<u->g[q]? = some sd->SD sd (cI Y k) (k*40)->(∀i,k<=i->i<T.length->cM v Y i) ->
  ∃B C,lI vx (pD R) u (fP n v (T.flatten++rest) (.fn x A) q (k*n) o7 o8 o9) g=some (.nx,B,g.set q C)/\aF 0 C=true
 | 0,k,u+1,g,sd,o7,o8,o9,hk,I,hq,S,E=>by
  refine⟨fP n v (T.flatten++rest) (.fn x A) q (k*n) o7 o8 o9,sd,?_,S.nr⟩;simp only[lI];rw[Fl (by rw[nh,lB y.len,<- hk];simp only[Nat.add_zero];lia)]
  obtain⟨b,e⟩:=nz.mp hq;simp only[nv,sJ,if_false];rw[<- e,Vu]
 |m+1,k,u+1,g,sd,o7,o8,o9,hk,I,hq,S,E=>by have H:=yC (rest:=rest) hR y r (show k<T.length by lia) hq S;obtain⟨J,d⟩:=E k (nA _) (by lia);obtain⟨C,o,j,c,e,a⟩:=JA (o7:=o7) (o8:=o8) (o9:=o9) H J (by rw[yB];exact d);rw[yB]at a;have b:=(nz.mp hq).1;obtain⟨B,fn,f,l⟩:=A1 hR y r s m (k+1) u (g.set q C) C o j c (by lia) (by lia) (tv b) ⟨a.ka,a.at_,by have:=a.len;rw[Il];lia,a.nr⟩ λi p=>E i (by lia);refine⟨B,fn,(CC (nT H.hs) e).trans ?_,l⟩;rw[show k*n+n=(k+1)*n by rw[Il];lia,f,XT]
end
section
variable {q:Nat}{rest:List D}
theorem A2 (hR:R x=some h)(C:A0 h A n T Y)(nm:flat v=true){en:Option Nat}:∀(m k y:Nat) (g:G) (sd:List D) (o7 o8 o9:Option D),k+1+m=T.length->m<y->g[q]? = some sd->SD sd (cI Y k) (k*40)->(∀i,k<=i->i+1<T.length->cM v Y i)->gP v Y (T.length-1) en ->
  ∃B E,lI vx (pD R) y (fP n v (T.flatten++rest) (.fn x A) q (k*n) o7 o8 o9) g=some (.rt (.tup [.int ((T.length-1)*n:Nat),eD en]),B,g.set q E)
 | 0,k,y+1,g,sd,o7,o8,o9,hk,M,hq,S,I,he=>by
  have H:=yC (rest:=rest) hR C nm (show k<T.length by lia) hq S;have p:T.length-1=k:=by lia
  rw[p]at he ⊢;cases en with
  |none =>
   obtain⟨B,e⟩:=Ml (o7:=o7) (o8:=o8) (o9:=o9) H he;refine⟨B,sd,(CD (nT H.hs) e).trans ?_⟩;obtain⟨d,s⟩:=nz.mp hq;rw[<- s,Vu];rfl
  |some j =>
   obtain⟨J,b,c⟩:=he;rw[<- yB]at b c;obtain⟨E,B,e⟩:=Qw (o7:=o7) (o8:=o8) (o9:=o9) H J b c;exact⟨B,E,CD (nT H.hs) e⟩
 |m+1,k,y+1,g,sd,o7,o8,o9,hk,M,hq,S,I,he=>by have H:=yC (rest:=rest) hR C nm (show k<T.length by lia) hq S;obtain⟨J,b⟩:=I k (nA _) (by lia);obtain⟨E,r,o,f,e,a⟩:=JA (o7:=o7) (o8:=o8) (o9:=o9) H J (by rw[yB];exact b);rw[yB]at a;have d:=(nz.mp hq).1;obtain⟨B,l,fn⟩:=A2 hR C nm (en:=en) m (k+1) y (g.set q E) E r o f (by lia) (by lia) (tv d) ⟨a.ka,a.at_,by have:=a.len;rw[Il];lia,a.nr⟩ (λi u=>I i (by lia)) he;refine⟨B,l,(CC (nT H.hs) e).trans ?_⟩;rw[show k*n+n=(k+1)*n by rw[Il];lia,fn,XT]
end
def vz {d:D}(c:bU 0 d=true)(h:av (zR 1000000 vx (pD R)) (aM fk) (fP n b j v 0 0 none none none) [[]]=some (.rt d,l,[A])):ak false 10 5 (iq R) [.int n,.int n,b,.tup j,v] []=some (d,[]):=by
 have g:ni (ak false 10 5 (iq R) [.int n,.int n,b,.tup j,v] []) λq=>q=(d,[]):=by refine mO rfl ?_;rw[last_eq];refine gO (d:=.aA 0) (g1:=[[]]) rfl (gO (d:=.int 0) (g1:=[[]]) rfl ⟨_,h,?_⟩);exact⟨c,by simp,by simp,by simp⟩
 obtain⟨q,e,rfl⟩:=g;exact e
def Qz:SD [] (cI Y 0) n:=⟨rfl,λj=>by simp[aJ,cI],by simp,rfl⟩
def CG {mv:D}{rest:List D}(hR:R x=some h)(D:A0 h A n T Y)(d:flat mv=true)(f:rest.length<n)(c:∀i,i<T.length->cM mv Y i):ak false 10 5 (iq R) [.int n,.int n,mv,.tup (T.flatten++rest),.fn x A] []=some (.aB,[]):=by obtain⟨a,b,e,_⟩:=A1 (q:=0) (rest:=rest) hR D d f T.length 0 1000000 [[]] [] none none none (by lia) (by have:=D.cH;lia) rfl Qz λi _=>c i;rw[Nat.zero_mul]at e;exact vz rfl ((jY e).trans rfl)
def CH {mv:D}{rest:List D}(hR:R x=some h)(D:A0 h A n T Y)(d:flat mv=true)(fn:1<=T.length){en:Option Nat}(c:∀i,i+1<T.length->cM mv Y i)(f:gP mv Y (T.length-1) en):ak false 10 5 (iq R) [.int n,.int n,mv,.tup (T.flatten++rest),.fn x A] []=some (.tup [.int ((T.length-1)*n:Nat),eD en],[]):=by obtain⟨a,b,e⟩:=A2 (q:=0) (rest:=rest) hR D d (T.length-1) 0 1000000 [[]] [] none none none (by lia) (by have:=D.cH;lia) rfl Qz (λi _=>c i) f;rw[Nat.zero_mul]at e;refine vz ?_ (tO e);cases en<;>simp[bU,aF,eD]
end
section
variable {Y:List Int}{X U J:Nat}{T R Q O K E:Fn}{C y:Str->Option Fn}{M:List D}{I:List Nat}{H:Option (F×Sg×G)}{b c:D}
theorem vA (val:Nat->Int):∀(n:Nat) (k:Int),k∈bR val n ↔ ∃i,i<n/\val i=k
 | 0,k=>by simp[bR]
 |n+1,k=>by
  have c:=vA val n;unfold bR kP;have:k∈(if val n∈bR val n then bR val n else bR val n ++ [val n])↔ k∈bR val n\/k=val n:=by
    split
    . rename_i h
      exact⟨.inl,λa=>by rcases a with a|rfl;exact a;exact h⟩
    . simp
  rw[this,c];constructor
  . rintro(⟨i,b,a⟩|rfl)
    . exact⟨i,by lia,a⟩
    . exact⟨n,by lia,rfl⟩
  . rintro⟨i,b,a⟩
    by_cases e:i=n
    . subst e;exact .inr a.symm
    . exact .inl ⟨i,by lia,a⟩
theorem yD (val:Nat->Int):∀n,(bR val n).Nodup
 | 0=>VX
 |n+1=>by
  have g:=yD val n;unfold bR kP;split
  . exact g
  . rename_i h
    rw[UK];exact⟨g,by simp,λa d b c z=>by simp at c;subst c;subst z;exact h d⟩
def HH (c:List Int)(k:Int):k∈bR (λi=>c.getD i 0) c.length ↔ k∈c:=by
 rw[vA,Qa];constructor
 . rintro⟨i,a,b⟩
   exact⟨i,a,by simpa[a]using b⟩
 . rintro⟨i,a,b⟩
   exact⟨i,a,by simpa[a]using b⟩
def Fm {L ms:List Nat}(h:∀j,j∈ms ↔ j∈L)(nd:ms.Nodup)(d:ms.Pairwise (· <= ·)):Uy (bR (λi=>(L.map λ(j:Nat)=>(j:Int)).getD i 0) (L.map λ(j:Nat)=>(j:Int)).length)=ms.map λ(j:Nat)=>(j:Int):=by
 refine(agn ((List.perm_ext_iff_of_nodup (baC (λa _ b _ e=>by lia) nd) (yD _ _)).mpr λk=>?_) ?_).symm
 . rw[HH]
   simp only[oa];exact⟨λ⟨j,c,e⟩=>⟨j,(h j).mp c,e⟩,λ⟨j,c,e⟩=>⟨j,(h j).mpr c,e⟩⟩
 . rw[ahM]
   exact d.imp λh=>by lia
noncomputable def b_ (n o:Nat):List Nat:=(sv n).filter λj=>!(j == o)
def au (n o c:Nat):List Nat:=if c=1 then b_ n o else []
def fR:p∈b_ n o ↔ p<n/\p≠o:=by simp[b_]
def Fo:(b_ n o).Nodup:=agl.sublist adE
def uG:(b_ n o).length<=n:=by have:=Z2 (λj=>!(j == o)) (sv n);rw[List.length_range]at this;exact this
def eZ {sh:Nat}:(au n o sh).length<=n:=by
 unfold au;split
 . exact uG
 . simp
def A3:s∈au n o p ↔ p=1/\s<n/\s≠o:=by
 unfold au;split
 . rename_i h;rw[fR];simp[h]
 . rename_i h;simp[h]
inductive SC (n:Nat):D->Prop
 |mk (v:D) (bs:List Int) (t:Int) (vw:List D) (hv:vG v) (hb:bs.length=n) (hw:vw.length=n) (ha:∀x∈vw,vG x):SC n (.tup [v,.tup (bs.map .int),.int t,.tup vw])
noncomputable def A4 (c:D)(i:Nat):D:=match c with
 |.tup g=>g.getD i .aB|_=>.aB
noncomputable def JB:D->Int
 |.int i=>i|_=>0
def cB (c:D)(j:Nat):Int:=JB (A4 (A4 c 1) j)
def So (c:D):D:=A4 c 0
noncomputable def cg (g:List D):List D:=g.flatMap λc=>[c,.aB]
def e_:(cg A).length=2*A.length:=by
 induction A with
 |nil=>rfl|cons c A g=>simp[cg]at g ⊢;lia
def Fq (h:A[p]? = some c):(cg A)[2*p]? = some c:=by
 induction A generalizing p with
 |nil=>simp at h
 |cons d A g =>
  cases p with
  |zero=>simp at h;subst h;rfl
  |succ p =>
   have:=g (p:=p) (by simpa using h);simp only[cg,VJ]at this ⊢;rw[show 2*(p+1)=2*p+2 by lia];simpa using this
def sgn (n o c:Nat)(g:List D)(j:Nat):Int:=cB (g.getD ((au n o c).idxOf j) .aB) o
def PQ {j:Int}:bf (.int i) (.int j) a=some (.bl (decide (i≠j)),a):=by
 by_cases e:i=j
 . subst e;simp[bf,flat,dep,bq]
 . simp[bf,flat,dep,bq,e]
mutual
theorem lC:∀d:D,flat d=true->og d=true
 |.aB,_=>rfl|.bl _,_=>rfl|.int _,_=>rfl|.str _,_=>rfl|.tup c,h=>by simp only[og];exact j2 c (by simpa[flat]using h)|.lst c,h=>by simp only[og];exact j2 c (by simpa[flat]using h)|.dU,_=>rfl|.ref _,_=>rfl|.aA _,_=>rfl|.fn _ _,h=>by simp[flat]at h
theorem j2:∀ds:List D,aO ds=true->jy ds=true
 | [],_=>rfl|d::ds,h=>by simp only[aO,nc]at h;simp only[jy,lC d h.1,j2 ds h.2,aec]
end
def gy (h:∀d∈A,flat d=true):aO A=true:=by
 induction A with
 |nil=>rfl|cons d A c=>simp only[aO,h d (by simp),c λx a=>h x (by simp[a]),aec]
def m_ {k:Nat}(h:∀d∈A,dep d<=k):bF A<=k:=by
 induction A with
 |nil=>simp[bF]|cons d A c=>simp only[bF];exact aif.mpr ⟨h d (by simp),c λx a=>h x (by simp[a])⟩
def oq (R:Str->Option Fn):FS:=av (aD (ag (bX fA (· / ·)) (aj bL (ae de af)) eh) (gN 4)) (av (b9 (ax (ag oEq (ag (bX cR (· % ·)) (aj bL (ae de af)) eh) dV)) (aM (aH ay (ae jR (ae (ag ao b0 ef) af)))) aR) (aM (aH ay (ae j0 (ae (ag ao bg ef) (ae (ja R 2 (ae (ag ao de (sr nG cT)) af)) af))))))
def tW {R:Str->Option Fn}(q:M.length=2*p)(l:A[p]? = some b):ak false 5 4 (oq R) [.lst A,.lst j,v,.tup M] a=some (.tup [.str "read",b],a):=by
 have f:((M.length:Int) / 2)=(p:Int):=by lia
 have e:((M.length:Int) % 2)=0:=by lia
 have h:az 2=true:=rfl;have g:fA (M.length:Int) 2=true:=rfl;have c:cR (M.length:Int) 2=true:=rfl;refine bp (σ':=[some (.lst A),some (.lst j),some v,some (.tup M),some (.int p)]) rfl ?_ rfl;have x:=gC l;simp[oq,g,c,f,e,x,h]
def vB {R:Str->Option Fn}{fn:Fn}{nm:Str}{cap:List D}(hR:R nm=some fn)(u:fn (cap ++ [c]) a=some (b,a))(s:(M ++ [c]).length=2*p+1)(g:j[p]? = some v):ak false 5 4 (oq R) [.lst A,.lst j,.fn nm cap,.tup (M ++ [c])] a=some (.tup [.str "write",v,b],a):=by
 have l:M.length=2*p:=by simpa using s
 have i:(((M ++ [c]).length:Int) / 2)=(p:Int):=by rw[s];lia
 have f:¬(((M ++ [c]).length:Int) % 2)=0:=by rw[s];lia
 have h:az 3=true:=rfl;have r:fA ((M ++ [c]).length:Int) 2=true:=rfl;have e:cR ((M ++ [c]).length:Int) 2=true:=rfl;have x:=gC g;have n:cJ (M ++ [c]) (-1)=some c:=Gq M c;generalize q:M ++ [c]=W at *;refine bp (σ':=[some (.lst A),some (.lst j),some (.fn nm cap),some (.tup W),some (.int p)]) rfl ?_ rfl;have ec:ja R 2 (ae (ag ao de (sr nG cT)) af) [some (.lst A),some (.lst j),some (.fn nm cap),some (.tup W),some (.int p)] a=some (b,a):=by rw[vy (y:=nm) (ds:=cap) (fn:=fn) rfl hR];simp[fj,bb,n,u]
 simp[oq,r,e,i,f,x,h,ec]
noncomputable def bJ (o j:Nat):D:=.tup [.str "sign",.int o,.int j]
def baK (o:Nat)(a:Nat×D):List D:=[.tup [.str "read",own "own" a.1],.tup [.str "write",bJ o a.1,.int (cB a.2 o)]]
def rF {g:G}(b:aF 0 A=true)(c:h A []=some (v,[]))(a:flat v=true):kA h A g=some (v,g):=by unfold kA ia;rw[if_pos b,c];simp only[nv];rw[if_pos (bQ v a)];simp only[nv];rw[if_pos (lC v a)]
abbrev ba4:=List D×List D×List D
def pG (a:Fn):FE:=aj a (ae b0 (ae bg (ae cO af)))
def Fs {ks r:List D}{g:G}(j:ks.length<=20):ui (.tup (cg ks++r)) none (some ((2*ks.length:Nat):Int)) (some 2) g=some (.tup ks,g):=by
 have hw:(cg ks).length=2*ks.length:=e_;have len:(cg ks++r).length=2*ks.length+r.length:=by rw[nh,hw]
 have d:(bA (2*ks.length+r.length) none (some ((2*ks.length:Nat):Int)) 2).2=ks.length:=by simp only[bA,Vd,YL];simp;split<;>lia
 have e:(bA (2*ks.length+r.length) none (some ((2*ks.length:Nat):Int)) 2).1=0:=by simp only[bA,Vd,YL];simp
 have i:az ks.length=true:=aI (by lia);unfold ui;simp only[len,d,i,e];rw[if_pos (by decide)];congr 3;unfold gI;have:∀(l:List Nat) (a b:Nat->Option D),(∀k∈l,a k=b k)->l.filterMap a=l.filterMap b:=λl a b h=>by
  induction l with
  |nil=>rfl|cons x r p=>rw[H9,H9,h x (by simp),p λk c=>h k (by simp[c])]
 rw[this _ _ (λk=>ks[k]?) λk c=>by rw[aet]at c;rw[show((0:Int)+(k:Int)*2).toNat=2*k by lia,r_ (by lia),nP c];exact Fq (nP c)]
 have f:∀(n:List D),(sv n.length).filterMap (λk=>n[k]?)=n:=λn=>by
  induction n with
  |nil=>rfl
  |cons x n p =>
   rw[xk,agC,H9];simp only[adF,ahq]
   exact congrArg (x :: ·) p
 exact f ks
def BC (c:D):Prop:=∃v a t,c = .tup [v,.int a,.int t]/\vG v
theorem BC.flat (h:BC c):_root_.flat c=true:=by obtain⟨v,a,t,rfl,b⟩:=h;simp[_root_.flat,aO,b.1]
noncomputable def bI (c:List Int):List D:=c.map D.int
structure iK (m:D)(n p o tg sh mo:Nat)(num bh bB aC:Fn):Prop where
 hp:∀g,bh [m] g=some (.int p,g)
 ht:∀g,num [m,.str "toggles"] g=some (.int tg,g)
 hm:∀g,num [m,.str "moves"] g=some (.int mo,g)
 ho:∀g,bB [m,.int o] g=some (.lst (dN (b_ n o)),g)
 hs:∀g,aC [m,.int o] g=some (.lst (dN (au n o sh)),g)
 on:o<n
 n5:n<=5
 p1:1<=p
 p4:p<=4
 fm:flat m=true
def ke (c g:Fn):FS:=av (aD (ag (bX dJ (· - ·)) (aj bL (ae cO af)) (aj bL (ae (aj g (ae b0 (ae bg af))) af))) (gN 3)) (aM (dC cO (bG (ag (bX dJ (· - ·)) de (aj c (ae b0 af)))) (bG de)))
def qL (num:Fn):FS:=av (b9 (ax (ag bf (ag ao bg cT) (ag ao cO cT))) (aM j3) aR) (aM (ip (ag oEq (aj num (ae b0 (ae jd af))) cT) (ag bf (ag ao bg eh) (ag ao cO eh))))
def Ud:cJ [v,b,c] 1=some b:=rfl
def JC:cJ [v,b,c] 0=some v:=rfl
def CI:FI:=s_ (ae fb (ae fc af))
def CJ:FI:=s_ (ae de (ae (xB cO eH (bG ef) (bG eh)) (ae d4 af)))
def JD:FG:=gT 2 (a_ (gN 10) (a_ (gN 11) fz))
def Ft (a:Fn):FS:=b9 (gX (ax (ag iz (ag ao eP cT) eW)) (gW (aj a (ae b0 (ae fe (ae eP af)))))) (cQ (dD isRef bZ ee (ae (ag ao eP cT) af))) aR
def QB (num c g h scF a:Fn):FS:=av (aD (aj h (ae b0 (ae bg af))) (gN 3)) (av (aD (ag cP eh (aj bL (ae de af))) (gN 4)) (av (aD (dC cO (bG (ag (bX dJ (· - ·)) (aj bL (ae cO af)) (aj bL (ae de af)))) eH) (gN 5)) (av (aD (bC j4 CJ [none,none,none,none] (gT 3 (a_ (gN 1) (a_ (gN 2) (a_ (gN 3) fz)))) (ax (ag bf cO de)) bg) (gN 6)) (av (aD (dC cO (bG ef) (bG (ag bo ef (aj c (ae b0 af))))) (gN 7)) (av (aD (aj scF (ae b0 (ae bg (ae cO af)))) (gN 8)) (av (aD (aj g (ae b0 (ae bg af))) (gN 9)) (av (dB CI JD (Ft a)) (aM (pB ee)))))))))
noncomputable def cls (nm:Str)(o:Nat)(S:List Nat):List D:=S.map λ(j:Nat)=>D.tup [.str nm,.int j,.int o]
def QC (a:Fn):FE:=bC bD (da (aj a (ae b0 (ae bg af)))) [none,none,some 1] (gN 1) cC (aH ay (ae fw (ae bg (ae cO af))))
def QD (a:Fn):FE:=bC bD (da (aj a (ae b0 (ae bg af)))) [none,none,some 1] (gN 1) cC (aH ay (ae gk (ae cO (ae bg af))))
def vt (a colF b:Fn)(nm:Str):FS:=av (aD (QC a) (gN 3)) (av (b9 (ax (ag oLt (aj bL (ae cO af)) (ag cP eh (aj bL (ae de af))))) (av (aD (QD a) (gN 4)) (aM (aj (kA b) (ae de (ae ef (ae (uw nm []) (ae cO af))))))) aR) (av (aD (ag cP eh (aj colF (ae b0 af))) (gN 5)) (aM (aH ay (ae jR (ae (ag ao (ag bo d4 (aj gZ (ae de af))) (ag (bX dJ (· - ·)) (aj bL (ae cO af)) (ag cP eh (aj bL (ae de af))))) af))))))
theorem qg {c:Type}{a b:c->D}:∀{l:List c} {p:Nat} {x:c},l[p]? = some x->(l.flatMap λx=>[a x,b x])[2*p]? = some (a x)
 | [],p,x,h=>by simp at h|y::l,0,x,h=>by simp at h;subst h;rfl|y::l,p+1,x,h=>by have:=qg (a:=a) (b:=b) (l:=l) (p:=p) (x:=x) (by simpa using h);rw[VJ,show 2*(p+1)=2*p+1+1 by lia];simpa using this
theorem yF {c:Type}{a b:c->D}:∀{l:List c} {p:Nat} {x:c},l[p]? = some x->(l.flatMap λx=>[a x,b x])[2*p+1]? = some (b x)
 | [],p,x,h=>by simp at h|y::l,0,x,h=>by simp at h;subst h;rfl|y::l,p+1,x,h=>by have:=yF (a:=a) (b:=b) (l:=l) (p:=p) (x:=x) (by simpa using h);rw[VJ,show 2*(p+1)+1=2*p+1+1+1 by lia];simpa using this
theorem pH {c:Type}{a b:c->D}:∀{l:List c},(l.flatMap λx=>[a x,b x]).length=2*l.length
 | []=>rfl|x::l=>by rw[VJ,nh,pH];simp;lia
noncomputable def jD (l:List D):List D:=l.map λk=>.tup [.str "read",k]
def cU (p:Nat):List D:=(sv p).map λj=>own "box" j
def ox (n p o c:Nat):List D:=cU p++cU p++cls "call" o (au n o c)
def wZ (n p o c:Nat)(g:List Int):List D:=(((au n o c).zip g).flatMap λq=>[.tup [.str "read",.tup [.str "call",.int q.1,.int o]],.tup [.str "write",bJ o q.1,.int q.2]])++jD (ox n p o c)
def yG {sh:Nat}(S:iK v n p o s sh X T R Q O)(r:l[0]? = some (some v))(q:l[1]? = some (some (.int o))):QC O l a=some (.lst (cls "call" o (au n o sh)),a)/\QD O l a=some (.lst ((au n o sh).map λj=>bJ o j),a):=by
 have f:az 3=true:=rfl;have b:az (au n o sh).length=true:=aI (by have:=eZ (n:=n) (o:=o) (sh:=sh);have:=S.n5;lia);have i:=d5 (t:=gN 1) (c:=cC) (e:=aH ay (ae fw (ae bg (ae cO af)))) (h:=λd=>D.tup [.str "call",d,.int o]) (λl=>∃m,l = [none,m,some (.int o)]) (dN (au n o sh)) [none,none,some (.int o)] a ⟨_,rfl⟩ (by rintro t hm l ⟨m,rfl⟩;exact⟨[none,some t,some (.int o)],by simp,by simp,by simp[f],_,rfl⟩)
 have g:=d5 (t:=gN 1) (c:=cC) (e:=aH ay (ae gk (ae cO (ae bg af)))) (h:=λd=>D.tup [.str "sign",.int o,d]) (λl=>∃m,l = [none,m,some (.int o)]) (dN (au n o sh)) [none,none,some (.int o)] a ⟨_,rfl⟩ (by rintro t hm l ⟨m,rfl⟩;exact⟨[none,some t,some (.int o)],by simp,by simp,by simp[f],_,rfl⟩)
 have sub:cu [none,none,some 1] l = [none,none,some (.int o)]:=by simp[cu,q]
 constructor
 . simp[QC,r,q,S.hs a,da,bb,cG,b,sub,i,bD]
   simp[dN,cls,Ru]
 . simp[QD,r,q,S.hs a,da,bb,cG,b,sub,g,bD]
   simp[dN,bJ,Ru]
def QE (h:flat c=true):dw (cy 0 1 b0) [c] a=some (c,a):=by
 have g:jy [c]=true:=by simp[jy,lC c h]
 have b:aF 0 [c]=true:=by simp[aF,bQ c h]
 have e:cy 0 1 b0 [c] []=some (c,[]):=by unfold cy;rw[if_pos (show [c].length=0+1 from rfl)];rfl
 unfold dw ia;rw[if_pos g,if_pos b,e];simp only[nv];rw[if_pos (bQ c h)];simp only[nv];rw[if_pos (lC c h)]
def vC (num c g a step scF:Fn)(nm:Str)(X:FS):FS:=av (aD (ag bo (ag cP fh (aj bL (ae (aj g (ae b0 (ae bg af))) af))) (ag cP eh (aj c (ae b0 af)))) (gN 3)) (av (aD (aj (kA a) (ae de (ae de (ae (aj num (ae b0 (ae (fC (.str "moves")) af))) (ae cO (ae (uw nm [0,1]) af)))))) (gN 4)) (av (b9 (ax (ag qH ef fk)) (aM (aH ay (ae (aj step (ae b0 (ae bg (ae (dC cO (bG (ag cP (ag (bX fA (· / ·)) (aj bL (ae cO af)) de) de)) eH) af)))) (ae (aj bL (ae cO af)) af)))) aR) (av (aD (ag bo (ag ao ef dV) de) (gN 5)) (av (b9 (ax (ag qH (ag ao ef cT) fk)) (aM (aH ay (ae (aH ay (ae hF (ae (aj gZ (ae (bC bD (da (aj scF (ae b0 (ae bg (ae (dC cO eH (bG d4)) af))))) [none,none] (gN 1) cC (ag ao bg dV)) af)) af))) (ae d4 af)))) aR) X))))
def ng (num c h g:Fn):Fn:=ak false 12 3 (QB num c h g (ak false 4 3 (ke c g)) (ak false 3 3 (qL num)))
def aT (n p o c:Nat):Nat:=3*(au n o c).length+2*p
def A5 (S:iK b n p o s X U Q O K E)(f:kA h [.int (aT n p o X),.int (aT n p o X),.int U,.tup A,.fn x [b,.int o]] a=some (v,a))(k:av (b9 (ax (ag qH ef fk)) (aM (aH ay (ae (aj T (ae b0 (ae bg (ae (dC cO (bG (ag cP (ag (bX fA (· / ·)) (aj bL (ae cO af)) de) de)) eH) af)))) (ae (aj bL (ae cO af)) af)))) aR) (av (aD (ag bo (ag ao ef dV) de) (gN 5)) (av (b9 (ax (ag qH (ag ao ef cT) fk)) (aM (aH ay (ae (aH ay (ae hF (ae (aj gZ (ae (bC bD (da (aj R (ae b0 (ae bg (ae (dC cO eH (bG d4)) af))))) [none,none] (gN 1) cC (ag ao bg dV)) af)) af))) (ae d4 af)))) aR) Z)) [some b,some (.int o),some (.tup A),some (.int (aT n p o X)),some v,none] a=H):
   vC Q O E h T R x Z ([b,.int o,.tup A].map some++nW (6-3) none) a=H:=by
 have e:(3*((au n o X).length:Int)+2*(p:Int))=((aT n p o X:Nat):Int):=by unfold aT;lia
 refine cD (d:=.int (aT n p o X)) (g1:=a) ?_ (cD (d:=v) (g1:=a) ?_ k)
 . have step:c_ 3 ((au n o X).length:Int)=true:=rfl
   have c:c_ 2 (p:Int)=true:=rfl;simp[S.hs a,S.hp a,cG,step,c,e]
 . simp[S.hm a,uw,xZ,f]
def JE (S:iK v n p o s X U h T R Q)(fr:∀c∈A,flat c=true):aF 0 [.int (aT n p o X),.int (aT n p o X),.int U,.tup A,.fn x [v,.int o]]=true:=by have:=d9 (n:=0) _ (gy fr);simp[aF,bU,bQ v S.fm];simpa using this
def bK (c:List Int)(fs g:List D)(h:List Int):List D:=cg (bI c)++fs++g++bI h
structure Rg (n p o sh:Nat)(ks:List Int)(fs ss:List D)(cs:List Int):Prop where
 kl:ks.length=(au n o sh).length
 fl:fs.length=p
 sl:ss.length=p
 cl:cs.length=(au n o sh).length
 fa:∀c∈fs,BC c
 sa:∀c∈ss,BC c
def uH (c:D):Int:=JB (A4 c 1)
def QF (c:D):Int:=JB (A4 c 2)
def vD (c:Nat)(a b:D):Bool:=decide (uH a≠uH b)||(decide (c=1)&&decide (QF a≠QF b))
def jr (n o:Nat)(x:Int):Bool:=(dN (b_ n o)).any λy=>bq y (.int x)
def qh:jr n o i=true ↔ ∃j,j∈b_ n o/\i=(j:Nat):=by
 unfold jr dN;rw[aeQ];constructor
 . rintro⟨y,b,e⟩
   obtain⟨j,a,rfl⟩:=oa.mp b;refine⟨j,a,?_⟩;have:((j:Int)== i)=true:=e;exact(eq_of_beq this).symm
 . rintro⟨j,a,rfl⟩
   refine⟨.int j,oa.mpr ⟨j,a,rfl⟩,?_⟩;show((j:Int)== (j:Int))=true;exact beq_self_eq_true _
def fq (n o c:Nat)(ps:List (D×D)):List Int:=(ps.filter λq=>jr n o (uH q.2)&&vD c q.1 q.2).map λq=>uH q.2
noncomputable def js (S:List Nat)(c g:List Int):List Nat:=((S.zip (c.zip g)).filter λq=>decide (q.2.1≠q.2.2)).map (·.1)
def iJ (n o c g:Nat)(h:List Int)(fs i:List D)(p:List Int):List Int:=(js (au n o g) h p).map (λ(j:Nat)=>(j:Int))++fq n o c (fs.zip i)
def eU (n o c g:Nat)(h:List Int)(fs i:List D)(p:List Int):List Nat:=(b_ n o).filter λj=>decide ((j:Int)∈iJ n o c g h fs i p)
def Mn (h:n∈js I r Y):n∈I:=by obtain⟨q,a,rfl⟩:=oa.mp h;have:=(Fp.mp a).1;exact(UO this).1
def A6 (h:i∈iJ n o p s r A j Y):∃x,x∈b_ n o/\i=(x:Nat):=by
 rcases nY.mp h with h|h
 . obtain⟨x,b,rfl⟩:=oa.mp h
   have:=A3.mp (Mn b);exact⟨x,fR.mpr this.2,rfl⟩
 . obtain⟨q,a,rfl⟩:=oa.mp h
   have:=(Fp.mp a).2;rw[nc]at this;exact qh.mp this.1
def Mp:p∈eU n o s X r A j Y ↔ (p:Int)∈iJ n o s X r A j Y:=by
 unfold eU;rw[Fp,decide_eq_true_eq];refine⟨λh=>h.2,λh=>⟨?_,h⟩⟩;obtain⟨i,a,e⟩:=A6 h;have:p=i:=by lia
 subst this;exact a
def tX {tg:Nat}{sh:Nat}{ks:List Int}{cs:List Int}{fs:List D}{ss:List D}:(eU n o tg sh ks fs ss cs).Nodup:=Fo.sublist adE
def Fu:(eU n o p s r A j Y).Pairwise (· <= ·):=by unfold eU b_;exact((List.pairwise_lt_range (n:=n)).imp λh=>ZQ h).sublist (adE.trans adE)
def uI (a:n<=5)(b:o<n):(eU n o p s r A j Y).length<=4:=by refine qJ (Z2 _ _) ?_;exact(show ∀n,n<=5->∀o,o<n->(b_ n o).length<=4 by decide) n a o b
def Rg.wl (R:Rg n p o s r A j Y):(bK r A j Y).length=3*(au n o s).length+2*p:=by simp[bK,e_,bI,R.kl,R.fl,R.sl,R.cl];lia
def Rg.fla (R:Rg n p o s r A j Y):∀x∈bK r A j Y,flat x=true:=λx a=>by
 have b:∀(r:List Int),∀x∈bI r,flat x=true:=λr x a=>by obtain⟨i,_,rfl⟩:=oa.mp a;rfl
 simp only[bK,nY]at a;rcases a with((a|a)|a)|a
 . obtain⟨c,d,a⟩:=adD.mp a
   simp only[nQ,vV,or_false]at a;rcases a with rfl|rfl
   . exact b _ _ d
   . rfl
 . exact(R.fa _ a).flat
 . exact(R.sa _ a).flat
 . exact b _ _ a
def Rg.kw (R:Rg n p o s r A j Y):(cg (bI r)).length=2*(au n o s).length:=by rw[e_,bI,ro,R.kl]
def QG (R:Rg n p o X r A j Y){rest:List D}:tf (bK r A j Y++rest) (some ((2*(au n o X).length+p:Nat):Int)) (some ((2*(au n o X).length+2*p:Nat):Int))=j:=by
 have:=uF (rd:=bK r A j Y++rest) (s:=2*(au n o X).length+p) (m:=p) (by rw[nh,R.wl];lia);rw[show 2*(au n o X).length+2*p=2*(au n o X).length+p+p by lia,this];have e:bK r A j Y++rest=(cg (bI r)++A)++(j++(bI Y++rest)):=by simp[bK]
 rw[e,show 2*(au n o X).length+p=(cg (bI r)++A).length by rw[nh,R.kw,R.fl],Z7,show p=j.length from R.sl.symm,aeB]
def QH (R:Rg n p o X r A j Y):tf (bK r A j Y) (some ((2*(au n o X).length:Nat):Int)) (some ((2*(au n o X).length+p:Nat):Int))=A:=by
 rw[uF (rd:=bK r A j Y) (s:=2*(au n o X).length) (m:=p) (by rw[R.wl];lia)];have e:bK r A j Y=cg (bI r)++(A++(j++bI Y)):=by simp[bK]
 rw[e,<- R.kw,Z7,show p=A.length from R.fl.symm,aeB]
def QI (R:Rg n p o s r A j Y):tf (bK r A j Y) (some ((2*(au n o s).length+2*p:Nat):Int)) none=bI Y:=by
 unfold tf;rw[ny,jx (by rw[R.wl];lia)];have e:bK r A j Y=(cg (bI r)++A++j)++bI Y:=by simp[bK]
 rw[e,show 2*(au n o s).length+2*p=(cg (bI r)++A++j).length by simp[R.kw,R.fl,R.sl];lia,Z7];exact Jt (by simp;lia)
def QJ {g:G}(S:iK v n p o s X U h T R Q)(m:Rg n p o X r A j Y):ak false 4 3 (ke T Q) [v,.int o,.tup (bK r A j Y)] g=some (.tup j,g):=by
 have f:=m.wl;have q:((bK r A j Y).length:Int)-((au n o X).length:Int)=((2*(au n o X).length+2*p:Nat):Int):=by rw[f];lia
 have e:((2*(au n o X).length+2*p:Nat):Int)-(p:Int)=((2*(au n o X).length+p:Nat):Int):=by lia
 have c:=QG (rest:=[]) m;rw[wQ]at c;generalize bK r A j Y=W at *;refine bp rfl (cD (d:=.int ((2*(au n o X).length+2*p:Nat):Int)) (g1:=g) (by simp[S.hs g,cG,q]) (dE (d:=.tup j) (g1:=g) ?_)) rfl;generalize i:((2*(au n o X).length+2*p:Nat):Int)=a at *;generalize ((2*(au n o X).length+p:Nat):Int)=b at *;simp[S.hp g,e,i5,c]
def QK {g:G}(S:iK c n p o s X U h T R Q)(y:BC v)(z:BC b):ak false 3 3 (qL h) [c,v,b] g=some (.bl (vD s v b),g):=by
 obtain⟨B,x,t,rfl,E⟩:=y;obtain⟨i,a,f,rfl,u⟩:=z;refine bp (σ':=[some c,some (.tup [B,.int x,.int t]),some (.tup [i,.int a,.int f])]) rfl ?_ rfl;have e:vD s (.tup [B,.int x,.int t]) (.tup [i,.int a,.int f])=(decide (x≠a)||(decide (s=1)&&decide (t≠f))):=rfl;rw[e];have q:ag bf (ag ao bg cT) (ag ao cO cT) [some c,some (.tup [B,.int x,.int t]),some (.tup [i,.int a,.int f])] g=some (.bl (decide (x≠a)),g):=by rw[cx (d:=.int x) (d':=.int a) (g1:=g) (g2:=g) rfl rfl,PQ]
 have l:ag bf (ag ao bg eh) (ag ao cO eh) [some c,some (.tup [B,.int x,.int t]),some (.tup [i,.int a,.int f])] g=some (.bl (decide (t≠f)),g):=by rw[cx (d:=.int t) (d':=.int f) (g1:=g) (g2:=g) rfl rfl,PQ]
 have j:ag oEq (aj h (ae b0 (ae jd af))) cT [some c,some (.tup [B,.int x,.int t]),some (.tup [i,.int a,.int f])] g=some (.bl (decide (s=1)),g):=by
   have v:aj h (ae b0 (ae jd af)) [some c,some (.tup [B,.int x,.int t]),some (.tup [i,.int a,.int f])] g=some (.int s,g):=S.ht g;rw[cx (d':=.int 1) (g2:=g) v rfl];by_cases m:s=1
   . subst m;rfl
   . have r:¬((s:Int)=1):=by lia
     simp[flat,dep,bq,m,r]
 have C:ax (ag bf (ag ao bg cT) (ag ao cO cT)) [some c,some (.tup [B,.int x,.int t]),some (.tup [i,.int a,.int f])] g=some (decide (x≠a),g):=by rw[cw,q];rfl
 unfold qL;by_cases m:x≠a
 . rw[decide_eq_true m]at C
   refine(gM C (d:=.bl true) (g2:=g) rfl).trans ?_;simp[m]
 . rw[decide_eq_false m]at C
   refine cL ((cX C).trans rfl) (dE ?_);rw[decide_eq_false m,Bool.false_or];unfold ip;by_cases h2:s=1
   . rw[decide_eq_true h2]at j ⊢
     rw[afO];show((fg (ag oEq (aj h (ae b0 (ae jd af))) cT [some c,some (.tup [B,.int x,.int t]),some (.tup [i,.int a,.int f])] g)).bind _)=_;rw[j];exact l
   . rw[decide_eq_false h2]at j ⊢
     show((fg (ag oEq (aj h (ae b0 (ae jd af))) cT [some c,some (.tup [B,.int x,.int t]),some (.tup [i,.int a,.int f])] g)).bind _)=_;rw[j];rfl
def Yr {fs:List D}{ss:List D}{g:G}(d:ss.length=fs.length){σ:Sg}(c:σ[7]? = some (some (.tup fs)))(f:σ[8]? = some (some (.tup ss))):CI σ g=some ((fs.zip ss).map λq=>.tup [q.1,q.2],g):=by
 have e:lj [fs,ss] fs.length=(fs.zip ss).map λq=>.tup [q.1,q.2]:=by
  unfold lj;refine Wd λi=>?_;rw[qy,qy];by_cases h:i<fs.length
  . have b:i<ss.length:=by lia
    rw[Z3 h,nP (show i<(fs.zip ss).length by rw[zk];lia)];simp[h,b]
  . rw[zA (by simpa using h),zA (by rw[zk];lia)];rfl
 have a:fb σ g=some (.tup fs,g):=by simp[c]
 have n:fc σ g=some (.tup ss,g):=by simp[f]
 unfold CI;rw[xV];simp only[bV,a,n,cF,nv];simp[pY,uo,d,e]
def Ys {ks:List Int}{g:G}{σ:Sg}{S:List Nat}{r:List D}(s:ks.length=S.length)(j:Y.length=S.length)(u:S.length<=20)(y:σ[2]? = some (some (.tup (cg (bI ks)++r))))(x:σ[3]? = some (some (.lst (dN S))))(l:σ[4]? = some (some (.int ((2*S.length:Nat):Int))))(v:σ[5]? = some (some (.tup (bI Y)))):CJ σ g=some ((S.zip (ks.zip Y)).map λq=>.tup [.int q.1,.int q.2.1,.int q.2.2],g):=by
 have a:(bI ks).length=S.length:=by rw[bI,ro,s]
 have lc:(bI Y).length=S.length:=by rw[bI,ro,j]
 have pk:=Fs (ks:=bI ks) (r:=r) (g:=g) (by lia);rw[a]at pk;have e:lj [dN S,bI ks,bI Y] S.length=(S.zip (ks.zip Y)).map λq=>.tup [.int q.1,.int q.2.1,.int q.2.2]:=by
  unfold lj;refine Wd λi=>?_;rw[qy,qy];by_cases h:i<S.length
  . have f:i<ks.length:=by lia
    have j:i<Y.length:=by lia
    rw[Z3 h,nP (show i<(S.zip (ks.zip Y)).length by rw[zk,zk];lia)];simp[h,f,j,dN,bI]
  . rw[zA (by simpa using h),zA (by rw[zk];lia)];rfl
 have d:de σ g=some (.lst (dN S),g):=by simp[x]
 have c:d4 σ g=some (.tup (bI Y),g):=by simp[v]
 have b:xB cO eH (bG ef) (bG eh) σ g=some (.tup (bI ks),g):=by generalize ((2*S.length:Nat):Int)=z at *;rw[Lj];simp[y,l,pk]
 unfold CJ;rw[xV];simp only[bV,d,b,c,cF,nv];simp[pY,uo,a,lc,cG,e]
def QL:FT:=ax (ag bf cO de)
section
variable {g:G}
theorem A7:∀(l:List (Nat×Int×Int)) (a b c:Option D),dq (gT 3 (a_ (gN 1) (a_ (gN 2) (a_ (gN 3) fz)))) QL bg (l.map λq=>D.tup [.int q.1,.int q.2.1,.int q.2.2]) [none,a,b,c] g=some (dN ((l.filter λq=>decide (q.2.1≠q.2.2)).map (·.1)),g)
 | [],_,_,_=>rfl
 |q::l,a,b,c=>by
  have i:=A7 l (some (.int q.1)) (some (.int q.2.1)) (some (.int q.2.2));have t:QL [none,some (.int q.1),some (.int q.2.1),some (.int q.2.2)] g=some (decide (q.2.1≠q.2.2),g):=by unfold QL;rw[cw,cx (d:=.int q.2.1) (d':=.int q.2.2) (g1:=g) (g2:=g) rfl rfl,PQ];rfl
  simp only[x8,dq];rw[show gT 3 (a_ (gN 1) (a_ (gN 2) (a_ (gN 3) fz))) (D.tup [.int q.1,.int q.2.1,.int q.2.2]) [none,a,b,c] g=some ([none,some (.int q.1),some (.int q.2.1),some (.int q.2.2)],g) from rfl];simp only[nv,t,i];by_cases h:q.2.1≠q.2.2
  . rw[UT,if_pos (decide_eq_true h),if_pos (decide_eq_true h),show bg [none,some (D.int q.1),some (.int q.2.1),some (.int q.2.2)] g=some (.int q.1,g) from rfl]
    simp only[nv,i];rfl
  . rw[UT,if_neg (by simpa using h),if_neg (by simpa using h)]
end
def oy (m:D)(n o c:Nat)(i:List Int)(fs g:List D)(h:List Int)(a b:Option D):Sg:=[some m,some (.int o),some (.tup (bK i fs g h)),some (.lst (dN (au n o c))),some (.int ((2*(au n o c).length:Nat):Int)),some (.tup (bI h)),some (.ref 0),some (.tup fs),some (.tup g),some (.lst (dN (b_ n o))),a,b]
def QM {ks:List Int}{cs:List Int}{fs:List D}{ss:List D}(S:iK c n p o s X U h T R Q)(C:BC v)(B:BC b)(E:A.length<=100):Ft (ak false 3 3 (qL h)) (oy c n o X ks fs ss cs (some v) (some b)) [A]=some (.nx,oy c n o X ks fs ss cs (some v) (some b),[A++(fq n o s [(v,b)]).map .int]):=by
 have J:=QK (g:=[A]) S C B;obtain⟨sh,x,t,e,hv⟩:=B;have w:uH b=x:=by rw[e];rfl
 generalize a:oy c n o X ks fs ss cs (some v) (some b)=H;have l:b0 H [A]=some (c,[A]):=by subst a;rfl
 have i:eW H [A]=some (.lst (dN (b_ n o)),[A]):=by subst a;rfl
 have M:fe H [A]=some (v,[A]):=by subst a;rfl
 have f:eP H [A]=some (b,[A]):=by subst a;rfl
 have z:ee H [A]=some (.ref 0,[A]):=by subst a;rfl
 have m:ag ao eP cT H [A]=some (.int x,[A]):=(cx f rfl).trans (by rw[e];simp[fj,bb,Ud]);have d:bF (dN (b_ n o))<=50:=m_ λy r=>by obtain⟨j,_,rfl⟩:=oa.mp r;simp[dep]
 have hq:iz (.int x) (.lst (dN (b_ n o))) [A]=some (.bl (jr n o x),[A]):=by simp[iz,mR,bb,Ak,flat,m9,d,jr]
 have O:ax (ag iz (ag ao eP cT) eW) H [A]=some (jr n o x,[A]):=by rw[cw,cx m i,hq];rfl
 have Y:gW (aj (ak false 3 3 (qL h)) (ae b0 (ae fe (ae eP af)))) H [A]=some (vD s v b,[A]):=by simp only[Ab,gm,bV,l,M,f,cF,nv,J];rfl
 have I:gX (ax (ag iz (ag ao eP cT) eW)) (gW (aj (ak false 3 3 (qL h)) (ae b0 (ae fe (ae eP af))))) H [A]=some (jr n o x&&vD s v b,[A]):=by
  rw[pT,O];cases jr n o x
  . rfl
  . rw[afO];exact Y
 have Z:(fq n o s [(v,b)]).map D.int=if(jr n o x&&vD s v b)=true then [.int x]else []:=by unfold fq;rw[UT,w];split<;>simp[w]
 unfold Ft;rw[Z];cases hc:jr n o x&&vD s v b with
 |false =>
  rw[hc]at I;rw[if_neg (by simp),wQ];exact(cX I).trans rfl
 |true =>
  rw[hc]at I;rw[if_pos rfl];refine(lz I).trans ?_;have tg:az (A.length+1)=true:=aI (by lia);have em:dD isRef bZ ee (ae (ag ao eP cT) af) H [A]=some (.aB,[A ++ [.int x]]):=by
    have u:ae (ag ao eP cT) af H [A]=some ([.int x],[A]):=by simp only[bV,m,cF,nv]
    rw[qc,z];simp only[nv,u];simp[isRef,bZ,tg]
  rw[show cQ (dD isRef bZ ee (ae (ag ao eP cT) af)) H [A]=(dD isRef bZ ee (ae (ag ao eP cT) af) H [A]).bind λq=>some (.nx,H,q.2) from rfl,em];rfl
section
variable {ks cs:List Int}{fs ss:List D}
theorem A8 (S:iK v n p o s X U h T R Q):∀(l:List (D×D)) (A:List D) (a b:Option D),(∀q∈l,BC q.1/\BC q.2)->A.length+l.length<=100->∃g r,forL JD (Ft (ak false 3 3 (qL h))) (l.map λq=>.tup [q.1,q.2]) (oy v n o X ks fs ss cs a b) [A]=some (.nx,oy v n o X ks fs ss cs g r,[A++(fq n o s l).map .int])
 | [],A,a,b,_,_=>⟨a,b,by simp[forL,fq]⟩
 |q::l,A,a,b,m,u=>by
  obtain⟨c,f⟩:=m q (by simp);simp only[xk]at u;have e:=QM (ks:=ks) (cs:=cs) (fs:=fs) (ss:=ss) S c f (A:=A) (by lia);have j:((fq n o s [(q.1,q.2)]).map D.int).length<=1:=by rw[ro];unfold fq;rw[ro];exact Z2 _ _
  obtain⟨g,r,d⟩:=A8 S l (A++(fq n o s [(q.1,q.2)]).map .int) (some q.1) (some q.2) (λx i=>m x (by simp[i])) (by rw[nh];lia);refine⟨g,r,?_⟩;have t:JD (.tup [q.1,q.2]) (oy v n o X ks fs ss cs a b) [A]=some (oy v n o X ks fs ss cs (some q.1) (some q.2),[A]):=rfl;have pc:fq n o s (q::l)=fq n o s [(q.1,q.2)]++fq n o s l:=by unfold fq;rw[show q::l = [(q.1,q.2)]++l from rfl,adK,Vq]
  simp only[x8,forL,t,nv,e,d];rw[pc,Vq,zU]
end
def er (n o c g:Nat)(h:List Int)(fs i:List D)(p:List Int):List Nat:=(iJ n o c g h fs i p).map VY
def A9:(er n o p s r A j Y).map (λ(c:Nat)=>(c:Int))=iJ n o p s r A j Y:=by
 unfold er;rw[E5];conv=>rhs;rw[<- ahT (iJ n o p s r A j Y)]
 refine List.map_congr_left λx a=>?_;obtain⟨c,_,rfl⟩:=A6 a;simp
def Fv:dN (er n o p s r A j Y)=(iJ n o p s r A j Y).map .int:=by rw[<- A9,E5];rfl
def qi:p∈eU n o s X r A j Y ↔ p∈er n o s X r A j Y:=by rw[Mp,<- A9,oa];exact⟨λ⟨i,a,e⟩=>(show i=p by lia) ▸ a,λh=>⟨p,h,rfl⟩⟩
def Mq {tg:Nat}{l:List (D×D)}:(fq n o tg l).length<=l.length:=by unfold fq;rw[ro];exact Z2 _ _
def A_ {ks:List Int}{cs:List Int}{S:List Nat}:(js S ks cs).length<=S.length:=by unfold js;rw[ro];refine qJ (Z2 _ _) ?_;rw[zk];lia
def QN {sh:Nat}{ks:List Int}{cs:List Int}{fs:List D}{ss:List D}(S:iK v n p o s sh X h T R Q)(m:Rg n p o sh ks fs ss cs):ng h T R Q [v,.int o,.tup (bK ks fs ss cs)] []=some (.lst (dN (eU n o s sh ks fs ss cs)),[]):=by
 have H:=m.wl;have I:((bK ks fs ss cs).length:Int)-((au n o sh).length:Int)=((2*(au n o sh).length+2*p:Nat):Int):=by rw[H];lia
 have J:((2*(au n o sh).length:Nat):Int)+(p:Int)=((2*(au n o sh).length+p:Nat):Int):=by lia
 have M:c_ 2 ((au n o sh).length:Int)=true:=rfl;have sl:=eZ (n:=n) (o:=o) (sh:=sh);have n5:=S.n5;have p4:=S.p4;have O:=QI m;have U:=QH m;have sc:=λg=>QJ (g:=g) S m;have y:bK ks fs ss cs=cg (bI ks)++(fs++(ss++bI cs)):=by simp[bK]
 have num:az ((au n o sh).zip (ks.zip cs)).length=true:=aI (by rw[zk];lia);have ab:=A_ (S:=au n o sh) (ks:=ks) (cs:=cs);obtain⟨l,mo,C⟩:∃(l:Sg) (mo:G),QB h T R Q (ak false 4 3 (ke T Q)) (ak false 3 3 (qL h)) ([v,.int o,.tup (bK ks fs ss cs)].map some++nW (12-3) none) []=some (.rt (.lst (dN (eU n o s sh ks fs ss cs))),l,mo):=by
  have Y:=Ys (S:=au n o sh) (r:=fs++(ss++bI cs)) (σ:=[some v,some (.int o),some (.tup (bK ks fs ss cs)),some (.lst (dN (au n o sh))),some (.int ((2*(au n o sh).length:Nat):Int)),some (.tup (bI cs)),none,none,none,none,none,none]) (g:=[]) m.kl m.cl (by lia) (by rw[y];rfl) rfl rfl rfl;have cn:=A7 (g:=[]) ((au n o sh).zip (ks.zip cs)) none none none;have Z:=Yr (fs:=fs) (ss:=ss) (σ:=oy v n o sh ks fs ss cs none none) (g:=[dN (js (au n o sh) ks cs)]) (by rw[m.sl,m.fl]) rfl rfl;obtain⟨a,b,E⟩:=A8 (ks:=ks) (cs:=cs) (fs:=fs) (ss:=ss) S (fs.zip ss) (dN (js (au n o sh) ks cs)) none none (λq u=>⟨m.fa _ (UO u).1,m.sa _ (UO u).2⟩) (by rw[cG,zk,m.fl,m.sl];lia);have eL:dN (js (au n o sh) ks cs)++(fq n o s (fs.zip ss)).map .int=dN (er n o s sh ks fs ss cs):=by rw[Fv,iJ,Vq,E5];rfl
  rw[eL]at E
  have k1:dC cO (bG (ag (bX dJ (· - ·)) (aj bL (ae cO af)) (aj bL (ae de af)))) eH [some v,some (.int o),some (.tup (bK ks fs ss cs)),some (.lst (dN (au n o sh))),some (.int ((2*(au n o sh).length:Nat):Int)),none,none,none,none,none,none,none] []=some (.tup (bI cs),[]):=by generalize bK ks fs ss cs=W at *;generalize ((2*(au n o sh).length+2*p:Nat):Int)=a at *;simp[cG,I,i5,O]
  have k2:dC cO (bG ef) (bG (ag bo ef (aj T (ae b0 af)))) [some v,some (.int o),some (.tup (bK ks fs ss cs)),some (.lst (dN (au n o sh))),some (.int ((2*(au n o sh).length:Nat):Int)),some (.tup (bI cs)),some (.ref 0),none,none,none,none,none] [dN (js (au n o sh) ks cs)]=some (.tup fs,[dN (js (au n o sh) ks cs)]):=by generalize bK ks fs ss cs=W at *;generalize ((2*(au n o sh).length:Nat):Int)=a at *;generalize ((2*(au n o sh).length+p:Nat):Int)=b at *;simp[S.hp,J,i5,U]
  have k3:bC j4 CJ [none,none,none,none] (gT 3 (a_ (gN 1) (a_ (gN 2) (a_ (gN 3) fz)))) (ax (ag bf cO de)) bg [some v,some (.int o),some (.tup (bK ks fs ss cs)),some (.lst (dN (au n o sh))),some (.int ((2*(au n o sh).length:Nat):Int)),some (.tup (bI cs)),none,none,none,none,none,none] []=some (.ref 0,[dN (js (au n o sh) ks cs)]):=by rw[gp,Y];simp only[nv,ro,num,if_true];rw[show cu [none,none,none,none] _ = [none,none,none,none] from rfl];have c:dq (gT 3 (a_ (gN 1) (a_ (gN 2) (a_ (gN 3) fz)))) (ax (ag bf cO de)) bg (((au n o sh).zip (ks.zip cs)).map λq=>D.tup [.int q.1,.int q.2.1,.int q.2.2]) [none,none,none,none] []=_:=cn;rw[c];rfl
  have kf:dB CI JD (Ft (ak false 3 3 (qL h))) (oy v n o sh ks fs ss cs none none) [dN (js (au n o sh) ks cs)]=some (.nx,oy v n o sh ks fs ss cs a b,[dN (er n o s sh ks fs ss cs)]):=by rw[gG,Z,nv];exact E
  have x:pB ee (oy v n o sh ks fs ss cs a b) [dN (er n o s sh ks fs ss cs)]=some (.lst (dN (eU n o s sh ks fs ss cs)),[dN (er n o s sh ks fs ss cs)]):=by
   have e:=Fm (L:=er n o s sh ks fs ss cs) (ms:=eU n o s sh ks fs ss cs) (λj=>qi) tX Fu;have B:=(aer (bR (λi=>((er n o s sh ks fs ss cs).map λ(j:Nat)=>(j:Int)).getD i 0) ((er n o s sh ks fs ss cs).map λ(j:Nat)=>(j:Int)).length)).length_eq.symm.trans (congrArg aft e)
   replace B:=ae7 B
   replace B:=qJ B (qJ (ae7 (ro _)) (uI n5 S.on))
   have z:fM (dN (er n o s sh ks fs ss cs))=some ((er n o s sh ks fs ss cs).map λ(j:Nat)=>(j:Int)):=by have:=baH ((er n o s sh ks fs ss cs).map λ(j:Nat)=>(j:Int));rw[E5]at this;exact this
   have h7:∀i,i<((er n o s sh ks fs ss cs).map λ(j:Nat)=>(j:Int)).length->0<=((er n o s sh ks fs ss cs).map λ(j:Nat)=>(j:Int)).getD i 0/\((er n o s sh ks fs ss cs).map λ(j:Nat)=>(j:Int)).getD i 0<=7:=λi f=>by rw[ro]at f;have:(er n o s sh ks fs ss cs)[i]< n:=(fR.mp (Fp.mp (qi.mpr (Ds f))).1).1;rw[O1,qy,nP f];exact⟨afE _,by show((er n o s sh ks fs ss cs)[i]:Int)<=7;lia⟩
   generalize er n o s sh ks fs ss cs=L at *;rw[AN,show ee (oy v n o sh ks fs ss cs a b) [dN L]=some (.ref 0,[dN L]) from rfl];simp only[nv,fB,adF,z];rw[if_pos (decide_eq_true ⟨B,h7⟩),e];simp[dN,E5,Ru]
  exact⟨_,_,cD (S.hs []) (cD (d:=.int ((2*(au n o sh).length:Nat):Int)) (g1:=[]) (by simp[cG,M]) (cD k1 (cD k3 (cD k2 (cD (sc _) (cD (S.ho _) (cL kf (dE x))))))))⟩
 have w:ni (ng h T R Q [v,.int o,.tup (bK ks fs ss cs)] []) λq=>q=(.lst (dN (eU n o s sh ks fs ss cs)),[]):=by refine mO rfl ?_;rw[C];simp only[gH];refine⟨?_,by simp,by simp,by simp⟩;simp only[bU];exact d9 _ m9
 obtain⟨q,e,rfl⟩:=w;exact e
def Yt (S:iK v n p o s X U h T R Q)(m:Rg n p o X r A j Y):dw (cy 2 1 (pG (ng h T R Q))) ([v,.int o] ++ [.tup (bK r A j Y)]) a=some (.lst (dN (eU n o s X r A j Y)),a):=by
 have b:aO (bK r A j Y)=true:=gy m.fla;have d:jy ([v,.int o] ++ [.tup (bK r A j Y)])=true:=by simp[jy,og,lC v S.fm,j2 _ b]
 have c:aF 0 ([v,.int o] ++ [.tup (bK r A j Y)])=true:=by simp[aF,bU,bQ v S.fm,d9 _ b]
 have e:cy 2 1 (pG (ng h T R Q)) ([v,.int o] ++ [.tup (bK r A j Y)]) []=some (.lst (dN (eU n o s X r A j Y)),[]):=by unfold cy;rw[if_pos (show([v,.int o] ++ [.tup (bK r A j Y)]:List D).length=2+1 from rfl)];exact QN S m
 have g:=m9 (l:=eU n o s X r A j Y);have f:bU 0 (.lst (dN (eU n o s X r A j Y)))=true:=by simp only[bU];exact d9 _ g
 have i:og (.lst (dN (eU n o s X r A j Y)))=true:=by simp only[og];exact j2 _ g
 unfold dw ia;rw[if_pos d,if_pos c,e];simp only[nv];rw[if_pos f];simp only[nv];rw[if_pos i]
def Ba (R:Rg n p o s r A j Y):(wZ n p o s r).length=3*(au n o s).length+2*p:=by unfold wZ;rw[nh,pH,zk,R.kl];simp[jD,ox,cU,cls];lia
def QO {sh:Nat}{g:G}(hR:C x=some (dw (cy 0 1 b0)))(S:iK v n p o s sh X h T R Q)(nm:∀g,O [v] g=some (.tup (cU p),g))(H:Rg n p o sh r A j Y){i:Nat}(B:i<3*(au n o sh).length+2*p):
   ∃E,(wZ n p o sh r)[i]? = some E/\ak false 6 3 (vt Q O (ak false 5 4 (oq C)) x) [v,.int o,.tup ((bK r A j Y).take i)] g=some (E,g):=by
 have J:=H.wl;have n5:=S.n5;have p4:=S.p4;have sl:=eZ (n:=n) (o:=o) (sh:=sh);have lt:((bK r A j Y).take i).length=i:=by rw[Aq,J];lia
 have cl:(cls "call" o (au n o sh)).length=(au n o sh).length:=by simp[cls]
 have mo:c_ 2 ((au n o sh).length:Int)=true:=rfl;have l:((au n o sh).zip r).length=(au n o sh).length:=by rw[zk,H.kl];lia
 by_cases m:i<2*(au n o sh).length
 . have f:i / 2<(au n o sh).length:=by lia
   have u:i / 2<r.length:=by rw[H.kl];exact f
   have I:((au n o sh).zip r)[i / 2]? = some ((au n o sh)[i / 2],r[i / 2]):=by rw[Qy];exact⟨nP f,nP u⟩
   have M:aF 0 (cls "call" o (au n o sh))=true:=eY λE c=>by obtain⟨num,_,rfl⟩:=oa.mp c;rfl
   have U:aF 0 ((au n o sh).map λnum=>bJ o num)=true:=eY λE c=>by obtain⟨num,_,rfl⟩:=oa.mp c;rfl
   have Z:aF 0 ((bK r A j Y).take i)=true:=eY λE c=>bQ E (H.fla E (O4 c));obtain⟨E,h1,fx,c⟩:∃E,(((au n o sh).zip r).flatMap λq=>[D.tup [.str "read",.tup [.str "call",.int q.1,.int o]],.tup [.str "write",bJ o q.1,.int q.2]])[i]? = some E/\flat E=true/\ak false 5 4 (oq C) [.lst (cls "call" o (au n o sh)),.lst ((au n o sh).map λnum=>bJ o num),.fn x [],.tup ((bK r A j Y).take i)] []=some (E,[]):=by
     by_cases he:i % 2=0
     . have:=qg (a:=λq:Nat×Int=>D.tup [.str "read",.tup [.str "call",.int q.1,.int o]]) (b:=λq=>.tup [.str "write",bJ o q.1,.int q.2]) I
       rw[show 2*(i / 2)=i by lia]at this;exact⟨_,this,rfl,tW (p:=i / 2) (by rw[lt];lia) (by rw[cls,qy,nP f];rfl)⟩
     . have hk:(bK r A j Y)[2*(i / 2)]? = some (.int r[i / 2]):=by
         unfold bK;rw[zU,zU,r_ (by rw[e_,bI,ro];lia)];exact Fq (by rw[bI,qy,nP u];rfl)
       have e:(bK r A j Y).take i=(bK r A j Y).take (2*(i / 2)) ++ [.int r[i / 2]]:=by
         conv=>lhs;rw[show i=2*(i / 2)+1 by lia]
         rw[afq,hk];rfl
       have:=yF (a:=λq:Nat×Int=>D.tup [.str "read",.tup [.str "call",.int q.1,.int o]]) (b:=λq=>.tup [.str "write",bJ o q.1,.int q.2]) I;rw[show 2*(i / 2)+1=i by lia]at this;refine⟨_,this,rfl,?_⟩;rw[e];refine vB (p:=i / 2) (cap:=[]) hR (QE rfl) ?_ ?_
       . rw[<- e,lt];lia
       . rw[qy,nP f];rfl
   refine⟨E,?_,?_⟩
   . unfold wZ
     rw[r_ (by rw[pH,l];exact m)];exact h1
   generalize (bK r A j Y).take i=W at *;refine bp rfl (cD (yG S rfl rfl).1 (tO ((lz (g1:=g) ?_).trans (cD (yG S rfl rfl).2 (dE (rF (by simp[aF,bU,M,U,Z]) c fx)))))) rfl;simp[cl,mo,fg,lt];lia
 . obtain⟨e,he⟩:∃e,i=2*(au n o sh).length+e:=⟨i-2*(au n o sh).length,by lia⟩
   have el:e<(ox n p o sh).length:=by simp[ox,cU,cls];lia
   refine⟨.tup [.str "read",(ox n p o sh)[e]],?_,?_⟩
   . unfold wZ
     rw[CY (by rw[pH,l];lia),pH,l,he,W3,jD,qy,nP el];rfl
   have z2:az 2=true:=rfl;have tg:¬((i:Int)<2*((au n o sh).length:Int)):=by lia
   have ei:(i:Int)-2*((au n o sh).length:Int)=((e:Nat):Int):=by lia
   have mt:=XC (g:=g) (xs:=cU p) (k:=2) (by decide) (by decide) (by simp[cU];lia);have rp:(nW (2:Int).toNat (cU p)).flatten=cU p++cU p:=by show(nW 2 (cU p)).flatten=_;simp[nW]
   rw[rp]at mt;have at_:cJ (ox n p o sh) (e:Int)=some (ox n p o sh)[e]:=gC (nP el)
   have y:az ((cU p++cU p).length+(cls "call" o (au n o sh)).length)=true:=aI (by simp[cU,cls];lia);have zc:az (cls "call" o (au n o sh)).length=true:=aI (by rw[cl];lia);generalize (bK r A j Y).take i=W at *;refine bp rfl (cD (yG S rfl rfl).1 (cL (g1:=g) ((cX (g1:=g) (by simp[cl,mo,fg,lt,tg])).trans rfl) (cD (d:=.tup (cU p++cU p)) (g1:=g) (by simp[nm g,mt]) (dE ?_)))) rfl;have q1:ag bo d4 (aj gZ (ae de af)) [some v,some (.int o),some (.tup W),some (.lst (cls "call" o (au n o sh))),none,some (.tup (cU p++cU p))] g=some (.tup (ox n p o sh),g):=by rw[cx (d:=.tup (cU p++cU p)) (d':=.tup (cls "call" o (au n o sh))) (g1:=g) (g2:=g) rfl (by simp[bb,zc]),GW,if_pos y];rfl
   have q2:ag (bX dJ (· - ·)) (aj bL (ae cO af)) (ag cP eh (aj bL (ae de af))) [some v,some (.int o),some (.tup W),some (.lst (cls "call" o (au n o sh))),none,some (.tup (cU p++cU p))] g=some (.int e,g):=by simp[cl,mo,lt,ei]
   show aH ay _ [some v,some (.int o),some (.tup W),some (.lst (cls "call" o (au n o sh))),none,some (.tup (cU p++cU p))] g=_;have z:=(cx (o:=ao) q1 q2).trans (show ao (.tup (ox n p o sh)) (.int e) g=some ((ox n p o sh)[e],g) by simp[fj,bb,at_]);simp only[mN,bV,z,BU,cF,nv];simp[z2]
abbrev R4:=List Int×List D×List D×List Int
def et (r:R4):List D:=bK r.1 r.2.1 r.2.2.1 r.2.2.2
abbrev fI (n p o c:Nat)(r:R4):Prop:=Rg n p o c r.1 r.2.1 r.2.2.1 r.2.2.2
def dA (n o c g:Nat)(r:R4):List Nat:=eU n o c g r.1 r.2.1 r.2.2.1 r.2.2.2
structure lV (n p o sh:Nat)(rs:List R4):Prop where
 all:∀r∈rs,fI n p o sh r
 cH:rs.length<=20
def vH:FS:=(av (b9 (ax (ag oEq (aj bL (ae cO af)) d4)) (aM (aH ay (ae (aH ay (ae jR (ae (aH ay (ae fy (ae (ag ao ef cT) af))) af))) (ae d4 af)))) aR) (aM (aH ay (ae (aH ay (ae hF (ae (ag ao cO d4) af))) (ae (ag bo d4 cT) af)))))
def lV.VR {rs:List R4}(S:iK v n p o s X U h T R Q)(W:lV n p o X rs):A0 (dw (cy 2 1 (pG (ng h T R Q)))) [v,.int o] (aT n p o X) (rs.map et) (rs.map (dA n o s X)):=by
 have f:=S.p1;refine⟨λw hw=>?_,by simp,by unfold aT;lia,by simpa using W.cH,λi b=>?_⟩
 . obtain⟨r,c,rfl⟩:=oa.mp hw
   exact(W.all r c).wl
 . have a:i<rs.length:=by simpa using b
   have e:(rs.map et).getD i []=et rs[i]:=by simp[O1,qy,nP a]
   have d:(rs.map (dA n o s X)).getD i []=dA n o s X rs[i]:=by simp[O1,qy,nP a]
   have m:=W.all _ (Ds a);rw[e,d];exact⟨λg=>Yt S m,tX,qJ (uI S.n5 S.on) (by decide)⟩
def yI {rs:List R4}(W:lV n p o s rs)(c:∀x∈A,flat x=true):∀x∈(rs.map et).flatten++A,flat x=true:=λx a=>by
 rcases nY.mp a with a|a
 . obtain⟨w,hw,a⟩:=List.mem_flatten.mp a
   obtain⟨r,b,rfl⟩:=oa.mp hw;exact(W.all r b).fla x a
 . exact c x a
def Bb {rs:List R4}(W:lV n p o s rs){rest:List D}:((rs.map et).flatten++rest).length=rs.length*aT n p o s+rest.length:=by rw[nh,lB (n:=aT n p o s) (λw hw=>by obtain⟨r,a,rfl⟩:=oa.mp hw;exact(W.all r a).wl),ro]
def CK {sh:Nat}{rs:List R4}{g:G}{M:Str}{X:FS}{scF:Fn}(hR:C x=some (dw (cy 2 1 (pG (ng h T R Q)))))(I:y M=some (dw (cy 0 1 b0)))(S:iK v n p o s sh U h T R Q)(H:∀g,O [v] g=some (.tup (cU p),g))(W:lV n p o sh rs){r:R4}(A:fI n p o sh r){i:Nat}(B:i<aT n p o sh)(E:∀k,k<rs.length->cM (.int U) (rs.map (dA n o s sh)) k):
  ∃J u,(wZ n p o sh r.1)[i]? = some J/\ak false 6 3 (vC h T Q (ak false 10 5 (iq C)) (ak false 6 3 (vt Q O (ak false 5 4 (oq y)) M)) scF x X) [v,.int o,.tup ((rs.map et).flatten++(et r).take i)] g=some (.tup [J,u],g):=by
 have mo:=S.p1;have fr:∀J∈(et r).take i,flat J=true:=λJ b=>A.fla J (O4 b);have lt:((et r).take i).length=i:=by rw[Aq,show(et r).length=aT n p o sh from A.wl];lia
 have nm:=CG (rest:=(et r).take i) (mv:=.int U) hR (W.VR S) rfl (by rw[lt];exact B) (λk l=>E k (by simpa using l));have f:=rF (g:=g) (JE S (yI W fr)) nm rfl;obtain⟨J,b,ex⟩:=QO (g:=g) I S H A (i:=i) B;refine⟨J,.int ((rs.length*aT n p o sh+i:Nat):Int),b,?_⟩;have len:=Bb W (rest:=(et r).take i);rw[lt]at len;have Y:1<=aT n p o sh:=by unfold aT;lia
 have cut:tf ((rs.map et).flatten++(et r).take i) (some ((rs.length*aT n p o sh:Nat):Int)) none=(et r).take i:=by unfold tf;rw[ny,jx (by rw[len];lia),pF (n:=aT n p o sh) (λw hw=>by obtain⟨q,num,rfl⟩:=oa.mp hw;exact(W.all q num).wl) (by simp)];rw[show List.drop rs.length (rs.map et)= [] from List.drop_eq_nil_iff.mpr (by simp),List.flatten_nil,QX,len];exact Jt (by rw[lt];lia)
 have c:((rs.length*aT n p o sh+i:Nat):Int) / (aT n p o sh:Int)*(aT n p o sh:Int)=((rs.length*aT n p o sh:Nat):Int):=by
  have:(rs.length*aT n p o sh+i) / aT n p o sh=rs.length:=by rw[XU,Nat.mul_add_div (by lia),Nat.div_eq_of_lt B];lia
  rw[<- Int.natCast_ediv,this];simp
 have e:aT n p o sh<=30:=by have:=S.n5;have:=S.p4;have:=eZ (n:=n) (o:=o) (sh:=sh);unfold aT;lia
 have cH:=W.cH;have Z:rs.length*aT n p o sh<=600:=afo cH e;generalize R':(rs.map et).flatten++(et r).take i=RD at *;change ak _ _ _ _ [v,.int o,.tup ((et r).take i)] g=_ at ex;generalize z:rs.length*aT n p o sh+i=L at *;generalize rs.length*aT n p o sh=m at *;have a:fA L (aT n p o sh)=true:=nR (by lia) (by lia);have d:c_ ((L:Int) / (aT n p o sh)) (aT n p o sh)=true:=iI (by lia) (by lia);have j:az 2=true:=rfl;refine bp rfl (A5 S f (gM (g1:=g) rfl ?_)) rfl;simp[len,a,d,c,i5,cut,ex,j]
def QQ {pre:List D}(R:Rg n p o s r A j Y):tf (pre++bK r A j Y) (some ((pre.length+2*(au n o s).length+p:Nat):Int)) (some ((pre.length+2*(au n o s).length+2*p:Nat):Int))=j:=by
 have e:pre++bK r A j Y=(pre++cg (bI r)++A)++(j++bI Y):=by simp[bK]
 have a:(pre++cg (bI r)++A).length=pre.length+2*(au n o s).length+p:=by rw[nh,nh,R.kw,R.fl]
 have b:(pre++bK r A j Y).length=pre.length+(3*(au n o s).length+2*p):=by rw[nh,R.wl]
 unfold tf;rw[jx (by lia),xp (by lia),e,<- a,Z7,a,show pre.length+2*(au n o s).length+2*p-(pre.length+2*(au n o s).length+p)=j.length by rw[R.sl];lia,aeB]
def QR {pre:List D}(S:iK v n p o s X U h T R Q)(m:Rg n p o X r A j Y):ak false 4 3 (ke T Q) [v,.int o,.tup (pre++bK r A j Y)] a=some (.tup j,a):=by
 have f:(pre++bK r A j Y).length=pre.length+(3*(au n o X).length+2*p):=by rw[nh,m.wl]
 have g:((pre++bK r A j Y).length:Int)-((au n o X).length:Int)=((pre.length+2*(au n o X).length+2*p:Nat):Int):=by rw[f];lia
 have e:((pre.length+2*(au n o X).length+2*p:Nat):Int)-(p:Int)=((pre.length+2*(au n o X).length+p:Nat):Int):=by lia
 have c:=QQ (pre:=pre) m;generalize pre++bK r A j Y=W at *;refine bp rfl (cD (d:=.int ((pre.length+2*(au n o X).length+2*p:Nat):Int)) (g1:=a) (by simp[S.hs a,cG,g]) (dE (d:=.tup j) (g1:=a) ?_)) rfl;generalize i:((pre.length+2*(au n o X).length+2*p:Nat):Int)=q at *;generalize ((pre.length+2*(au n o X).length+p:Nat):Int)=b at *;simp[S.hp a,e,i5,c]
abbrev allR (rs:List R4)(r:R4):List D:=((rs ++ [r]).map et).flatten
def HI {rs:List R4}{r:R4}:allR rs r=(rs.map et).flatten++et r:=by simp[allR]
def lV.snoc {rs:List R4}(W:lV n p o s rs){r:R4}(b:fI n p o s r)(cH:rs.length<20):lV n p o s (rs ++ [r]):=⟨λq a=>by
 rcases nY.mp a with a|a
 . exact W.all q a
 . simp at a;subst a;exact b,by simp;lia⟩
def rH {rs:List R4}(W:lV n p o s rs){r:R4}(a:fI n p o s r)(cH:rs.length<20):(allR rs r).length=(rs.length+1)*aT n p o s:=by have:=Bb (W.snoc a cH) (rest:=[]);rw[wQ]at this;simpa using this
def hlM (scF:Fn)(X:FS):FS:=av (b9 (ax (ag qH (ag ao ef cT) fk)) (aM (aH ay (ae (aH ay (ae hF (ae (aj gZ (ae (bC bD (da (aj scF (ae b0 (ae bg (ae (dC cO eH (bG d4)) af))))) [none,none] (gN 1) cC (ag ao bg dV)) af)) af))) (ae d4 af)))) aR) X
def jt (m:D)(n p o c:Nat)(a:List D)(s U:Nat)(en:Option Nat):Sg:=[some m,some (.int o),some (.tup a),some (.int (aT n p o c)),some (.tup [.int s,eD en]),some (.int U)]
def pI {rs:List R4}{g:G}{X:FS}{step scF:Fn}(hR:C x=some (dw (cy 2 1 (pG (ng h T R Q)))))(S:iK v n p o s U J h T R Q)(W:lV n p o U rs){r:R4}(q:fI n p o U r)(cH:rs.length<20){rest:List D}(y:∀m∈rest,flat m=true){en:Option Nat}(E:∀k,k<rs.length->cM (.int J) ((rs ++ [r]).map (dA n o s U)) k)(z:gP (.int J) ((rs ++ [r]).map (dA n o s U)) rs.length en){Y:Option (F×Sg×G)}(k:hlM scF X (jt v n p o U (allR rs r++rest) (rs.length*aT n p o U) ((rs.length+1)*aT n p o U) en) g=Y):
  vC h T Q (ak false 10 5 (iq C)) step scF x X ([v,.int o,.tup (allR rs r++rest)].map some++nW (6-3) none) g=Y:=by
 have l:=S.p1;have c:=W.snoc q cH;have B:((rs ++ [r]).map et).length=rs.length+1:=by simp
 have e:=CH (rest:=rest) (mv:=.int J) (en:=en) hR (c.VR S) rfl (by lia) (λk f=>E k (by rw[B]at f;lia)) (by rw[B,ahx];exact z);rw[B,ahx]at e;have u:=rF (g:=g) (JE S (yI c y)) e (by cases en<;>rfl);have i:((rs.length*aT n p o U:Nat):Int)+(aT n p o U:Int)=(((rs.length+1)*aT n p o U:Nat):Int):=by rw[Il];lia
 have j:∀a b:D,cJ [a,b] 0=some a:=λ_ _=>rfl;unfold allR at *;generalize ((rs ++ [r]).map et).flatten++rest=H at *;refine A5 S u (cL (g1:=g) ((cX (g1:=g) rfl).trans rfl) (cD (d:=.int ((rs.length+1)*aT n p o U:Nat)) (g1:=g) ?_ k));rw[<- i];generalize rs.length*aT n p o U=nm at *;simp[fj,bb,j]
def zx {rs:List R4}{g:G}{X:FS}{step:Fn}(hR:C x=some (dw (cy 2 1 (pG (ng T R Q O)))))(S:iK v n p o s U J T R Q O)(W:lV n p o U rs){r:R4}(A:fI n p o U r)(cH:rs.length<20){rest:List D}(E:∀m∈rest,flat m=true)(M:∀k,k<rs.length->cM (.int J) ((rs ++ [r]).map (dA n o s U)) k)(H:gP (.int J) ((rs ++ [r]).map (dA n o s U)) rs.length none):
  ak false 6 3 (vC T R O (ak false 10 5 (iq C)) step (ak false 4 3 (ke R O)) x X) [v,.int o,.tup (allR rs r++rest)] g=some (.tup [.tup [.str "told",.tup (r.2.2.1.map So)],.int ((rs.length+1)*aT n p o U:Nat)],g):=by
 have sc:ak false 4 3 (ke R O) [v,.int o,.tup (allR rs r)] g=some (.tup r.2.2.1,g):=by rw[HI];exact QR S A
 have al:=rH W A cH;have cut:tf (allR rs r++rest) none (some (((rs.length+1)*aT n p o U:Nat):Int))=allR rs r:=by unfold tf;rw[xp (by rw[nh,al];lia)];show((allR rs r++rest).drop 0).take ((rs.length+1)*aT n p o U-0)=_;rw[afn,Nat.sub_zero,<- al,aeB]
 have zs:az r.2.2.1.length=true:=aI (by rw[A.sl];have:=S.p4;lia);have z2:az 2=true:=rfl;have c:=d5 (t:=gN 1) (c:=cC) (e:=ag ao bg dV) (h:=So) (λI=>∃a,I = [none,a]) r.2.2.1 [none,none] g ⟨_,rfl⟩ (by rintro t hm I ⟨a,rfl⟩;obtain⟨Y,a,t,rfl,hv⟩:=A.sa t hm;exact⟨[none,some (.tup [Y,.int a,.int t])],by simp,by simp,by simp[fj,bb,JC];rfl,⟨_,rfl⟩⟩)
 refine bp rfl (pI hR S W A cH E M H (gM (g1:=g) (rfl:(ax (ag qH (ag ao ef cT) fk)) (jt v n p o U (allR rs r++rest) (rs.length*aT n p o U) ((rs.length+1)*aT n p o U) none) g=some (true,g)) ?_)) rfl;generalize allR rs r++rest=b at *;generalize allR rs r=Z at *;generalize (rs.length+1)*aT n p o U=nm at *;generalize rs.length*aT n p o U=B at *;have q:dC cO eH (bG d4) (jt v n p o U b B nm none) g=some (.tup Z,g):=by show(dC cO eH (bG d4)) [some v,some (.int o),some (.tup b),some (.int (aT n p o U)),some (.tup [.int B,eD none]),some (.int nm)] g=_;simp[i5,cut]
 have v0:b0 (jt v n p o U b B nm none) g=some (v,g):=rfl;have v1:bg (jt v n p o U b B nm none) g=some (.int o,g):=rfl;have z:d4 (jt v n p o U b B nm none) g=some (.int nm,g):=rfl;have i:cu [none,none] (jt v n p o U b B nm none)= [none,none]:=rfl;generalize jt v n p o U b B nm none=d at *;have u:aj (ak false 4 3 (ke R O)) (ae b0 (ae bg (ae (dC cO eH (bG d4)) af))) d g=some (.tup r.2.2.1,g):=by simp only[gm,bV,v0,v1,q,cF,nv,sc]
 have l:bC bD (da (aj (ak false 4 3 (ke R O)) (ae b0 (ae bg (ae (dC cO eH (bG d4)) af))))) [none,none] (gN 1) cC (ag ao bg dV) d g=some (.lst (r.2.2.1.map So),g):=by
  have j:da (aj (ak false 4 3 (ke R O)) (ae b0 (ae bg (ae (dC cO eH (bG d4)) af)))) d g=some (r.2.2.1,g):=by simp only[da,u,nv,bb,Iv]
  rw[gp,j];simp only[nv,zs,if_true];rw[i,c];rfl
 have f:az (r.2.2.1.map So).length=true:=by rw[ro];exact zs
 have y:aj gZ (ae (bC bD (da (aj (ak false 4 3 (ke R O)) (ae b0 (ae bg (ae (dC cO eH (bG d4)) af))))) [none,none] (gN 1) cC (ag ao bg dV)) af) d g=some (.tup (r.2.2.1.map So),g):=by simp only[gm,bV,l,cF,nv,Ad,bb,f,if_true]
 have vF:aH ay (ae hF (ae (aj gZ (ae (bC bD (da (aj (ak false 4 3 (ke R O)) (ae b0 (ae bg (ae (dC cO eH (bG d4)) af))))) [none,none] (gN 1) cC (ag ao bg dV)) af)) af)) d g=some (.tup [.str "told",.tup (r.2.2.1.map So)],g):=by simp only[mN,bV,y,BU,cF,nv];rfl
 rw[mN];simp only[bV,vF,z,cF,nv];rfl
def CL {mo:Nat}{rs:List R4}{g:G}{step scF:Fn}(hR:C x=some (dw (cy 2 1 (pG (ng h T R Q)))))(S:iK v n p o U J mo h T R Q)(W:lV n p o J rs){r:R4}(e:fI n p o J r)(cH:rs.length<20)(i:∀k,k<rs.length->cM (.int mo) ((rs ++ [r]).map (dA n o U J)) k)(l:gP (.int mo) ((rs ++ [r]).map (dA n o U J)) rs.length (some s)):
   ∃u,ak false 6 3 (vC h T Q (ak false 10 5 (iq C)) step scF x vH) [v,.int o,.tup (allR rs r)] g=some (.tup [.tup [.str "read",.tup [.str "view",.int s]],u],g):=by
 have al:=rH W e cH;have f:=pI (g:=g) (step:=step) (scF:=scF) (X:=vH) (rest:=[]) (Y:=some (.rt (.tup [.tup [.str "read",.tup [.str "view",.int s]],.int ((rs.length+1)*aT n p o J:Nat)]),jt v n p o J (allR rs r ++ []) (rs.length*aT n p o J) ((rs.length+1)*aT n p o J) (some s),g)) hR S W e cH (by simp) i l ?_
 . rw[wQ]at f
   exact⟨_,bp rfl f rfl⟩
 have d:az 2=true:=rfl;rw[wQ];generalize allR rs r=a at *;generalize (rs.length+1)*aT n p o J=j at *;generalize rs.length*aT n p o J=nm at *;refine cL (g1:=g) ((cX (g1:=g) rfl).trans rfl) (gM (g1:=g) ?_ rfl);have c:aj bL (ae cO af) (jt v n p o J a nm j (some s)) g=some (.int j,g):=by rw[<- al];rfl
 have b:d4 (jt v n p o J a nm j (some s)) g=some (.int j,g):=rfl;rw[cw,cx c b];simp[flat,dep,bq,fg]
def CM {mo:Nat}{rs:List R4}{g:G}{step scF:Fn}(hR:C x=some (dw (cy 2 1 (pG (ng h T R Q)))))(S:iK b n p o U J mo h T R Q)(W:lV n p o J rs){r:R4}(l:fI n p o J r)(cH:rs.length<20){rest:List D}(A:flat v=true)(y:∀E∈rest,flat E=true)(u:∀k,k<rs.length->cM (.int mo) ((rs ++ [r]).map (dA n o U J)) k)(z:gP (.int mo) ((rs ++ [r]).map (dA n o U J)) rs.length (some s)):
   ak false 6 3 (vC h T Q (ak false 10 5 (iq C)) step scF x vH) [b,.int o,.tup (allR rs r++v::rest)] g=some (.tup [.tup [.str "told",v],.int (((rs.length+1)*aT n p o J:Nat)+1:Int)],g):=by
 have al:=rH W l cH;have at_:cJ (allR rs r++v::rest) (((rs.length+1)*aT n p o J:Nat):Int)=some v:=gC (by rw[<- al];simp)
 have len:((allR rs r++v::rest).length:Int)≠((rs.length+1)*aT n p o J:Nat):=by rw[nh,al,xk];lia
 have nm:=pI (g:=g) (step:=step) (scF:=scF) (X:=vH) (rest:=v::rest) (Y:=some (.rt (.tup [.tup [.str "told",v],.int (((rs.length+1)*aT n p o J:Nat)+1:Int)]),jt b n p o J (allR rs r++v::rest) (rs.length*aT n p o J) ((rs.length+1)*aT n p o J) (some s),g)) hR S W l cH (by simp;exact⟨A,y⟩) u z ?_
 . exact bp rfl nm rfl
 have i:az 2=true:=rfl;generalize allR rs r++v::rest=B at *;generalize (rs.length+1)*aT n p o J=m at *;generalize rs.length*aT n p o J=j at *;have q:aj bL (ae cO af) (jt b n p o J B j m (some s)) g=some (.int B.length,g):=rfl;have a:d4 (jt b n p o J B j m (some s)) g=some (.int m,g):=rfl;refine cL (g1:=g) ((cX (g1:=g) rfl).trans rfl) (cL (σ1:=jt b n p o J B j m (some s)) (g1:=g) ((cX (g1:=g) ?_).trans rfl) (dE ?_))
 . rw[cw,cx q a]
   simp[flat,dep,bq,fg];lia
 . have f:ag ao cO d4 (jt b n p o J B j m (some s)) g=some (v,g):=by
    rw[cx (d:=.tup B) (g1:=g) rfl a];simp[fj,bb,at_]
   have c:ag bo d4 cT (jt b n p o J B j m (some s)) g=some (.int ((m:Int)+1),g):=by rw[cx (d':=.int 1) (g2:=g) a rfl];rfl
   have e:aH ay (ae hF (ae (ag ao cO d4) af)) (jt b n p o J B j m (some s)) g=some (.tup [.str "told",v],g):=by simp only[mN,bV,f,BU,cF,nv];rfl
   rw[mN];simp only[bV,e,c,cF,nv];rfl
end
section
variable {r Y C H:Nat}{Z J T:List D}{X:List (List Nat)}{l:List Nat}{f:Nat->Nat}{U R Q:Fn}{O:D->Prop}{c:D}{I B:Int}{E:G}
def CN (g:G)(a:Nat):Prop:=∃c,g[a]? = some c/\aO c=true/\bF c<=50/\aF 0 c=true
def CN.of (e:E[p]? = a[p]?)(h:CN a p):CN E p:=by obtain⟨c,b,g⟩:=h;exact⟨c,by rw[e];exact b,g⟩
structure p8 (g:G)(w h b s r kq:Nat)(l:Int)(ex bx st rd:List D):Prop where
 hw:g[w]? = some (W0 h b l s r++ex)
 hb:g[b]? = some bx
 hs:g[s]? = some st
 hr:g[r]? = some rd
 nd:[w,h,b,s,r].Nodup
 hm:aJ ex (.str "moving")=some (.ref kq)
 hk:CN g kq
 nk:kq ∉ [w,h,b,s,r]
structure ba1 (ex bx st rd:List D)(mv:List D):Prop where
 ka:dS bx=true
 bz:bx.length<=500
 ez:ex.length<=100
 sz:st.length<=900
 rz:rd.length<=900
def p8.fr (W:p8 a n p o s r Y i A j Z J)(f:p0 p a E):p8 E n p o s r Y i A j Z J:=by have nd:=tU W.nd;exact⟨by rw[f.2 n nd.1.1];exact W.hw,by rw[f.2 o (om nd.2.1.1)];exact W.hb,by rw[f.2 s (om nd.2.1.2.1)];exact W.hs,by rw[f.2 r (om nd.2.1.2.2)];exact W.hr,W.nd,W.hm,W.hk.of (by rw[f.2 Y λz=>W.nk (by simp[z])]),W.nk⟩
def p8.Mr (W:p8 a n p o s r Y i A j Z J)(v:Int):p8 (a.set n (W0 p o v s r++A)) n p o s r Y v A j Z J:=by have nd:=tU W.nd;have g:=(nz.mp W.hw).1;exact⟨tv g,by rw[p9 nd.1.2.1];exact W.hb,by rw[p9 nd.1.2.2.1];exact W.hs,by rw[p9 nd.1.2.2.2];exact W.hr,W.nd,W.hm,W.hk.of (by rw[p9 λz=>W.nk (by simp[<- z])]),W.nk⟩
def p8.Fw (W:p8 a n p o s r Y i A j Z J)(c:List D):p8 (a.set o c) n p o s r Y i A c Z J:=by have nd:=tU W.nd;have g:=(nz.mp W.hb).1;exact⟨by rw[p9 (om nd.1.2.1)];exact W.hw,tv g,by rw[p9 nd.2.2.1.1];exact W.hs,by rw[p9 nd.2.2.1.2];exact W.hr,W.nd,W.hm,W.hk.of (by rw[p9 λz=>W.nk (by simp[<- z])]),W.nk⟩
def p8.rJ (W:p8 a n p o s r Y i A j Z J)(c:List D):p8 (a.set s c) n p o s r Y i A j c J:=by have nd:=tU W.nd;have g:=(nz.mp W.hs).1;exact⟨by rw[p9 (om nd.1.2.2.1)];exact W.hw,by rw[p9 (om nd.2.2.1.1)];exact W.hb,tv g,by rw[p9 nd.2.2.2.1];exact W.hr,W.nd,W.hm,W.hk.of (by rw[p9 λz=>W.nk (by simp[<- z])]),W.nk⟩
def p8.rK (W:p8 a n p o s r Y i A j Z J)(c:List D):p8 (a.set r c) n p o s r Y i A j Z c:=by have nd:=tU W.nd;have g:=(nz.mp W.hr).1;exact⟨by rw[p9 (om nd.1.2.2.2)];exact W.hw,by rw[p9 (om nd.2.2.1.2)];exact W.hb,by rw[p9 (om nd.2.2.2.1)];exact W.hs,tv g,W.nd,W.hm,W.hk.of (by rw[p9 λz=>W.nk (by simp[<- z])]),W.nk⟩
def Ms (W:p8 a n p o s r Y i A j Z J)(S:ba1 A j Z J T)(g:aU 6 v=true)(f:aJ j v=some c):
  HD [some (.aA n),some v] a=some (.rt c,[some (.aA n),some v],(a.set s (Z ++ [.tup [.str "read",v]])).set r (J ++ [c])):=by
 have h:=W.rJ (Z ++ [.tup [.str "read",v]]);have w:=h.rK (J ++ [c]);have d:az (Z.length+1)=true:=aI (by have:=S.sz;lia);have e:az (J.length+1)=true:=aI (by have:=S.rz;lia);unfold HD;simp[W.hw,fH,uC,qf,uD,W.hs,d,h.hw,h.hb,h.hr,g,f,e,w.hw,w.hb]
def ba2 (other:Fn)(q P:D->Prop)(K:Int)(w h b s r d:Nat)(a:List D):Prop:=∀g l bx st u B i c,p8 g w h b s r d l a bx st u->aU 6 i=true->q i->aJ bx i=some c->P c->Hd g h B->B+K<2 ^ 40 ->
 ∃p n,other [.aA w,i] g=some (p,n)/\P p/\Hd n h (B+K)/\p0 h g n
def OtK (nm:Str)(b a:List D):Prop:=∀k,aU 6 k=true->(∀i,k≠own nm i)->aJ a k=aJ b k
theorem p8.take {w h b s r g l c d e rd f}(W:p8 a w h b s r g l c d e rd)(hw:w<f)(i:b<f)(n:s<f)(o:r<f)(j:g<f):p8 (a.take f) w h b s r g l c d e rd :=
 ⟨by rw[B0 hw];exact W.hw,by rw[B0 i];exact W.hb,by rw[B0 n];exact W.hs,by rw[B0 o];exact W.hr,W.nd,W.hm,W.hk.of (B0 j),W.nk⟩
def rM (W:p8 a n p o s r Y i A j Z J)(b:Hd a p B)(C:aF a.length A=true)(E:aF 0 j=true)(y:aF 0 Z=true)(w:aF 0 J=true)(x:∀z u,z ∉ [n,p,o,s,r]->a[z]? = some u->aF a.length u=true):Bd a:=λz u c=>by
 have e:o<a.length:=(nz.mp W.hb).1;have ls:s<a.length:=(nz.mp W.hs).1;have g:r<a.length:=(nz.mp W.hr).1;have h:p<a.length:=b.lt;by_cases v:z=n
 . subst v;rw[W.hw]at c;cases c
   refine eK ?_ C;simp[W0,aF,bU,h,e,ls,g]
 by_cases H:z=p
 . subst H
   obtain⟨q,l,d,f,_⟩:=b;rw[f]at c;cases c;simp[aF,bU]
 by_cases d:z=o
 . subst d;rw[W.hb]at c;cases c;exact eM (tj _) E
 by_cases I:z=s
 . subst I;rw[W.hs]at c;cases c;exact eM (tj _) y
 by_cases M:z=r
 . subst M;rw[W.hr]at c;cases c;exact eM (tj _) w
 . exact x z u (by simp[v,H,d,I,M]) c
def CO {H E B:D}(W:p8 a n p o s r Y i A j J Z)(O:J.length=Z.length)(hz:Z.length<=900)(fs:∀x∈J,flat x=true/\dep x<=60)(fd:flat B=true)(I:dep B<=50)(K:yx h v c H E J Z B a):
  ak false 10 6 (rC h) [v,c,H,E,.aA n,B] a=some (.bl true,a):=by
 have Q:ni (ak false 10 6 (rC h) [v,c,H,E,.aA n,B] a) λq=>q=(.bl true,a):=by
  have U:(oU J Z).length=Z.length:=by simp[oU,O]
  have N:pZ (ag ao ef i7) (ag ao ef i8) [some v,some c,some H,some E,some (.aA n),some B,some (.tup []),none,none,none] a=some (nK (λa=>a[s]?) (λa=>a[r]?),Z.length,a):=by
    have z:nK (λa=>a[s]?) (λa=>a[r]?) a=some (oU J Z):=by simp[nK,W.hs,W.hr]
    rw[Hg,show ag ao ef i7 [some v,some c,some H,some E,some (.aA n),some B,some (.tup []),none,none,none] a=some (.ref s,a) by simp[W.hw,fH,uC]];simp only[nv,oZ];rw[show ag ao ef i8 [some v,some c,some H,some E,some (.aA n),some B,some (.tup []),none,none,none] a=some (.ref r,a) by simp[W.hw,fH,uD]];simp only[nv,z,Iv,U]
  refine NV rfl (gO (d:=.tup []) (g1:=a) rfl (wp_seq ?_));show ni (nF _ _ _ [some v,some c,some H,some E,some (.aA n),some B,some (.tup []),none,none,none] a) _;rw[Hf,N];simp only[nv];refine rj (λM C l=>l=a /\ ∃f L,C = [some v,some c,some H,some E,some (.aA n),some B,some (.tup (Z.take M)),f,L,none]) _ 0 _ _ (by simp) ⟨rfl,none,none,by simp⟩ ?_ ?_
  . rintro M C l hj ⟨rfl,f,L,rfl⟩
    refine⟨oU J Z,by simp[nK,W.hs,W.hr],U,λd I=>?_⟩;unfold oU at I;rw[qy]at I;cases hx:(J.zip Z)[M]? with
    |none=>rw[hx]at I;cases I
    |some pr =>
     obtain⟨x,g⟩:=pr;rw[hx]at I;simp only[Iv,adR]at I;subst I;rw[Qy]at hx;have UP:M<Z.length:=(nz.mp hx.2).1;obtain⟨x',b,e⟩:=K.at_ M UP;rw[hx.1]at b;cases b;obtain⟨X,f2⟩:=fs x (ta hx.1);have Af:az ((Z.take M).length+1)=true:=aI (by simp;lia);have u:Z.take M ++ [g]=Z.take (M+1):=by rw[afq,hx.2];rfl
     have t:∀C:Sg,aj h (ae b0 (ae bg (ae cO (ae de (ae ee af))))) C l=some (x,l)->C[7]? = some (some x)->ax (ag bf (aj h (ae b0 (ae bg (ae cO (ae de (ae ee af)))))) fb) C l=some (false,l):=λC h1 h2=>by rw[cw,cx (d':=x) (g2:=l) h1 (by simp[h2])];simp[fg,X,f2,kW x X]
     refine⟨_,VQ,?_⟩;generalize y:Z.take M=R at *;refine cj (σ1:=[some v,some c,some H,some E,some (.aA n),some B,some (.tup R),some x,some g,none]) (g1:=l) ((cX (g1:=l) (t _ (by rw[<- y]at e ⊢;exact e) rfl)).trans rfl) ?_;refine⟨_,jP (d:=.tup (Z.take (M+1))) (g1:=l) (by simp[Af,u]),⟨rfl,_,_,rfl⟩⟩
  . rintro C l ⟨rfl,f,L,rfl⟩
    have w:flat (.tup [.str "told",B])=true:=by simp[flat,aO,fd]
    have dt:dep (.tup [.str "told",B])<=60:=by simp[dep,bF];lia
    have e:=K.fin;have q:∀a,oEq (.tup [.str "told",B]) (.tup [.str "told",B]) a=some (.bl true,a):=λa=>by simp[oEq,w,dt,kW _ w]
    simp[e,q,show lM .tuple (.tup [.str "told",B])=true from rfl]
 obtain⟨q,e,rfl⟩:=Q;exact e
def Fx {key:D}(W:p8 a n o Y s r p i A j Z J)(x:aU 6 key=true)(z:j.length<=500)(sz:Z.length<=900)(y:J.length<=900):
  ∃u,ak false 3 3 setB [.aA n,key,v] a=some (.aB,u)/\p8 u n o Y s r p i A (aP j key v) (Z ++ [.tup [.str "write",key,v]]) (J ++ [.aB])/\cq [Y,s,r] a u:=by
 have B:=W.rJ (Z ++ [.tup [.str "write",key,v]]);have w:=B.rK (J ++ [.aB]);have d:=w.Fw (aP j key v);have f:az (Z.length+1)=true:=aI (by lia);have c:az (J.length+1)=true:=aI (by lia);have g:az 3=true:=rfl;have h:iH j=true:=by unfold iH;exact aI (by lia)
 have key:ni (ak false 3 3 setB [.aA n,key,v] a) λq=>q=(.aB,((a.set s (Z ++ [.tup [.str "write",key,v]])).set r (J ++ [.aB])).set Y (aP j key v)):=by refine NV rfl ?_;simp[setB,W.hw,fH,uC,qf,uD,W.hs,f,B.hw,B.hr,x,c,g,w.hw,w.hb,h]
 obtain⟨q,e,rfl⟩:=key;exact⟨_,e,d,((cq.set (by simp)).trans (cq.set (by simp))).trans (cq.set (by simp))⟩
def tY (value:Fn):FS:=aM (aj gZ (ae (bC bD (dR (ae bg af)) [none,none,some 0] (gN 1) cC (aj value (ae cO af))) af))
def hG (c:D):Prop:=∃v m g,c = .tup [v,.int m,.tup g]/\vG v /\ ∀w∈g,vG w
def jE (f:Fn):Prop:=∀n (k:Nat) g (B:Int),k<=20->B+3*k<2 ^ 40->Hd g n B->∃(c:List D) (h:G),f [.ref n,.int k] g=some (.tup c,h)/\c.length=k/\(∀w∈c,vG w)/\Hd h n (B+3*k)/\p0 n g h
def Fy (A:jZ h):jE (ak false 2 2 (tY h)):=λn k g B hk O hd=>by
 have H:ni (ak false 2 2 (tY h) [.ref n,.int k] g) λq=>∃E:List D,q.1 = .tup E/\E.length=k/\(∀w∈E,vG w)/\Hd q.2 n (B+3*k)/\p0 n g q.2:=by
  refine NV rfl ?_;simp[tY];refine qd ?_;have l:az k=true:=aI (by lia);simp[cA,l];refine⟨by lia,?_⟩;refine kY (λj C I a=>(∃i,I = [none,i,some (.ref n)])/\(C.length=j /\ ∀w∈C,vG w)/\Hd a n (B+3*j)/\p0 n g a) _ 0 _ _ [] ⟨⟨none,rfl⟩,⟨rfl,by simp⟩,by simpa using hd,.refl⟩ ?_ ?_
  . rintro j d C I a y ⟨⟨i,rfl⟩,⟨c,value⟩,f,b⟩
    obtain⟨z,rfl⟩:=dj y;simp only[uB]at *;refine pC (A n a _ (by lia) f) λv Q x o J M=>?_;simp[x,c];refine⟨λw hw=>?_,J.mono (by lia),b.trans M⟩;rcases hw with hw|rfl
    . exact value w hw
    . exact o
  . rintro R I a ⟨_,⟨c,value⟩,f,b⟩
    simp only[QX,cA,uB]at *;simp[c,l];exact⟨b.1,value,f,b⟩
 obtain⟨⟨d,a⟩,e,E,rfl,u,s,p,r⟩:=H;exact⟨E,a,e,u,s,p,r⟩
noncomputable def cl (f:Nat->Nat)(n:Nat):List D:=(sv n).map λj=>D.int (f j:Nat)
def baM:oEq (.int i) (.int I) a=some (.bl (decide (i=I)),a):=by
 by_cases e:i=I
 . subst e;simp[oEq,flat,dep,bq]
 . simp[oEq,flat,dep,bq,e]
def rN:b_ (n+1) o=b_ n o++if n=o then []else [n]:=by
 unfold b_;rw[afc,adK];by_cases h:n=o
 . rw[if_pos h];simp[h]
 . rw[if_neg h];simp[h]
def VT (n:Nat)(a:List D):Prop:=∀i j,i<n->j<n->∃c:Int,aJ a (bJ i j)=some (.int c)
def wx:aU 6 (bJ n p)=true:=rfl
def jF:au (n+1) o p=au n o p++if p=1/\n≠o then [n]else []:=by
 unfold au;by_cases h:p=1
 . rw[if_pos h,if_pos h,rN]
   by_cases h2:n=o
   . rw[if_pos h2,if_neg (by simp[h2])]
   . rw[if_neg h2,if_pos ⟨h,h2⟩]
 . rw[if_neg h,if_neg h,if_neg (by simp[h])];rfl
def yK:cg (A ++ [c])=cg A ++ [c,.aB]:=by simp[cg]
structure L1 (n o sh:Nat)(w h b s r kq q:Nat)(ex pJ st rd:List D)(B:Int)(g0:G)(j:Nat)(g:G)(ks:List D):Prop where
 kl:ks.length=(au j o sh).length
 ka:∀c∈ks,SC n c
 sd:∃sd,g[q]? = some sd/\dS sd=true/\sd.length<=2*j/\aF 0 sd=true /\ ∀i,i∈au j o sh->aJ sd (.int i)=some (.int (sgn j o sh ks i))
 W:∃l bx,p8 g w h b s r kq l ex bx (st++((au j o sh).zip ks).flatMap (baK o)) (rd++cg ks)/\dS bx=true/\bx.length=pJ.length/\Fh (SC n) "own" n bx/\VT n bx/\aF 0 bx=true
 hd:Hd g h (B+j*31)
 len:g.length=q+1
 fr:∀i,i ∉ [w,h,b,s,r,q]->g[i]? = g0[i]?
def HK (W:p8 a n p o s r Y i T A j Z)(g:C≠n/\C≠p/\C≠o/\C≠s/\C≠r)(d:C≠Y):p8 (a.set C J) n p o s r Y i T A j Z :=
 ⟨by rw[p9 g.1];exact W.hw,by rw[p9 g.2.2.1];exact W.hb,by rw[p9 g.2.2.2.1];exact W.hs,by rw[p9 g.2.2.2.2];exact W.hr,W.nd,W.hm,W.hk.of (p9 d),W.nk⟩
theorem yL {k v:D}:∀{xs:List D},(aP xs k v).length<=xs.length+2
 | []=>by simp[aP]| [_]=>by simp[aP]
 |a::b::r=>by
  simp only[aP];split
  . simp
  . have:=yL (k:=k) (v:=v) (xs:=r)
    simp;lia
noncomputable def pK (f:Nat->Nat):Nat->Nat
 | 0=>0|n+1=>pK f n+f n
theorem yM {f c:Nat->Nat}(h:∀i,f i<=c i):∀n,pK f n<=pK c n
 | 0=>nA _|n+1=>by have:=yM h n;have:=h n;simp only[pK];lia
theorem Bf {f f':Nat->Nat}(h:∀i,f i<=f' i){j:Nat}(a:f j+1<=f' j):∀n,j<n->pK f n+1<=pK f' n
 | 0,c=>by lia
 |n+1,c=>by
  simp only[pK];by_cases e:j=n
  . subst e;have:=yM h j;lia
  . have:=Bf h a n (by lia);have:=h n;lia
theorem FF {f:Nat->Nat}{m:Nat}:∀n,(∀j,j<n->f j<=m)->pK f n<=n*m
 | 0,_=>by simp[pK]|n+1,h=>by have:=FF n λj a=>h j (by lia);have:=h n (by lia);simp only[pK];rw[Il];lia
def yN (h:n<X.length):(X ++ [l]).getD n []=X.getD n []:=by rw[O1,r_ h,<- O1]
def baN:(X ++ [l]).getD X.length []=l:=by simp[O1]
theorem rO {ps:List (List Nat)}{x:List Nat}:∀{k:Nat},k<=ps.length->cI (ps ++ [x]) k=cI ps k
 | 0,_=>rfl|k+1,h=>by funext j;simp only[cI];rw[rO (by lia),yN (by lia)]
def HM (h:n<X.length)(g:cM v X n):cM v (X ++ [l]) n:=by unfold cM;rw[yN h,rO (by lia)];exact g
theorem Bh {mv:D}{ps:List (List Nat)}{n:Nat}(d:∀p∈ps,∀j∈p,j<n):∀{k:Nat},k<=ps.length->(∀i,i<k->cM mv ps i)->k<=pK (cI ps k) n
 | 0,_,_=>tj _
 |k+1,h,g=>by
  have u:=Bh d (k:=k) (by lia) λi c=>g i (by lia);obtain⟨q,_⟩:=g k (by lia);obtain⟨j,r,e⟩:=afQ q;have a:j∈ps.getD k []:=by rw[e];simp
  have b:ps.getD k []∈ps:=by rw[O1,nP (by lia)];exact Ds _
  have:=Bf (f:=cI ps k) (f':=cI ps (k+1)) (λi=>by simp only[cI];lia) (j:=j) (by simp only[cI];rw[if_pos a];lia) n (d _ b j a);lia
noncomputable def cE (f:Nat->Nat)(n:Nat):List D:=(sv n).map λj=>.int (f j:Nat)
def iL (h:p<n):(cE f n)[p]? = some (.int (f p:Nat)):=by simp[cE,h]
def FH (h:p<n):(cE f n).set p (.int ((f p+1:Nat):Int))=cE (λi=>f i+if i=p then 1 else 0) n:=by
 apply Wd;intro i;by_cases c:i<n
 . by_cases e:p=i
   . subst e
     rw[tv (by simp[cE];exact h),iL h];simp
   . rw[p9 e,iL c,iL c]
     simp[om e]
 . rw[zA (by simp[cE];lia),zA (by simp[cE];lia)]
def yO:FS:=aD (ag bo (ag ao de ee) cT) (dP de ee)
theorem yP {n c:Nat}{a0 a1 a2 a4 a5:D}:∀(r:List Nat) (f:Nat->Nat) (g:G) (u:Option D),(∀j∈r,j<n)->r.Nodup->g[c]? = some (cE f n) ->
  ∃x,forL (gN 6) yO (dN r) [some a0,some a1,some a2,some (.ref c),some a4,some a5,u] g=some (.nx,[some a0,some a1,some a2,some (.ref c),some a4,some a5,x],g.set c (cE (cY f r) n))
 | [],f,g,u,_,_,hc=>by
  refine⟨u,?_⟩;have e:cY f []=f:=by funext i;simp[cY]
  rw[e];obtain⟨d,q⟩:=nz.mp hc;rw[<- q,Vu];rfl
 |j::r,f,g,u,hm,nd,hc=>by
  rw[D5]at nd;have b:=hm j (by simp);have d:=(nz.mp hc).1;have a:=gC (iL (f:=f) b);have ln:(cE f n).length=n:=by simp[cE]
  have o:yO [some a0,some a1,some a2,some (.ref c),some a4,some a5,some (.int j)] g=some (.nx,[some a0,some a1,some a2,some (.ref c),some a4,some a5,some (.int j)],g.set c (cE (λi=>f i+if i=j then 1 else 0) n)):=by
   rw[<- FH b];unfold yO;have v:ag bo (ag ao de ee) cT [some a0,some a1,some a2,some (.ref c),some a4,some a5,some (.int j)] g=some (.int ((f j+1:Nat):Int),g):=by simp[fj,bb,hc,a]
   rw[kE,v];simp[hc,putD,lH,ln,b]
  obtain⟨x,h⟩:=yP r (λi=>f i+if i=j then 1 else 0) (g.set c (cE (λi=>f i+if i=j then 1 else 0) n)) (some (.int j)) (λi l=>hm i (by simp[l])) nd.2 (tv d);refine⟨x,?_⟩;have p:cY (λi=>f i+if i=j then 1 else 0) r=cY f (j::r):=by
   funext i;simp only[cY,nQ];by_cases h1:i=j
   . subst h1;simp[nd.1]
   . simp[h1]
  simp only[dN,x8,forL]at h ⊢;rw[show gN 6 (D.int j) [some a0,some a1,some a2,some (.ref c),some a4,some a5,u] g=some ([some a0,some a1,some a2,some (.ref c),some a4,some a5,some (.int j)],g) from rfl];simp only[nv,o];rw[h,XT,p]
def vI:aF 0 (cE f n)=true:=eY λx a=>by simp only[cE,oa]at a;obtain⟨j,_,rfl⟩:=a;rfl
def uJ:n∈jq f (.int p) l ↔ n∈l/\f n=p:=by
 unfold jq;rw[Fp];have:bq (.int (f n:Nat)) (.int p)=decide (f n=p):=by
  by_cases e:f n=p
  . simp[bq,e]
  . have:¬((f n:Int)=(p:Int)):=by lia
    simp[bq,e,this]
 rw[this];simp
def rep0:(nW n [D.int 0]).flatten=cE (λ_=>0) n:=by
 apply Wd;intro i;by_cases c:i<n
 . rw[iL c]
   have:(nW n [D.int 0]).flatten=nW n (.int 0):=by induction n with|zero=>rfl|succ n g=>simp[UQ]
   rw[this];simp[c]
 . rw[zA (by simp;lia),zA (by simp[cE];lia)]
def FJ (b:p<n)(h:cM v X p):cM v (X.take n) p:=by
 have e:∀j,j<n->(X.take n).getD j []=X.getD j []:=λj a=>by simp[O1,B0 a]
 have c:∀m,m<=n->cI (X.take n) m=cI X m:=by
  intro m;induction m with
  |zero=>intro _;rfl
  |succ m g =>
   intro hm;funext j;show cI (X.take n) m j+(if j∈(X.take n).getD m []then 1 else 0)=cI X m j+(if j∈X.getD m []then 1 else 0);rw[g (by lia),e m (by lia)]
 unfold cM at h ⊢;rw[e p b,c (p+1) (by lia)];exact h
def yQ (o n:Nat):List D:=((sv n).filter λj=>!(j == o)).map λj=>bJ j o
def yR:aO (yQ o n)=true/\bF (yQ o n)<=50:=by
 have:∀l:List Nat,aO (l.map λj=>bJ j o)=true/\bF (l.map λj=>bJ j o)<=50:=λl=>by
  induction l with
  |nil=>exact⟨rfl,by simp[bF]⟩
  |cons a l c =>
   simp only[x8,aO,bF];exact⟨by rw[c.1];rfl,aif.mpr ⟨by simp[bJ,dep,bF],c.2⟩⟩
 exact this _
def pL (a:aO A=true)(b:aO j=true):aO (A++j)=true:=by
 induction A with
 |nil=>exact b|cons x A c=>simp only[aO,ad6,nc]at a ⊢;exact⟨a.1,c a.2⟩
def rP (a:bF A<=n)(b:bF j<=n):bF (A++j)<=n:=by
 induction A with
 |nil=>exact b|cons x A c=>simp only[bF,ad6]at a ⊢;exact aif.mpr ⟨by lia,c (by lia)⟩
def Bi {g:G}{f:Nat->D}{e:FE}(p:∀(j:Nat) (g:G),e [none,some (.int j),some (.int o)] g=some (f j,g)):
   ni (dq (gN 1) (ax (ag bf bg cO)) e (fT 0 n) [none,none,some (.int o)] g) λq=>q=(((sv n).filter λj=>!(j == o)).map f,g):=by
 refine kY (λi r u a=>(∃v,u = [none,v,some (.int o)])/\r=((sv i).filter λj=>!(j == o)).map f/\a=g) _ 0 _ _ [] ⟨⟨none,rfl⟩,rfl,rfl⟩ ?_ ?_
 . rintro i d r u a b ⟨⟨h,rfl⟩,rfl,rfl⟩
   obtain⟨l,rfl⟩:=dj b;simp only[uB];have t:ax (ag bf bg cO) [none,some (.int i),some (.int o)] a=some (decide ((i:Int)≠(o:Int)),a):=by rw[cw,show ag bf bg cO [none,some (.int i),some (.int o)] a=bf (.int i) (.int o) a from rfl,PQ];rfl
   refine⟨_,rfl,_,t,?_⟩;by_cases hc:i=o
   . subst hc;simp[afc,adK]
   . have c:¬((i:Int)=(o:Int)):=by lia
     simp only[ne_eq,c,not_false_eq_true,decide_true,if_true];refine⟨_,p i a,⟨_,rfl⟩,?_,rfl⟩;simp[afc,adK,hc]
 . rintro x u a ⟨_,e,rfl⟩
   simp only[QX,cA,uB]at e;rw[e]
def LQ (n:Nat)(l:Int):Prop:=2<=n\/l<=0
def QV {P:D->Prop}(kq:c9 h)(W:p8 a p o Y s r C I A j Z J)(S:ba1 A j Z J T)(H:Hd a o B)(N:0<=i)(M:B+i+1<2 ^ 40)(E:aU 6 v=true)(take:aJ j v=some c)(g:P c)(l:LQ n I)(L:2<=n->∀a I B,p8 a p o Y s r C I A j Z J->Hd a o B->B+i<2 ^ 40->∃O g',U [.aA p,v] a=some (O,g')/\P O/\Hd g' o (B+i)/\p0 o a g'):
   ∃Q l1 R c1,LQ n l1/\rE h U [some (.aA p),some v] a=some (.nx,[some (.aA p),some v],Q)/\p8 Q p o Y s r C l1 A R Z J/\ba1 A R Z J T/\Hd Q o (B+i+1)/\aJ R v=some c1/\P c1/\cq [p,o,Y,s,r] a Q/\(R=j\/R=aP j v c1):=by
 have x:=(fu v E).1;have nd:=tU W.nd;obtain⟨K,D6,sW,b,_⟩:=W.hk;have bx:mR v (.ref C) a=some (K.any λy=>bq y v):=by unfold mR;simp only[bb,D6,nv,Ak,x,sW,b,decide_true,aec,if_true]
 by_cases X:0<I
 . by_cases h1:(K.any λy=>bq y v)=true
   . refine fS (kq o 3 a B (by lia) (by decide) (by decide) H) λd Q u d0 d1 w f1=>?_
     have W1:=W.fr f1;by_cases h2:d=0
     . subst h2
       have ex:=W1.Mr (I-1);have hz:iH (W0 o Y I s r++A)=true:=by unfold iH;exact aI (by have:=S.ez;simp[W0];lia)
       obtain⟨O,g3,e3,z,j_,q⟩:=L (l.resolve_right (by lia)) _ _ _ ex (Hd.ne w (om (by exact λe=>nd.1.1 e.symm))) (by lia);have other:=ex.fr q;have W4:=other.Fw (aP j v O);have f:iH j=true:=by unfold iH;exact aI (by have:=S.bz;lia)
       refine⟨g3.set Y (aP j v O),I-1,aP j v O,O,.inl (l.resolve_right (by lia)),?_,W4,⟨jC E S.ka,by rw[m8 take];exact S.bz,S.ez,S.sz,S.rz⟩,(Hd.ne j_ (om nd.2.1.1)).mono (by lia),gw E S.ka,z,?_,.inr rfl⟩
       . unfold rE
         simp[W.hw,fH,tS,X,rD,W.hm,bx,h1,m7,u,W1.hw,hz,Qp,e3,other.hw,qf,other.hb,E,f]
       . exact((cq.of f1 (by simp)).trans (cq.set (by simp))).trans ((cq.of q (by simp)).trans (cq.set (by simp)))
     . refine⟨Q,I,j,c,l,?_,W1,S,w.mono (by lia),take,g,.of f1 (by simp),.inl rfl⟩
       unfold rE;simp[W.hw,fH,tS,X,rD,W.hm,bx,h1,m7,u,h2]
   . refine⟨a,I,j,c,l,?_,W,S,H.mono (by lia),take,g,.refl,.inl rfl⟩
     unfold rE;simp[W.hw,fH,tS,X,rD,W.hm,bx,h1]
 . refine⟨a,I,j,c,l,?_,W,S,H.mono (by lia),take,g,.refl,.inl rfl⟩
   unfold rE;simp[W.hw,fH,tS,X]
structure Ue (n:Nat)(g g':G)(w h b s r kq:Nat)(ex mv bx gS st rd:List D)(key c':D)(P:D->Prop)(B:Int):Prop where
 W:∃l',LQ n l'/\p8 g' w h b s r kq l' ex gS (st ++ [.tup [.str "read",key]]) (rd ++ [c'])
 ka:dS gS=true
 bl:gS.length=bx.length
 hd:Hd g' h B
 pc:P c'
 at_:aJ gS key=some c'
 ot:∀k,aU 6 k=true->k≠key->aJ gS k=aJ bx k
 nr:∀k,bU k c'=true->aF k bx=true->aF k gS=true
 fr:cq [w,h,b,s,r] g g'
def j5 (n:Nat)(p:Fn)(y P:D->Prop)(K:Int)(w h b s r d:Nat)(a u:List D):Prop:=∀g l bx st q B i c,LQ n l->p8 g w h b s r d l a bx st q->ba1 a bx st q u->Hd g h B->B+K<2 ^ 40->aU 6 i=true->y i->aJ bx i=some c->P c ->
 ∃v x C,p [.aA w,i] g=some (v,x)/\Ue n g x w h b s r d a u bx C st q i v P (B+K)
def wy {P:D->Prop}(E:c9 h)(H:0<=i)(I:2<=n->ba2 U O P i p o Y s r C A):j5 n (ak false 2 2 (Cz h U)) O P (i+1) p o Y s r C A j:=λg l bx st q B J c lq W S hd hB a ok f pc=>by
 refine Yl (QV (P:=P) E W S hd H (by lia) a f pc lq (λd g l B X Z x=>I d g l bx st q B J c X a ok f pc Z x)) λg1 l1 yS K take e1 M Q u other y R e=>?_;have nd:=tU W.nd;have e2:=Ms M Q a other;have z:=(M.rJ (st ++ [.tup [.str "read",J]])).rK (q ++ [K]);refine⟨K,_,yS,bp (σ':=[some (.aA p),some J]) rfl ?_ (by simp[R.1]),⟨l1,take,z⟩,Q.ka,?_,?_,y,other,?_,?_,?_⟩
 . rw[Qq,pU]
   show(rE h U [some (.aA p),some J] g).bind _=_;rw[e1];exact e2
 . rcases e with rfl|rfl
   . rfl
   . exact m8 f
 . exact(Hd.ne (Hd.ne u (om nd.2.1.2.1)) (om nd.2.1.2.2)).mono (by lia)
 . intro k hk v
   rcases e with rfl|rfl
   . rfl
   . exact kG a hk (om v) S.ka
 . intro n h1 d
   rcases e with rfl|rfl
   . exact d
   . exact iC (bQ _ (fu J a).1) h1 d
 . exact(R.trans (cq.set (by simp))).trans (cq.set (by simp))
structure VU (n0:Nat)(P:D->Prop)(nm:Str)(n w h b s r kq:Nat)(ex pJ st rd:List D)(g:G)(l:Int)(bx:List D):Prop where
 lq:LQ n0 l
 W:p8 g w h b s r kq l ex bx st rd
 ka:dS bx=true
 bl:bx.length=pJ.length
 bs:Fh P nm n bx
 nb:aF 0 bx=true
 ot:OtK nm pJ bx
structure CiS (n0:Nat)(P:D->Prop)(nm:Str)(n w h b s r kq f:Nat)(ex mv pJ st rd:List D)(B K:Int)(g0:G)(j:Nat)(g:G):Prop where
 ex_:∃cs l bx,cs.length=j/\(∀c∈cs,P c)/\g[f]? = some cs/\VU n0 P nm n w h b s r kq ex pJ (st++fW nm j) (rd++cs) g l bx
 hd:Hd g h (B+j*K)
 len:g.length=f+1
 fr:∀i,i ∉ [w,h,b,s,r,f]->g[i]? = g0[i]?
structure JH (n0:Nat)(P:D->Prop)(nm:Str)(n w h b s r kq:Nat)(ex pJ st rd:List D)(B:Int)(g:G)(cs:List D)(g':G):Prop where
 len:cs.length=n
 all:∀c∈cs,P c
 W:∃l bx,VU n0 P nm n w h b s r kq ex pJ (st++fW nm n) (rd++cs) g' l bx
 hd:Hd g' h B
 fr:cq [w,h,b,s,r] g g'
 bd:Bd g'
def rQ (c:Nat)(nm:Str)(D4:Fn)(P:D->Prop)(K:Int)(w h b s r d:Nat)(a u:List D):Prop:=∀g l bx st i B (n:Nat),LQ c l->p8 g w h b s r d l a bx st i->ba1 a bx st i u->Hd g h B->B+n*K<2 ^ 40->n<=20->st.length<=800->i.length<=800->Fh P nm n bx->Bd g->aF g.length a=true->aF 0 bx=true->aF 0 st=true->aF 0 i=true ->
 ∃p q,D4 [.aA w,.str nm,.int n] g=some (.lst p,q)/\JH c P nm n w h b s r d a bx st i (B+n*K) g p q
def FK {KP:D->Prop}(H:∀c,O c->flat c=true)(J:0<=i)(I:∀K:Nat,KP (own x K))(L:j5 n h KP O i p o Y s r C A j):rQ n x (ak false 5 3 (lA h)) O i p o Y s r C A j:=λg l bx st rd B E lq W S hd hB hn dy ZZ aq bd lW QS ju jv=>by
 have U:p<g.length:=(nz.mp W.hw).1;have X:Y<g.length:=(nz.mp W.hb).1;have ls:s<g.length:=(nz.mp W.hs).1;have z:r<g.length:=(nz.mp W.hr).1;have lh:o<g.length:=hd.lt;have lk:C<g.length:=by obtain⟨JG,h1,_⟩:=W.hk;exact(nz.mp h1).1
 have key:ni (ak false 5 3 (lA h) [.aA p,.str x,.int E] g) λq=>∃Q,q.1 = .lst Q/\JH n O x E p o Y s r C A bx st rd (B+E*i) g Q q.2:=by
  refine Mh rfl ?_;simp[lA];refine qd ?_;simp;refine⟨by lia,fG (λK σ v=>(∃w,σ = [some (.aA p),some (.str x),some (.int E),some (.ref g.length),w])/\CiS n O x E p o Y s r C g.length A j bx st rd B i (g ++ [[]]) K v) _ 0 _ _ ⟨⟨_,rfl⟩,?_⟩ ?_ ?_⟩
  . have R:∀{nm:Nat},nm<g.length->(g ++ [[]])[nm]? = g[nm]?:=λM=>r_ M
    refine⟨⟨[],l,bx,rfl,by simp,by simp,lq,⟨by rw[R U];exact W.hw,by rw[R X];exact W.hb,by rw[R ls];simpa[fW]using W.hs,by rw[R z];simpa using W.hr,W.nd,W.hm,W.hk.of (R lk),W.nk⟩,S.ka,rfl,aq,QS,λ_ _ _=>rfl⟩,?_,by simp,λ_ _=>rfl⟩;obtain⟨a,b',c,h1,h2⟩:=hd;exact⟨a,b',c,by rw[R lh];exact h1,by simpa using h2⟩
  . rintro K d σ v hj ⟨⟨w,rfl⟩,⟨⟨Q,l',gS,hl,y,hf,yT,W',FL,Bj,JI,Bk,FN⟩,fU,HN,DZ⟩⟩
    obtain⟨ig,rfl⟩:=dj hj;simp only[uB]at *;obtain⟨c,hc,pc⟩:=JI K ig;have QW:B + ↑K*i+i<2 ^ 40:=by have:((K:Int)+1)*i<=(E:Int)*i:=Int.mul_le_mul_of_nonneg_right (by lia) J;rw[Int.add_mul,Int.one_mul]at this;lia
    have S':ba1 A gS (st++fW x K) (rd++Q) j:=⟨FL,by rw[Bj];exact S.bz,S.ez,by simp[uE];lia,by simp[hl];lia⟩
    obtain⟨c',g2,ah,e,Z⟩:=L v l' gS (st++fW x K) (rd++Q) _ (own x K) c yT W' S' fU QW Jz (I K) hc pc;have qu:g.length ∉ [p,o,Y,s,r]:=CA U lh X ls z (nA _);have ab:g2[g.length]? = some Q:=by rw[Z.fr.2 _ qu];exact hf
    have hz:az (Q.length+1)=true:=aI (by lia);have e':h [.aA p,.tup [.str x,.int K]] v=some (c',g2):=e;simp[e',ab,hz];refine⟨⟨Q ++ [c'],?_⟩,?_,by simp[Z.fr.1,HN],?_⟩
    . obtain⟨l2,ar,u⟩:=Z.W
      have ne:∀{nm:Nat},nm<g.length->(g2.set g.length (Q ++ [c']))[nm]? = g2[nm]?:=λM=>p9 (by lia);refine⟨l2,ah,by simp[hl],?_,?_,ar,⟨by rw[ne U];exact u.hw,by rw[ne X];exact u.hb,by rw[ne ls,HE];simpa using u.hs,by rw[ne z];simpa using u.hr,u.nd,u.hm,u.hk.of (ne lk),u.nk⟩,Z.ka,Z.bl.trans Bj,?_,Z.nr 0 (bQ _ (H _ Z.pc)) Bk,λk hk hn=>(Z.ot k hk (hn K)).trans (FN k hk hn)⟩
      . intro P f
        rcases nY.mp f with f|f
        . exact y P f
        . simp at f;subst f;exact Z.pc
      . rw[tv (by rw[Z.fr.1,HN];lia)]
      . intro nm M
        by_cases e:nm=K
        . subst e;exact⟨c',Z.at_,Z.pc⟩
        . rw[Z.ot _ Jz (Qr e)];exact JI nm M
    . obtain⟨a,b',c2,h1,h2⟩:=Z.hd
      refine⟨a,b',c2,by rw[p9 (by lia)];exact h1,?_⟩;have e2:B + ↑(K+1)*i=B + ↑K*i+i:=by rw[aii,Int.add_mul];simp;lia
      rw[e2];exact h2
    . intro nm M
      simp only[nQ,vV,or_false,not_or]at M;rw[p9 (om M.2.2.2.2.2),Z.fr.2 nm (by simp[M])];exact DZ nm (by simp[M])
  . rintro σ v ⟨⟨w,rfl⟩,⟨⟨Q,l',gS,hl,y,hf,yT,W',FL,Bj,JI,Bk,FN⟩,fU,HN,DZ⟩⟩
    simp only[cA,uB]at *;simp[hf];have QY:(List.take g.length v).length=g.length:=by simp;lia
    have Bt:Bd (v.take g.length):=rM (W'.take U X ls z lk) (Hd.take fU lh) (by rw[QY];exact lW) Bk (eK ju AW) (eK jv (eY λP f=>bQ P (H P (y P f)))) λnm xs M f=>by
      have eR:nm<g.length:=by have:=(nz.mp f).1;lia
      rw[B0 eR,DZ nm (iB M (by lia)),r_ eR]at f;rw[QY];exact bd nm _ f
    have nb:∀P,P∈v.take g.length->aF g.length P=true:=λP f=>by obtain⟨nm,M⟩:=UX.mp f;have:=Bt nm P M;rwa[QY]at this
    refine⟨eY λP f=>bQ P (H P (y P f)),nb,⟨hl,y,⟨l',gS,yT,W'.take U X ls z lk,FL,Bj,JI,Bk,FN⟩,Hd.take fU lh,⟨by simp;lia,λnm M=>?_⟩,?_⟩⟩
    . by_cases eR:nm<g.length
      . rw[B0 eR,DZ nm (iB M (by lia)),r_ eR]
      . rw[zA (by simp;lia),zA (by lia)]
    . exact Bt
 obtain⟨⟨q1,q2⟩,e,Q,rfl,c⟩:=key;exact⟨Q,q2,e,c⟩
def BW (n:Nat)(c:D):Prop:=∃(v:D) (a t:Int),c = .tup [v,.int a,.int t]/\vG v /\ -1<=a/\a<n
def BW.bc (h:BW n c):BC c:=by obtain⟨v,a,t,e,b,_⟩:=h;exact⟨v,a,t,e,b⟩
def jG (c:D):Prop:=∃i:Int,c = .int i
def lX (p:Nat)(c:D):Prop:=∃g:List D,c = .tup g/\g.length=p /\ ∀w∈g,vG w
def QZ (c:D):Prop:=∃j:Nat,c=own "box" j
def VV (c:D):Prop:=∃j:Nat,c=own "view" j
noncomputable def cZ (j o:Nat):D:=.tup [.str "call",.int j,.int o]
def yU (o:Nat)(c:D):Prop:=∃j:Nat,c=cZ j o
def Q0 (pick value:Fn):FS:=aM (aH ay (ae (aj value (ae cO af)) (ae (aj pick (ae cO (ae ee af))) (ae (aj pick (ae cO (ae (aH dI (ae (ag (bX dJ (· - ·)) cT d4) (ae (ag (bX dJ (· - ·)) cT d4) (ae d4 af)))) af))) af))))
def yJ (pick value:Fn):FS:=av (b9 (ax (ag iz ef ee)) (aD (ag bo ee (ag ko (aH dI (ae ef af)) eh)) (gN 6)) aR) (Q0 pick value)
def HJ (pick value:Fn):FS:=av (aD (bC bD (dR (ae (ag ao b0 kn) af)) [none,none,some 0] (gN 1) (ax (ag bf bg (ag ao cO iF))) bg) (gN 6)) (yJ pick value)
def QT (pick value:Fn):FS:=av (aD (ag ao (ag ao b0 hI) bg) (gT 3 (a_ (gN 3) (a_ (gN 4) (a_ (gN 5) fz))))) (HJ pick value)
def qM (take pick value state:Fn):FS:=av (aD (ag ao b0 kX) (gN 2)) (av (b9 (ax (ag oEq (ag ao bg dV) fy)) (aM (aj state (ae cO (ae (ag ao b0 ku) af)))) aR) (av (b9 (ax (ag bf (ag ao bg dV) ft)) (aM (aj take (ae cO (ae eh af)))) aR) (QT pick value)))
def HP:aJ (W0 n p i s r++A) (.str "places")=aJ A (.str "places"):=rfl
def Ug:aJ (W0 n p i s r++A) (.str "own")=aJ A (.str "own"):=rfl
def FP (take:jE Q)(value:aJ A (.str "places")=some (.int p))(E:p<=5):ba2 (ak false 7 2 (qM h U R Q)) VV (lX p) 30 n o Y s r C A:=λg l z st M B J c W O ok y pc hd X=>by
 obtain⟨j,rfl⟩:=ok;have main:ni (ak false 7 2 (qM h U R Q) [.aA n,own "view" j] g) λq=>lX p q.1/\Hd q.2 o (B+30)/\p0 o g q.2:=by
  refine NV rfl ?_;refine fS (take o p g B (by lia) (by lia) hd) λH g1 u v i a I=>?_;have t:ax (ag oEq (ag ao bg dV) fy) [some (.aA n),some (own "view" j),some (.ref o),none,none,none,none] g=some (true,g):=rfl;have e:aj Q (ae cO (ae (ag ao b0 ku) af)) [some (.aA n),some (own "view" j),some (.ref o),none,none,none,none] g=some (.tup H,g1):=by simp[W.hw,fH,HP,value,u]
  refine gO (d:=.ref o) (g1:=g) (by simp[W.hw,fH,m7]) ?_;refine⟨_,gM t e,?_⟩;simp;exact⟨I.1,⟨H,rfl,v,i⟩,a.mono (by lia),I⟩
 obtain⟨⟨d,x⟩,e,state,pick,f⟩:=main;exact⟨d,x,e,state,pick,f⟩
def FQ (take:c9 h):ba2 (ak false 7 2 (qM h U R Q)) (yU o) jG 30 n p Y s r C A:=λg l z st J B H c W M ok y pc hd O=>by
 obtain⟨j,rfl⟩:=ok;have main:ni (ak false 7 2 (qM h U R Q) [.aA n,cZ j o] g) λq=>jG q.1/\Hd q.2 p (B+30)/\p0 p g q.2:=by
  refine NV rfl ?_;refine fS (take p 2 g B (by lia) (by decide) (by decide) hd) λx g1 u X Z a E=>?_;have I:ax (ag oEq (ag ao bg dV) fy) [some (.aA n),some (cZ j o),some (.ref p),none,none,none,none] g=some (false,g):=rfl;have value:ax (ag bf (ag ao bg dV) ft) [some (.aA n),some (cZ j o),some (.ref p),none,none,none,none] g=some (true,g):=rfl;have e:aj h (ae cO (ae eh af)) [some (.aA n),some (cZ j o),some (.ref p),none,none,none,none] g=some (.int x,g1):=by simp[u]
  refine gO (d:=.ref p) (g1:=g) (by simp[W.hw,fH,m7]) (cj (g1:=g) ((cX (g1:=g) I).trans rfl) ?_);refine⟨_,gM value e,?_⟩;simp;exact⟨E.1,⟨x,rfl⟩,a.mono (by lia),E⟩
 obtain⟨⟨d,v⟩,e,pick,i,f⟩:=main;exact⟨d,v,e,pick,i,f⟩
def Q1 (c:2<=n):b_ n o ≠ []:=λe=>by
 have h:∀j,j<n->j=o:=λj a=>by
  by_cases z:j=o
  . exact z
  . have:=fR.mpr ⟨a,z⟩;rw[e]at this;cases this
 have:=h 0 (by lia);have:=h 1 (by lia);lia
def Mt (hw:a[p]? = some A)(j:aJ A (.str "own")=some (.int o)):dq (gN 1) (ax (ag bf bg (ag ao cO iF))) bg (fT 0 n) [none,none,some (.aA p)] a=some (dN (b_ n o),a):=by
 have u:ni (dq (gN 1) (ax (ag bf bg (ag ao cO iF))) bg (fT 0 n) [none,none,some (.aA p)] a) λq=>q=(dN (b_ n o),a):=by
  refine kY (λi r v g=>(∃x,v = [none,x,some (.aA p)])/\r=dN (b_ i o)/\g=a) _ 0 _ _ [] ⟨⟨none,rfl⟩,rfl,rfl⟩ ?_ ?_
  . rintro i d r v g b ⟨⟨f,rfl⟩,rfl,rfl⟩
    obtain⟨h,rfl⟩:=dj b;simp only[uB];have t:ax (ag bf bg (ag ao cO iF)) [none,some (.int i),some (.aA p)] g=some (decide ((i:Int)≠(o:Int)),g):=by rw[cw,cx (d:=.int i) (d':=.int o) (g1:=g) (g2:=g) rfl (by simp[hw,fH,j]),PQ];rfl
    refine⟨_,rfl,_,t,?_⟩;by_cases hc:i=o
    . subst hc;simp[rN]
    . have c:¬((i:Int)=(o:Int)):=by lia
      simp only[ne_eq,c,not_false_eq_true,decide_true,if_true];exact⟨_,rfl,⟨_,rfl⟩,by simp[rN,hc,dN],rfl⟩
  . rintro y v g ⟨_,e,rfl⟩
    simp only[QX,cA,uB]at e;rw[e]
 obtain⟨q,e,rfl⟩:=u;exact e
def oσ (w j h:Nat)(v:D)(a t:Int)(L:List Nat):Sg:=[some (.aA w),some (own "box" j),some (.ref h),some v,some (.int a),some (.int t),some (.lst (dN L))]
def FR (state:ie U)(I:jZ R)(E:aJ A (.str "hands")=some (.int n))(pick:aJ A (.str "own")=some (.int o))(take:2<=n)(J:n<=5):ba2 (ak false 7 2 (qM h U R Q)) QZ (BW n) 30 p Y C s r H A:=λg l bx st rd B key c W kk ok hc pc hd hB=>by
 obtain⟨j,rfl⟩:=ok;obtain⟨v,a,t,rfl,aq,ah,ID⟩:=pc;have main:ni (ak false 7 2 (qM h U R Q) [.aA p,own "box" j] g) λq=>BW n q.1/\Hd q.2 Y (B+30)/\p0 Y g q.2:=by
  refine NV rfl ?_;have t1:ax (ag oEq (ag ao bg dV) fy) [some (.aA p),some (own "box" j),some (.ref Y),none,none,none,none] g=some (false,g):=rfl;have t2:ax (ag bf (ag ao bg dV) ft) [some (.aA p),some (own "box" j),some (.ref Y),none,none,none,none] g=some (false,g):=rfl;have cm:=Mt (n:=n) (o:=o) W.hw (by rw[Ug];exact pick);have zn:az n=true:=aI (by lia);have ol:=uG (n:=n) (o:=o);have zo:az (b_ n o).length=true:=aI (by lia);have d:bF (dN (b_ n o))<=50:=m_ λy hy=>by obtain⟨j,_,rfl⟩:=oa.mp hy;simp[dep]
  have hq:iz (.int a) (.lst (dN (b_ n o))) g=some (.bl (jr n o a),g):=by simp[iz,mR,bb,Ak,flat,m9,d,jr]
  have k6:∀M:List D,M ≠ []->M.length<=10->(∀x∈M,∃i,i∈b_ n o/\x = .int (i:Nat))->ni (Q0 U R [some (.aA p),some (own "box" j),some (.ref Y),some v,some (.int a),some (.int t),some (.lst M)] g) λx=>∃d,x.1 = .rt d/\BW n d/\Hd x.2.2 Y (B+30)/\p0 Y g x.2.2:=λM ab IA z=>by
    refine pC (I Y g B (by lia) hd) λv' g1 e1 p1 d_ f1=>?_;refine pC (state Y M g1 _ (by lia) ab (by lia) d_) λx g2 e2 m2 Z f2=>?_;refine pC (state Y [.int (1-t),.int (1-t),.int t] g2 _ (by lia) (by simp) (by simp) Z) λy g3 e3 m3 j_ f3=>?_;have z3:az 3=true:=rfl;obtain⟨i,f,rfl⟩:=z x m2;obtain⟨O,rfl⟩:∃O:Int,y = .int O:=by simp only[nQ,vV,or_false]at m3;rcases m3 with rfl|rfl|rfl<;>exact⟨_,rfl⟩
    have il:=(fR.mp f).1;refine⟨_,dE (d:=.tup [v',.int (i:Nat),.int O]) (g1:=g3) (by simp[e1,e2,e3,z3]),_,rfl,⟨v',i,O,rfl,p1,by lia,by lia⟩,j_.mono (by lia),(f1.trans f2).trans f3⟩
  have k5:ni (yJ U R (oσ p j Y v a t (b_ n o)) g) λx=>∃d,x.1 = .rt d/\BW n d/\Hd x.2.2 Y (B+30)/\p0 Y g x.2.2:=by
    have X:ax (ag iz ef ee) (oσ p j Y v a t (b_ n o)) g=some (jr n o a,g):=by rw[cw,cx (d:=.int a) (d':=.lst (dN (b_ n o))) (g1:=g) (g2:=g) rfl rfl,hq];rfl
    by_cases f:jr n o a=true
    . rw[f]at X
      have zz:az ((dN (b_ n o)).length+2)=true:=aI (by rw[cG];lia);have e6:ag bo ee (ag ko (aH dI (ae ef af)) eh) (oσ p j Y v a t (b_ n o)) g=some (.lst (dN (b_ n o) ++ [.int a,.int a]),g):=by rw[cx (d:=.lst (dN (b_ n o))) (d':=.lst [.int a,.int a]) (g1:=g) (g2:=g) rfl rfl];generalize dN (b_ n o)=L at *;simp[zz]
      have k:=k6 (dN (b_ n o) ++ [.int a,.int a]) (by simp) (by rw[nh,cG];simp;lia) λx value=>by
       rcases nY.mp value with value|value
       . obtain⟨i,f,rfl⟩:=oa.mp value;exact⟨i,f,rfl⟩
       . obtain⟨i,j8,e⟩:=qh.mp f
         simp at value;subst value;exact⟨i,j8,by rw[e]⟩
      have st:b9 (ax (ag iz ef ee)) (aD (ag bo ee (ag ko (aH dI (ae ef af)) eh)) (gN 6)) aR (oσ p j Y v a t (b_ n o)) g=some (.nx,[some (.aA p),some (own "box" j),some (.ref Y),some v,some (.int a),some (.int t),some (.lst (dN (b_ n o) ++ [.int a,.int a]))],g):=(lz X).trans (jP (i:=6) e6);exact cj st k
    . have j8:jr n o a=false:=by simpa using f
      rw[j8]at X;have k:=k6 (dN (b_ n o)) (λe=>Q1 (o:=o) take (ahi.mp e)) (by rw[cG];lia) λx value=>by obtain⟨i,f,rfl⟩:=oa.mp value;exact⟨i,f,rfl⟩
      exact cj ((cX X).trans rfl) k
  refine gO (d:=.ref Y) (g1:=g) (by simp[W.hw,fH,m7]) (cj (g1:=g) ((cX (g1:=g) t1).trans rfl) (cj (g1:=g) ((cX (g1:=g) t2).trans rfl) (cj (σ1:=[some (.aA p),some (own "box" j),some (.ref Y),some v,some (.int a),some (.int t),none]) (g1:=g) (by simp[W.hw,fH,qf,W.hb,kk,hc]) (gO (d:=.lst (dN (b_ n o))) (g1:=g) ?_ ?_))))
  . have c1:=iu (σ:=[some (.aA p),some (own "box" j),some (.ref Y),some v,some (.int a),some (.int t),none]) (g:=g) (g1:=g) (fr:=ae (ag ao b0 kn) af) (n:=n) (by simp[W.hw,fH,Mi,E]) (by lia)
    simp[c1,cA,zn,cu,cm,bD,cG,zo]
  . refine NT (show ni (yJ U R (oσ p j Y v a t (b_ n o)) g) _ from k5) ?_
    rintro x ⟨d,e,h1,take,u⟩;rw[e];exact⟨u.1,h1,take,u⟩
 obtain⟨⟨d,g'⟩,e,h1,take,u⟩:=main;exact⟨d,g',e,h1,take,u⟩
end
section
variable {b Z w Y c O C B d q2:Nat}{f U st:List D}{X Q z u see:Fn}{q T R J H E e:Option D}{M:List R4}{I:List Nat}{m ah:D}{y:Option Nat}{t:D->Prop}{g:G}{R' Rr:Str->Option Fn}{cs:List Int}{nm2:Str}
def Dm (n p:Nat)(c:D):Prop:=(∃j,j<p/\c=own "box" j)\/(∃j,j<n/\c=own "view" j)\/(∃i j,i<n/\j<n/\c=bJ i j)\/(∃i j,i<n/\j<n/\c=cZ i j)
noncomputable def typ (n p:Nat)(c:D):D->Prop:=match c with
 |.tup [.str s,_]=>if s = "box" then BW n else lX p|_=>jG
def Dm.k (h:Dm n p v):aU 6 v=true:=by rcases h with⟨j,_,rfl⟩|⟨j,_,rfl⟩|⟨i,j,_,_,rfl⟩|⟨i,j,_,_,rfl⟩<;>rfl
def FU (n p:Nat)(a:List D):Prop:=∀g,Dm n p g->∃c,aJ a g=some c/\typ n p g c
def HQ:bJ n p≠own x o:=λe=>by
 unfold bJ own at e;injection e with e
 injection e with _ e
 injection e with _ e
 cases e
def Mu:cZ n p≠own x o:=λe=>by
 unfold cZ own at e;injection e with e
 injection e with _ e
 injection e with _ e
 cases e
def qj:typ n p (own "box" o)=BW n:=by show(if("box":Str)= "box" then BW n else lX p)=_;rw[if_pos rfl]
def rR:typ n p (own "view" o)=lX p:=by show(if("view":Str)= "box" then BW n else lX p)=_;rw[if_neg (by decide)]
def FU.upd (h:FU n p A)(i:aJ j v=some m)(f:typ n p v m)(d:∀k,aU 6 k=true->k≠v->aJ j k=aJ A k):FU n p j:=λk a=>by
 by_cases e:k=v
 . subst e;exact⟨m,i,f⟩
 . rw[d k a.k e];exact h k a
structure WvB (n p:Nat)(w h b s r kq:Nat)(ex st rd:List D)(g:G)(l:Int)(bx:List D):Prop where
 lq:LQ n l
 W:p8 g w h b s r kq l ex bx st rd
 ka:dS bx=true
 bl:bx.length<=500
 ba:FU n p bx
 nb:aF 0 bx=true
structure Wv (n p:Nat)(w h b s r kq:Nat)(ex st rd:List D)(B:Int)(g:G):Prop where
 W:∃l bx,WvB n p w h b s r kq ex st rd g l bx
 hd:Hd g h B
 lW:aF g.length ex=true
 ez:ex.length<=100
 ju:aF 0 st=true
 jv:aF 0 rd=true
 bd:Bd g
def Wv.JJ (V:Wv n p w o b s Z Y A st j i g):w<g.length/\o<g.length/\b<g.length/\s<g.length/\Z<g.length/\Y<g.length:=by obtain⟨l,d,_,W,_⟩:=V.W;obtain⟨c,a,_⟩:=W.hk;exact⟨(nz.mp W.hw).1,V.hd.lt,(nz.mp W.hb).1,(nz.mp W.hs).1,(nz.mp W.hr).1,(nz.mp a).1⟩
def Wv.step {r:List D}{B:Int}{g':G}(V:Wv n p w o b s Z Y U st r B g){h:Int}(y:LQ n i)(W:p8 g' w o b s Z Y i U A j f)(C:dS A=true)(z:A.length<=500)(l:FU n p A)(q:aF 0 A=true)(u:Hd g' o h)(v:aF 0 j=true)(x:aF 0 f=true)(fr:cq [w,o,b,s,Z] g g'):Wv n p w o b s Z Y U j f h g' :=
 have a:aF g'.length U=true:=by rw[fr.1];exact V.lW
 ⟨⟨i,A,y,W,C,z,l,q⟩,u,a,V.ez,v,x,rM W u a q v x λe E d c=>by rw[fr.2 e d]at c;rw[fr.1];exact V.bd e E c⟩
def HR {P:D->Prop}(H:j5 n see t P 31 w o b s Z Y A f)(V:Wv n p w o b s Z Y A st j i g)(C:i+31<2 ^ 40)(E:t v)(z:Dm n p v)(h:typ n p v=P)(I:∀c,P c->flat c=true)(sz:st.length<=800)(J:j.length<=800):
  ∃M O,see [.aA w,v] g=some (M,O)/\P M/\Wv n p w o b s Z Y A (st ++ [.tup [.str "read",v]]) (j ++ [M]) (i+31) O/\cq [w,o,b,s,Z] g O:=by
 obtain⟨l,R,u,W,ex,a,Q,nb⟩:=V.W;obtain⟨c,B,pc⟩:=Q v z;rw[h]at pc;obtain⟨M,O,y,e,r⟩:=H g l R st j i v c u W ⟨ex,a,V.ez,by lia,by lia⟩ V.hd C z.k E B pc;obtain⟨x,q,U⟩:=r.W;have d:=bQ (n:=0) _ (I _ r.pc);exact⟨M,O,e,r.pc,V.step q U r.ka (by rw[r.bl];exact a) (Q.upd r.at_ (by rw[h];exact r.pc) r.ot) (r.nr 0 d nb) r.hd (eK V.ju (by simp[aF,bU,bQ (n:=0) v (fu v z.k).1])) (eK V.jv (by simp[aF,d])) r.fr,r.fr⟩
def CP (V:Wv n p w Y b s c O A st j i g){v:Int}(h:o<n)(C:Z<n)(sz:st.length<=800)(E:j.length<=800):
  ∃B,ak false 3 3 setB [.aA w,bJ o Z,.int v] g=some (.aB,B)/\Wv n p w Y b s c O A (st ++ [.tup [.str "write",bJ o Z,.int v]]) (j ++ [.aB]) i B/\cq [w,Y,b,s,c] g B:=by
 obtain⟨l,bx,lq,W,d,q,u,nb⟩:=V.W;have dm:Dm n p (bJ o Z):=.inr (.inr (.inl ⟨o,Z,h,C,rfl⟩));obtain⟨r,hc,_⟩:=u _ dm;refine rB (Fx (key:=bJ o Z) (v:=.int v) W wx q (by lia) (by lia)) λB e y f=>?_;have nd:=tU W.nd;have fr:cq [w,Y,b,s,c] g B:=⟨f.1,λH a=>f.2 H (by simp only[nQ,vV,or_false,not_or]at a ⊢;exact⟨a.2.2.1,a.2.2.2.1,a.2.2.2.2⟩)⟩
 have z:Hd B Y i:=by obtain⟨I,J,M,Q,R⟩:=V.hd;exact⟨I,J,M,by rw[f.2 Y (by simp[nd.2.1.1,nd.2.1.2.1,nd.2.1.2.2])];exact Q,R⟩
 exact⟨B,e,V.step lq y (jC wx d) (by rw[m8 hc];exact q) (u.upd (gw wx d) ⟨v,rfl⟩ λk hk x=>kG wx hk (om x) d) (iC rfl rfl nb) z (eK V.ju rfl) (eK V.jv rfl) fr,fr⟩
def Q3 (r:rQ n "box" h (BW n) 31 w o b s Z Y A f)(V:Wv n p w o b s Z Y A st j i g)(H:p<=5)(I:i+200<2 ^ 40)(sz:st.length<=750)(E:j.length<=750):
   ∃cs B,h [.aA w,.str "box",.int p] g=some (.lst cs,B)/\cs.length=p/\(∀c∈cs,BW n c)/\Wv n p w o b s Z Y A (st++fW "box" p) (j++cs) (i+155) B/\cq [w,o,b,s,Z] g B:=by
 obtain⟨l,bx,lq,W,y,u,v,nb⟩:=V.W;obtain⟨cs,B,e,C⟩:=r g l bx st j i p lq W ⟨y,u,V.ez,by lia,by lia⟩ V.hd (by lia) (by lia) (by lia) (by lia) (λex J=>by obtain⟨c,M,a⟩:=v _ (.inl ⟨ex,J,rfl⟩);rw[qj]at a;exact⟨c,M,a⟩) V.bd V.lW nb V.ju V.jv
 obtain⟨l',gS,O,Q,R,U,q,X,FN⟩:=C.W;refine⟨cs,B,e,C.len,C.all,V.step O Q R (by rw[U];exact u) (λk d=>?_) X (C.hd.mono (by lia)) (eK V.ju AW) (eK V.jv (eY λx hx=>bQ x (C.all x hx).bc.flat)) C.fr,C.fr⟩;by_cases z:∃ex,k=own "box" ex
 . obtain⟨ex,rfl⟩:=z
   rcases d with⟨kq,hj,e⟩|⟨kq,hj,e⟩|⟨i',j',_,_,e⟩|⟨i',j',_,_,e⟩
   . obtain⟨c,M,a⟩:=q kq hj
     rw[e,qj];exact⟨c,M,a⟩
   . exact absurd e (by unfold own;intro z;injection z with z;injection z with z _;injection z with z;exact absurd z (by decide))
   . exact absurd e.symm HQ
   . exact absurd e.symm Mu
 . rw[FN k d.k λex J=>z ⟨ex,J⟩]
   exact v k d
def Wv.push {xs:G}(V:Wv n p w o b s Z Y A st j i g)(nx:∀x∈xs,aF 0 x=true):Wv n p w o b s Z Y A st j i (g++xs):=by
 obtain⟨C,y,d,ls,e,v⟩:=V.JJ;have B:∀{r:Nat},r<g.length->(g++xs)[r]? = g[r]?:=λa=>r_ a;obtain⟨l,bx,u,W,E,H,h,z⟩:=V.W;refine⟨⟨l,bx,u,⟨by rw[B C];exact W.hw,by rw[B d];exact W.hb,by rw[B ls];exact W.hs,by rw[B e];exact W.hr,W.nd,W.hm,W.hk.of (B v),W.nk⟩,E,H,h,z⟩,?_,eM (by simp) V.lW,V.ez,V.ju,V.jv,λr c a=>?_⟩
 . obtain⟨I,J,q,M,f⟩:=V.hd
   exact⟨I,J,q,by rw[B y];exact M,f⟩
 . by_cases O:r<g.length
   . rw[B O]at a;exact eM (by simp) (V.bd r c a)
   . rw[CY (by lia)]at a
     exact eM (tj _) (nx _ (ta a))
def Wv.other {xs:List D}(V:Wv n p w o b s Z Y A st j i g)(x:c ∉ [w,o,b,s,Z])(y:c≠Y)(nx:aF 0 xs=true):Wv n p w o b s Z Y A st j i (g.set c xs):=by
 have d:c≠w/\c≠o/\c≠b/\c≠s/\c≠Z:=by simpa[not_or]using x
 obtain⟨l,v,B,W,C,E,h,u⟩:=V.W;refine⟨⟨l,v,B,HK W d y,C,E,h,u⟩,Hd.ne V.hd d.2.1,by rw[S3];exact V.lW,V.ez,V.ju,V.jv,λr f a=>?_⟩;rw[S3];by_cases e:c=r
 . subst e
   have q:c<g.length:=by have:=(nz.mp a).1;rwa[S3]at this
   rw[tv q]at a;cases a;exact eM (tj _) nx
 . rw[p9 e]at a
   exact V.bd r f a
def Wv.pop {B:Int}(z:Wv n p w o b s Z Y f st U B g)(V:Wv n p w o b s Z Y f A j i a)(gl:g.length<=a.length)(fr:∀C,C<g.length->C ∉ [w,o,b,s,Z]->a[C]? = g[C]?):Wv n p w o b s Z Y f A j i (a.take g.length)/\cq [w,o,b,s,Z] g (a.take g.length):=by
 obtain⟨H,u,e,ls,I,q⟩:=z.JJ;have y:(a.take g.length).length=g.length:=by rw[Aq];lia
 obtain⟨l,x,r,W,J,M,d,v⟩:=V.W;have h:cq [w,o,b,s,Z] g (a.take g.length):=⟨y,λC c=>by
  by_cases E:C<g.length
  . rw[B0 E,fr C E c]
  . rw[zA (by lia),zA (by lia)]⟩
 exact⟨z.step r (W.take H e ls I q) J M d v (Hd.take V.hd u) V.ju V.jv h,h⟩
noncomputable def fd (l:List (Nat×Int)):List D:=l.flatMap λq=>[.int q.1,.int q.2]
def jH {q:Nat×Int}{l}:fd (q::l)= .int q.1 :: .int q.2::fd l:=rfl
theorem Q4:∀{l:List (Nat×Int)},dS (fd l)=true
 | []=>rfl|q::l=>by rw[jH];simp only[dS,Q4,Bool.and_true];rfl
theorem Bl:∀{l:List (Nat×Int)},aK (fd l)=l.map λq=>D.int q.1
 | []=>rfl|q::l=>by rw[jH];simp only[aK,Bl,x8]
theorem yV:∀{l:List (Nat×Int)},aF 0 (fd l)=true
 | []=>rfl|q::l=>by rw[jH];simp only[aF,bU,yV,aec]
theorem yW:∀{l:List (Nat×Int)},(fd l).length=2*l.length
 | []=>rfl|q::l=>by rw[jH,xk,xk,yW,xk];lia
theorem yX {j:Nat}{v:Int}:∀{l:List (Nat×Int)},(∀q∈l,q.1≠j)->aP (fd l) (.int j) (.int v)=fd (l ++ [(j,v)])
 | [],_=>rfl
 |q::l,h=>by
  have b:=h q (by simp);have e:bq (.int q.1) (.int j)=false:=by
   have:¬((q.1:Int)=(j:Int)):=by lia
   simp[bq,this]
  rw[ad6,jH,jH];simp only[aP,e,sJ,if_false];rw[yX λx a=>h x (by simp[a])]
theorem yY:∀{l:List (Nat×Int)} {q:Nat×Int},(l.map (·.1)).Nodup->q∈l->aJ (fd l) (.int q.1)=some (.int q.2)
 | [],_,_,h=>by cases h
 |x::l,q,nd,h=>by
  rw[jH];simp only[aJ];rw[x8,D5]at nd;by_cases e:x.1=q.1
  . have:x=q:=by
      rcases nQ.mp h with h|h
      . exact h.symm
      . exact absurd (oa.mpr ⟨q,h,e.symm⟩) nd.1
    subst this;rw[if_pos (by simp[bq])]
  . have a:¬((x.1:Int)=(q.1:Int)):=by lia
    rw[if_neg (by simp[bq,a])];refine yY nd.2 ?_;rcases nQ.mp h with h|h
    . exact absurd (congrArg Prod.fst h).symm e
    . exact h
def OI (o:Nat)(q:Nat×Int):List D:=[.tup [.str "read",cZ q.1 o],.tup [.str "write",bJ o q.1,.int q.2]]
def Q5 (see set:Fn):FS:=b9 (gX (ax (ag oEq fb cT)) (ax (ag bf eP bg))) (av (aD (aj see (ae b0 (ae (aH ay (ae fw (ae eP (ae bg af)))) af))) (dP eW eP)) (cQ (aj set (ae b0 (ae (aH ay (ae gk (ae bg (ae eP af)))) (ae (ag ao eW eP) af)))))) aR
def JK (see:Fn):FS:=b9 (gX (ax (ag oEq fb cT)) (ax (ag bf eP bg))) (aD (aj see (ae b0 (ae (aH ay (ae fw (ae eP (ae bg af)))) af))) (dP fe eP)) aR
noncomputable def dg (w o:Nat)(m u:D)(n p v x mo y q2:Nat)(a:Option D)(c g h i q r:Option D):Sg:=[some (.aA w),some (.int o),some m,some u,some (.int n),some (.int p),some (.int v),some (.int x),some (.int mo),some (.aA y),some (.aA q2),a,c,g,h,i,q,r]
def CQ:gX (ax (ag oEq fb cT)) (ax (ag bf eP bg)) (dg w o m v n p s b Z Y q2 (some (.int c)) q T R J H E) g=some (decide (b=1/\c≠o),g):=by
 have i:((b:Int)=1)=(b=1):=propext (by lia);have r:((c:Int)≠(o:Int))=(c≠o):=propext (by lia);have a:ax (ag bf eP bg) (dg w o m v n p s b Z Y q2 (some (.int c)) q T R J H E) g=some (decide ((c:Int)≠(o:Int)),g):=by rw[cw,cx (d:=.int c) (d':=.int o) (g1:=g) (g2:=g) rfl rfl,PQ];rfl
 have u:ax (ag oEq fb cT) (dg w o m v n p s b Z Y q2 (some (.int c)) q T R J H E) g=some (decide ((b:Int)=1),g):=by rw[cw,cx (d:=.int b) (d':=.int 1) (g1:=g) (g2:=g) rfl rfl,baM];rfl
 rw[pT,u];simp only[nv,a,i,r];by_cases h:b=1<;>simp[h]
structure R1 (n p o sh w h b s r kq q1:Nat)(ex st rd:List D)(B:Int)(g0:G)(j:Nat)(g:G)(ks:List Int):Prop where
 kl:ks.length=(au j o sh).length
 h1:g[q1]? = some (fd ((au j o sh).zip ks))
 V:Wv n p w h b s r kq ex (st++((au j o sh).zip ks).flatMap (OI o)) (rd++cg (bI ks)) (B+j*31) g
 len:g.length=g0.length
 fr:∀i,i ∉ [w,h,b,s,r,q1]->g[i]? = g0[i]?
theorem ql:∀{l:List (Nat×Int)},(l.flatMap (OI o)).length=2*l.length
 | []=>rfl|x::l=>by rw[VJ,nh,ql];simp[OI];lia
def Bm {ks:List Int}(h:∀i∈I,i<n):∀q∈I.zip ks,q.1≠n:=λq a e=>by have:=h _ (UO a).1;lia
def FW {sh:Nat}{j:Nat}:∀i∈au j o sh,i<j:=λi a=>(A3.mp a).2.1
def yZ (x:j5 n see (yU o) jG 31 w Z b s Y c A f)(V:Wv n p w Z b s Y c A st j i g)(u:i+31<2 ^ 40)(v:o<n)(y:O<n)(sz:st.length<=800)(q:j.length<=800):
  ∃(k:Int) (B:G),see [.aA w,cZ O o] g=some (.int k,B)/\Wv n p w Z b s Y c A (st ++ [.tup [.str "read",cZ O o]]) (j ++ [.int k]) (i+31) B/\cq [w,Z,b,s,Y] g B:=by
 obtain⟨l,B,e,⟨k,rfl⟩,a,C⟩:=HR x V u ⟨O,rfl⟩ (.inr (.inr (.inr ⟨O,o,y,v,rfl⟩))) rfl (λh d=>by obtain⟨r,rfl⟩:=d;rfl) sz q;exact⟨k,B,e,a,C⟩
def R1.step {tg:Nat}{sh:Nat}{mo:Nat}{wd:D}{q1:Nat}{j:Nat}{ks:List Int}{x12:Option D}{x13:Option D}{x14:Option D}{x15:Option D}{x16:Option D}{x17:Option D}(K:j5 n see (yU o) jG 31 w Z b s Y c A U)(H:h=ak false 3 3 setB)(I:R1 n p o sh w Z b s Y c q1 A st f i a j g ks)(C:o<n)(E:j<n)(M:n<=5)(N:i+200<2 ^ 40)(O:q1 ∉ [w,Z,b,s,Y])(J:q1≠c)(sz:st.length<=700)(L:f.length<=700):
   ∃g' y9,Q5 see h (dg w o m wd n p tg sh mo q1 q2 (some (.int j)) x12 x13 x14 x15 x16 x17) g=some (.nx,dg w o m wd n p tg sh mo q1 q2 (some (.int j)) x12 x13 x14 x15 x16 x17,g')/\R1 n p o sh w Z b s Y c q1 A st f i a (j+1) g' y9:=by
 by_cases hc:sh=1/\j≠o
 . have r:au (j+1) o sh=au j o sh ++ [j]:=by rw[jF,if_pos hc]
   have sl:=eZ (n:=j) (o:=o) (sh:=sh);have B:=I.kl;have u:((au j o sh).zip ks).length=(au j o sh).length:=by rw[zk,B];lia
   have bl:(bI ks).length=ks.length:=by simp[bI]
   refine Cw (yZ K I.V (by lia) C E (by rw[nh,ql,u];lia) (by rw[nh,e_,bl,B];lia)) λk g1 e1 V1 Q=>?_;have z:g1[q1]? = some (fd ((au j o sh).zip ks)):=(Q.2 q1 O).trans I.h1;have R:=(nz.mp z).1;have pu:=yX (v:=k) (Bm (ks:=ks) (FW (j:=j) (o:=o) (sh:=sh)));have ez:(au (j+1) o sh).zip (ks ++ [k])=(au j o sh).zip ks ++ [(j,k)]:=by rw[r,agx B.symm];rfl
   have V2:=V1.other O J (xs:=fd ((au j o sh).zip ks ++ [(j,k)])) yV;refine rB (CP (v:=k) V2 C E (by rw[nh,nh,ql,u];simp only[F4];lia) (by rw[nh,nh,e_,bl,B];simp only[F4];lia)) λg3 e3 V3 y=>?_;have ge:aJ (fd ((au j o sh).zip ks ++ [(j,k)])) (.int j)=some (.int k):=by rw[<- pu];exact gw rfl Q4
   have Q6:iH (fd ((au j o sh).zip ks))=true:=by unfold iH;exact aI (by rw[yW,u];lia)
   have z3:az 3=true:=rfl;have k3:∀(x:Str) (X b:D) (g:G),ay [.str x,X,b] g=some (.tup [.str x,X,b],g):=λ_ _ _ _=>rfl;refine⟨g3,ks ++ [k],(lz (g1:=g) (by rw[CQ,decide_eq_true hc])).trans (cL (σ1:=dg w o m wd n p tg sh mo q1 q2 (some (.int j)) x12 x13 x14 x15 x16 x17) (g1:=g1.set q1 (fd ((au j o sh).zip ks ++ [(j,k)]))) ?_ ?_),?_,?_,?_,?_,?_⟩
   . have ec:aj see (ae b0 (ae (aH ay (ae fw (ae eP (ae bg af)))) af)) (dg w o m wd n p tg sh mo q1 q2 (some (.int j)) x12 x13 x14 x15 x16 x17) g=some (.int k,g1):=e1
     rw[kE,ec];simp[dg,z,Q6,pu]
   . have l:(g1.set q1 (fd ((au j o sh).zip ks ++ [(j,k)])))[q1]? = some (fd ((au j o sh).zip ks ++ [(j,k)])):=tv R
     have ei:ag ao eW eP (dg w o m wd n p tg sh mo q1 q2 (some (.int j)) x12 x13 x14 x15 x16 x17) (g1.set q1 (fd ((au j o sh).zip ks ++ [(j,k)])))=some (.int k,g1.set q1 (fd ((au j o sh).zip ks ++ [(j,k)]))):=by rw[cx (d:=.aA q1) (d':=.int j) (g1:=g1.set q1 (fd ((au j o sh).zip ks ++ [(j,k)]))) (g2:=g1.set q1 (fd ((au j o sh).zip ks ++ [(j,k)]))) rfl rfl];simp[l,ge]
     have em:aH ay (ae gk (ae bg (ae eP af))) (dg w o m wd n p tg sh mo q1 q2 (some (.int j)) x12 x13 x14 x15 x16 x17) (g1.set q1 (fd ((au j o sh).zip ks ++ [(j,k)])))=some (bJ o j,g1.set q1 (fd ((au j o sh).zip ks ++ [(j,k)]))):=rfl;have e0:b0 (dg w o m wd n p tg sh mo q1 q2 (some (.int j)) x12 x13 x14 x15 x16 x17) (g1.set q1 (fd ((au j o sh).zip ks ++ [(j,k)])))=some (.aA w,g1.set q1 (fd ((au j o sh).zip ks ++ [(j,k)]))):=rfl;rw[H];generalize dg w o m wd n p tg sh mo q1 q2 (some (.int j)) x12 x13 x14 x15 x16 x17=σ1 at *;generalize g1.set q1 (fd ((au j o sh).zip ks ++ [(j,k)]))=G1 at *;show((aj (ak false 3 3 setB) _ σ1 G1).bind λq=>some (F.nx,σ1,q.2))=_;simp only[gm,bV,e0,em,ei,cF,nv,e3]
   . rw[r];simp[B]
   . rw[y.2 q1 O,ez];exact tv R
   . have z1:st++((au (j+1) o sh).zip (ks ++ [k])).flatMap (OI o)=st++((au j o sh).zip ks).flatMap (OI o) ++ [.tup [.str "read",cZ j o]] ++ [.tup [.str "write",bJ o j,.int k]]:=by
      rw[ez,afh];simp[OI]
     have z2:f++cg (bI (ks ++ [k]))=f++cg (bI ks) ++ [.int k] ++ [.aB]:=by rw[show bI (ks ++ [k])=bI ks ++ [.int k] by simp[bI],yK];simp
     rw[z1,z2,show i+((j+1:Nat):Int)*31=i+(j:Int)*31+31 by lia];exact V3
   . rw[y.1,S3,Q.1];exact I.len
   . intro ex e
     simp only[nQ,vV,or_false,not_or]at e;rw[y.2 ex (by simp[e]),p9 (om e.2.2.2.2.2),Q.2 ex (by simp[e])];exact I.fr ex (by simp[e])
 . have r:au (j+1) o sh=au j o sh:=by rw[jF,if_neg hc,wQ]
   refine⟨g,ks,?_,by rw[r];exact I.kl,by rw[r];exact I.h1,?_,I.len,I.fr⟩
   . unfold Q5
     rw[cX (g1:=g) (by rw[CQ,decide_eq_false hc])];rfl
   . rw[r]
     obtain⟨W,hd,a1,a2,a3,a4,a5⟩:=I.V;exact⟨W,hd.mono (by lia),a1,a2,a3,a4,a5⟩
structure R3 (n p o sh w h b s r kq q2:Nat)(ex st rd:List D)(B:Int)(g0:G)(j:Nat)(g:G)(cs:List Int):Prop where
 kl:cs.length=(au j o sh).length
 h2:g[q2]? = some (fd ((au j o sh).zip cs))
 V:Wv n p w h b s r kq ex (st++jD (cls "call" o (au j o sh))) (rd++bI cs) (B+j*31) g
 len:g.length=g0.length
 fr:∀i,i ∉ [w,h,b,s,r,q2]->g[i]? = g0[i]?
def R3.step {tg:Nat}{sh:Nat}{mo:Nat}{wd:D}{q1:Nat}{j:Nat}{x12:Option D}{x13:Option D}{x14:Option D}{x15:Option D}{x16:Option D}{x17:Option D}(H:j5 n see (yU o) jG 31 w Z b s Y c A U)(I:R3 n p o sh w Z b s Y c q2 A st f i a j g cs)(C:o<n)(J:j<n)(L:n<=5)(M:i+200<2 ^ 40)(ex:q2 ∉ [w,Z,b,s,Y])(E:q2≠c)(sz:st.length<=700)(K:f.length<=700):
   ∃g' R,JK see (dg w o m wd n p tg sh mo q1 q2 (some (.int j)) x12 x13 x14 x15 x16 x17) g=some (.nx,dg w o m wd n p tg sh mo q1 q2 (some (.int j)) x12 x13 x14 x15 x16 x17,g')/\R3 n p o sh w Z b s Y c q2 A st f i a (j+1) g' R:=by
 by_cases hc:sh=1/\j≠o
 . have B:au (j+1) o sh=au j o sh ++ [j]:=by rw[jF,if_pos hc]
   have sl:=eZ (n:=j) (o:=o) (sh:=sh);have d:=I.kl;have l:((au j o sh).zip cs).length=(au j o sh).length:=by rw[zk,d];lia
   refine Cw (yZ H I.V (by lia) C J (by simp[jD,cls];lia) (by simp[bI,d];lia)) λk g1 X y O=>?_;have e:g1[q2]? = some (fd ((au j o sh).zip cs)):=(O.2 q2 ex).trans I.h2;have yq:=(nz.mp e).1;have pu:=yX (v:=k) (Bm (ks:=cs) (FW (j:=j) (o:=o) (sh:=sh)));have z:(au (j+1) o sh).zip (cs ++ [k])=(au j o sh).zip cs ++ [(j,k)]:=by rw[B,agx d.symm];rfl
   have V2:=y.other ex E (xs:=fd ((au j o sh).zip cs ++ [(j,k)])) yV;have x:iH (fd ((au j o sh).zip cs))=true:=by unfold iH;exact aI (by rw[yW,l];lia)
   refine⟨g1.set q2 (fd ((au j o sh).zip cs ++ [(j,k)])),cs ++ [k],(lz (g1:=g) (by rw[CQ,decide_eq_true hc])).trans ?_,?_,?_,?_,?_,?_⟩
   . have ec:aj see (ae b0 (ae (aH ay (ae fw (ae eP (ae bg af)))) af)) (dg w o m wd n p tg sh mo q1 q2 (some (.int j)) x12 x13 x14 x15 x16 x17) g=some (.int k,g1):=X
     rw[kE,ec];simp[dg,e,x,pu]
   . rw[B];simp[d]
   . rw[z];exact tv yq
   . have r:st++jD (cls "call" o (au (j+1) o sh))=st++jD (cls "call" o (au j o sh)) ++ [.tup [.str "read",cZ j o]]:=by
      rw[B];simp[jD,cls,cZ]
     have z2:f++bI (cs ++ [k])=f++bI cs ++ [.int k]:=by simp[bI]
     rw[r,z2,show i+((j+1:Nat):Int)*31=i+(j:Int)*31+31 by lia];exact V2
   . rw[S3,O.1];exact I.len
   . intro Q h
     simp only[nQ,vV,or_false,not_or]at h;rw[p9 (om h.2.2.2.2.2),O.2 Q (by simp[h])];exact I.fr Q (by simp[h])
 . have B:au (j+1) o sh=au j o sh:=by rw[jF,if_neg hc,wQ]
   refine⟨g,cs,?_,by rw[B];exact I.kl,by rw[B];exact I.h2,?_,I.len,I.fr⟩
   . unfold JK
     rw[cX (g1:=g) (by rw[CQ,decide_eq_false hc])];rfl
   . rw[B]
     obtain⟨W,hd,a1,a2,u,a4,q⟩:=I.V;exact⟨W,hd.mono (by lia),a1,a2,u,a4,q⟩
theorem Bn {t:FG}{c:FT}{e:FE}{nn:Nat}{g:G}{kv:List D}(P:Sg->Prop)(b:D->Bool)(f:D->D)(o:g[nn]? = some kv)(q:∀d∈aK kv,∀u,P u->∃r,t d u g=some (r,g)/\c r g=some (b d,g)/\(b d=true->e r g=some (f d,g))/\P r):∀(k:Nat) (u:Sg),k<=(aK kv).length->P u->ib nn (aK kv).length t c e k u g=some ((((aK kv).drop ((aK kv).length-k)).filter b).map f,g)
 | 0,u,_,_=>by simp[ib,o]
 |k+1,u,hk,p=>by
  have a:(aK kv).length-(k+1)<(aK kv).length:=by lia
  obtain⟨r,i,n,h,j⟩:=q _ (Ds a) u p;have v:=Bn P b f o q k r (by lia) j;rw[Ws a,show(aK kv).length-(k+1)+1=(aK kv).length-k by lia];generalize hd:(aK kv)[(aK kv).length-(k+1)]=d at *;have l:(aK kv)[(aK kv).length-(k+1)]? = some d:=by rw[nP a,hd]
  simp only[ib,o,nv,if_true,l,i,n,Iv];cases hb:b d with
  |false =>
   simp only[sJ,if_false,v];rw[UT,hb];rfl
  |true =>
   simp only[if_true,h hb,nv,v];rw[UT,hb];rfl
def Q8:FE:=k_ j4 (xM eW) [none,none,some 10,some 9] (gN 1) (ax (ag bf (ag ao de bg) (ag ao cO bg))) bg
def Q9:FS:=av (mf 16 11 (ae (ag ao jo gD) (ae (ag ao (ag ao f7 gD) cT) af))) (av (aD (ip (ag oEq ee cT) (ag bf (ag ao hY eh) (ag ao (ag ao f7 gD) eh))) (gN 17)) (b9 (gX (ax (ag iG eP (aH ay (ae bg (ae (sr nG cT) af))))) (w5 (ax (ag bf (ag ao hY cT) eP)) (gW (aa 17)))) (cQ (dD isRef bZ gb (ae eP af))) aR))
def Q_ (u:r.length=I.length)(l:cs.length=I.length)(nd:I.Nodup)(f:D->Bool)(i:∀q∈I.zip (r.zip cs),f (.int q.1)=decide (q.2.1≠q.2.2)):((dN I).filter f)=dN (js I r cs):=by
 have e:I=(I.zip (r.zip cs)).map (·.1):=(ad7 (by rw[zk];lia)).symm
 have:∀T:List (Nat×Int×Int),(∀q∈T,f (.int q.1)=decide (q.2.1≠q.2.2))->(dN (T.map (·.1))).filter f=dN ((T.filter λq=>decide (q.2.1≠q.2.2)).map (·.1)):=λT=>by
  induction T with
  |nil=>intro _;rfl
  |cons q T g =>
   intro a;have c:=a q (by simp);have b:=g λx d=>a x (by simp[d]);simp only[dN,x8]at b ⊢;rw[UT,UT,c,b];by_cases z:q.2.1≠q.2.2
   . rw[if_pos (decide_eq_true z),if_pos (decide_eq_true z)];rfl
   . rw[if_neg (by simpa using z),if_neg (by simpa using z)]
 conv=>lhs;rw[e]
 exact this _ i
def baX {tg:Nat}{sh:Nat}{mo:Nat}{wd:D}{x11:Option D}{x12:Option D}{x13:Option D}{x14:Option D}{x15:Option D}{x16:Option D}{x17:Option D}(A:g[s]? = some (fd ((au n o sh).zip r)))(E:g[q2]? = some (fd ((au n o sh).zip cs)))(C:r.length=(au n o sh).length)(B:cs.length=(au n o sh).length)(H:n<=5)(nd:(au n o sh).Nodup):Q8 (dg w o m wd n p tg sh mo s q2 x11 x12 x13 x14 x15 x16 x17) g=some (.ref g.length,g ++ [dN (js (au n o sh) r cs)]):=by
 have sl:=eZ (n:=n) (o:=o) (sh:=sh);generalize au n o sh=S at *;have l:aK (fd (S.zip r))=dN S:=by rw[Bl,show(λq:Nat×Int=>D.int q.1)=(λj:Nat=>D.int j) ∘ Prod.fst from rfl,<- E5,ad7 (by lia)];rfl
 have nk:((S.zip r).map (·.1)).Nodup:=by rw[ad7 (by lia)];exact nd
 have U:((S.zip cs).map (·.1)).Nodup:=by rw[ad7 (by lia)];exact nd
 have Q:∀i (b:i<S.length),aJ (fd (S.zip r)) (.int S[i])=some (.int (r[i]'(by lia))):=λi b=>by have:=yY (q:=(S[i],r[i]'(by lia))) nk (UX.mpr ⟨i,by rw[Qy];exact⟨nP b,nP (by lia)⟩⟩);exact this
 have u:∀i (b:i<S.length),aJ (fd (S.zip cs)) (.int S[i])=some (.int (cs[i]'(by lia))):=λi b=>by have:=yY (q:=(S[i],cs[i]'(by lia))) U (UX.mpr ⟨i,by rw[Qy];exact⟨nP b,nP (by lia)⟩⟩);exact this
 let I:D->Bool:=λd=>match aJ (fd (S.zip r)) d,aJ (fd (S.zip cs)) d with
  |some (.int x),some (.int y)=>decide (x≠y)|_,_=>false
 have c:=Bn (t:=gN 1) (c:=ax (ag bf (ag ao de bg) (ag ao cO bg))) (e:=bg) (nn:=s) (g:=g) (kv:=fd (S.zip r)) (λR=>∃a,R = [none,a,some (.aA q2),some (.aA s)]) I id A (by
  rintro d hd R ⟨a,rfl⟩;rw[l]at hd;obtain⟨v,X,rfl⟩:=oa.mp hd;obtain⟨i,b,rfl⟩:=Qa.mp X;have f:=Q i b;have h:=u i b;have t:ax (ag bf (ag ao de bg) (ag ao cO bg)) [none,some (.int S[i]),some (.aA q2),some (.aA s)] g=some (I (.int S[i]),g):=by
   have J:ag ao de bg [none,some (.int S[i]),some (.aA q2),some (.aA s)] g=some (.int (r[i]'(by lia)),g):=by rw[cx (d:=.aA s) (d':=.int S[i]) (g1:=g) (g2:=g) rfl rfl];simp[A,f]
   have M:ag ao cO bg [none,some (.int S[i]),some (.aA q2),some (.aA s)] g=some (.int (cs[i]'(by lia)),g):=by rw[cx (d:=.aA q2) (d':=.int S[i]) (g1:=g) (g2:=g) rfl rfl];simp[E,h]
   rw[cw,cx J M,PQ];simp only[fg,I,f,h];rfl
  exact⟨[none,some (.int S[i]),some (.aA q2),some (.aA s)],rfl,t,λ_=>rfl,_,rfl⟩) (aK (fd (S.zip r))).length [none,none,some (.aA q2),some (.aA s)] (nA _) ⟨_,rfl⟩
 rw[Vc,afn,ahT]at c;have Y:az (aK (fd (S.zip r))).length=true:=aI (by rw[l,cG];lia);have Z:(aK (fd (S.zip r))).filter I=dN (js S r cs):=by rw[l];refine Q_ C B nd I λq hq=>?_;obtain⟨i,b⟩:=UX.mp hq;rw[Qy,Qy]at b;obtain⟨O,i2,i3⟩:=b;obtain⟨z,f⟩:=nz.mp O;obtain⟨l2,h⟩:=nz.mp i2;obtain⟨l3,e3⟩:=nz.mp i3;have J:=Q i z;have M:=u i z;rw[f,h]at J;rw[f,e3]at M;simp only[I,J,M]
 rw[Z]at c;unfold Q8;have O:xM eW (dg w o m wd n p tg sh mo s q2 x11 x12 x13 x14 x15 x16 x17) g=some (s,(aK (fd (S.zip r))).length,g):=by rw[LA,show eW (dg w o m wd n p tg sh mo s q2 x11 x12 x13 x14 x15 x16 x17) g=some (.aA s,g) from rfl];simp only[nv,A]
 have sb:cu [none,none,some 10,some 9] (dg w o m wd n p tg sh mo s q2 x11 x12 x13 x14 x15 x16 x17)= [none,none,some (.aA q2),some (.aA s)]:=rfl;rw[En,O];simp only[nv,Y,if_true,sb,c,j4]
def Uh:iG (.int i) (.tup [.int (o:Int),.int (-1)]) g=some (.bl (decide (i≠o/\i ≠ -1)),g):=by
 have b:((o:Int)== i)=decide (i=o):=by by_cases z:i=o<;>simp_all<;>lia
 have c:((-1:Int)== i)=decide (i = -1):=by by_cases z:i = -1<;>simp_all<;>lia
 have:iG (.int i) (.tup [.int (o:Int),.int (-1)]) g=some (.bl (!(((o:Int)== i)||(((-1:Int)== i)||false))),g):=rfl;rw[this,b,c];by_cases h1:i=o<;>by_cases h2:i = -1<;>simp[h1,h2]
def Mv (f:-1<=i)(l:i<n):jr n o i=decide (i≠o/\i ≠ -1):=by
 cases e:jr n o i with
 |true =>
  obtain⟨a,b,c⟩:=qh.mp e;have:=fR.mp b;exact(decide_eq_true ⟨by lia,by lia⟩).symm
 |false =>
  symm;rw[decide_eq_false_iff_not];rintro⟨d,c⟩;have:jr n o i=true:=qh.mpr ⟨i.toNat,fR.mpr ⟨by lia,by lia⟩,by lia⟩;rw[this]at e;cases e
def Ra {tg:Nat}{sh:Nat}{mo:Nat}{wd:D}{q1:Nat}{x11:Option D}{x16:Option D}{x17:Option D}{c:D}(B:g[b]? = some A)(I:A.length<=100)(E:j[s]? = some v)(H:f[s]? = some c)(C:BW n v)(bc:BW n c):
  ∃X Y Z,Q9 (dg w o m wd n p tg sh mo q1 q2 x11 (some (.lst j)) (some (.lst f)) (some (.ref b)) (some (.int s)) x16 x17) g=some (.nx,dg w o m wd n p tg sh mo q1 q2 X (some (.lst j)) (some (.lst f)) (some (.ref b)) (some (.int s)) Y Z,g.set b (A++(fq n o tg [(v,c)]).map .int)):=by
 obtain⟨O,x,t,rfl,hv,ab,Qo⟩:=C;obtain⟨fs,J,k,rfl,OH,Yu,Yv⟩:=bc;have hl:=(nz.mp B).1;have i1:∀G:G,ao (.lst j) (.int s) G=some (.tup [O,.int x,.int t],G):=λG=>by simp[fj,bb,gC E]
 have a:∀G:G,ao (.lst f) (.int s) G=some (.tup [fs,.int J,.int k],G):=λG=>by simp[fj,bb,gC H]
 have k1:∀(O:D) (x t:Int) (G:G),ao (.tup [O,.int x,.int t]) (.int 1) G=some (.int x,G):=λ_ _ _ _=>rfl;have k2:∀(O:D) (x t:Int) (G:G),ao (.tup [O,.int x,.int t]) (.int 2) G=some (.int t,G):=λ_ _ _ _=>rfl;refine⟨some (.int J),some (.tup [O,.int x,.int t]),some (.bl (decide (tg=1)&&decide (t≠k))),?_⟩;have s1:mf 16 11 (ae (ag ao jo gD) (ae (ag ao (ag ao f7 gD) cT) af)) (dg w o m wd n p tg sh mo q1 q2 x11 (some (.lst j)) (some (.lst f)) (some (.ref b)) (some (.int s)) x16 x17) g=some (.nx,dg w o m wd n p tg sh mo q1 q2 (some (.int J)) (some (.lst j)) (some (.lst f)) (some (.ref b)) (some (.int s)) (some (.tup [O,.int x,.int t])) x17,g):=by
  have e1:ag ao jo gD (dg w o m wd n p tg sh mo q1 q2 x11 (some (.lst j)) (some (.lst f)) (some (.ref b)) (some (.int s)) x16 x17) g=some (.tup [O,.int x,.int t],g):=(cx (d:=.lst j) (d':=.int s) (g1:=g) (g2:=g) rfl rfl).trans (i1 g);have U:ag ao (ag ao f7 gD) cT (dg w o m wd n p tg sh mo q1 q2 x11 (some (.lst j)) (some (.lst f)) (some (.ref b)) (some (.int s)) x16 x17) g=some (.int J,g):=by rw[cx (d:=.tup [fs,.int J,.int k]) (d':=.int 1) (g1:=g) (g2:=g) ((cx (d:=.lst f) (d':=.int s) (g1:=g) (g2:=g) rfl rfl).trans (a g)) rfl];rfl
  exact(CF e1 U).trans rfl
 refine cL s1 ?_;generalize l:dg w o m wd n p tg sh mo q1 q2 (some (.int J)) (some (.lst j)) (some (.lst f)) (some (.ref b)) (some (.int s)) (some (.tup [O,.int x,.int t])) x17=Q;have a6:ag oEq ee cT Q g=some (.bl (decide (tg=1)),g):=by subst l;rw[cx (d:=.int tg) (d':=.int 1) (g1:=g) (g2:=g) rfl rfl,baM];have:((tg:Int)=1)=(tg=1):=propext (by lia);simp only[this]
 have u:ag bf (ag ao hY eh) (ag ao (ag ao f7 gD) eh) Q g=some (.bl (decide (t≠k)),g):=by subst l;rw[cx (d:=.int t) (d':=.int k) (g1:=g) (g2:=g) rfl ((cx (d:=.tup [fs,.int J,.int k]) (d':=.int 2) (g1:=g) (g2:=g) ((cx (d:=.lst f) (d':=.int s) (g1:=g) (g2:=g) rfl rfl).trans (a g)) rfl).trans rfl),PQ]
 have a8:ip (ag oEq ee cT) (ag bf (ag ao hY eh) (ag ao (ag ao f7 gD) eh)) Q g=some (.bl (decide (tg=1)&&decide (t≠k)),g):=by
  unfold ip;rw[a6];simp only[fg,nv];by_cases z:tg=1
  . rw[decide_eq_true z,if_pos rfl,u,afO]
  . rw[decide_eq_false z,if_neg (by simp),agH]
 refine cD a8 ?_;have U:Q.set 17 (some (.bl (decide (tg=1)&&decide (t≠k))))=dg w o m wd n p tg sh mo q1 q2 (some (.int J)) (some (.lst j)) (some (.lst f)) (some (.ref b)) (some (.int s)) (some (.tup [O,.int x,.int t])) (some (.bl (decide (tg=1)&&decide (t≠k)))):=by subst l;rfl
 rw[U];generalize hb:(decide (tg=1)&&decide (t≠k))=R;generalize e:dg w o m wd n p tg sh mo q1 q2 (some (.int J)) (some (.lst j)) (some (.lst f)) (some (.ref b)) (some (.int s)) (some (.tup [O,.int x,.int t])) (some (.bl R))=M;have t1:ax (ag iG eP (aH ay (ae bg (ae (sr nG cT) af)))) M g=some (decide (J≠o/\J ≠ -1),g):=by subst e;rw[cw,cx (d:=.int J) (d':=.tup [.int o,.int (-1)]) (g1:=g) (g2:=g) rfl rfl,Uh];rfl
 have t2:ax (ag bf (ag ao hY cT) eP) M g=some (decide (x≠J),g):=by subst e;rw[cw,cx (d:=.int x) (d':=.int J) (g1:=g) (g2:=g) rfl rfl,PQ];rfl
 have t3:gW (aa 17) M g=some (R,g):=by subst e;rfl
 have y:w5 (ax (ag bf (ag ao hY cT) eP)) (gW (aa 17)) M g=some (decide (x≠J)||R,g):=by
  rw[OW,t2];by_cases z:x≠J
  . rw[decide_eq_true z];rfl
  . rw[decide_eq_false z];simpa using t3
 have h:gX (ax (ag iG eP (aH ay (ae bg (ae (sr nG cT) af))))) (w5 (ax (ag bf (ag ao hY cT) eP)) (gW (aa 17))) M g=some (decide (J≠o/\J ≠ -1)&&(decide (x≠J)||R),g):=by
  rw[pT,t1];by_cases z:J≠o/\J ≠ -1
  . rw[decide_eq_true z];simpa using y
  . rw[decide_eq_false z];rfl
 have pe:(fq n o tg [(.tup [O,.int x,.int t],.tup [fs,.int J,.int k])]).map D.int=if(decide (J≠o/\J ≠ -1)&&(decide (x≠J)||R))=true then [.int J]else []:=by
  unfold fq;have r:uH (.tup [fs,.int J,.int k])=J:=rfl;have w2:vD tg (.tup [O,.int x,.int t]) (.tup [fs,.int J,.int k])=(decide (x≠J)||R):=by rw[<- hb];rfl
  rw[UT,r,w2,Mv Yu Yv];split<;>simp[r]
 rw[pe];cases hc:(decide (J≠o/\J ≠ -1)&&(decide (x≠J)||R))with
 |false =>
  rw[hc]at h;rw[if_neg (by simp),wQ];obtain⟨_,e3⟩:=nz.mp B;rw[<- e3,Vu];exact(cX h).trans rfl
 |true =>
  rw[hc]at h;rw[if_pos rfl];refine(lz h).trans ?_;have zl:az (A.length+1)=true:=aI (by lia);have i:gb M g=some (.ref b,g):=by subst e;rfl
  have yH:ae eP af M g=some ([.int J],g):=by subst e;rfl
  have em:dD isRef bZ gb (ae eP af) M g=some (.aB,g.set b (A ++ [.int J])):=by rw[qc,i];simp only[nv,yH];simp[isRef,bZ,zl,B]
  rw[show cQ (dD isRef bZ gb (ae eP af)) M g=(dD isRef bZ gb (ae eP af) M g).bind λq=>some (.nx,M,q.2) from rfl,em];rfl
def HS {l:List (D×D)}{q:D×D}:fq n o p (l ++ [q])=fq n o p l++fq n o p [q]:=by unfold fq;rw[adK,Vq]
def Mw {tg:Nat}{sh:Nat}{mo:Nat}{wd:D}{q1:Nat}{x11:Option D}{x15:Option D}{x16:Option D}{x17:Option D}(z:g[s]? = some A)(J:A.length<=50)(H:j.length=p)(I:f.length=p)(E:p<=5)(C:∀c∈j,BW n c)(B:∀c∈f,BW n c):
   ni (dB (dR (ae d4 af)) (gN 15) Q9 (dg w o m wd n p tg sh mo q1 q2 x11 (some (.lst j)) (some (.lst f)) (some (.ref s)) x15 x16 x17) g) λx=>x.1 = .nx/\x.2.2=g.set s (A++(fq n o tg (j.zip f)).map .int) /\ ∃M R O Q,x.2.1=dg w o m wd n p tg sh mo q1 q2 M (some (.lst j)) (some (.lst f)) (some (.ref s)) R O Q:=by
 have i:=(nz.mp z).1;rw[gG,iu (n:=p) (g1:=g) rfl (by lia),nv];refine fG (λfs U a=>a=g.set s (A++(fq n o tg ((j.zip f).take fs)).map .int) /\ ∃M R O Q,U=dg w o m wd n p tg sh mo q1 q2 M (some (.lst j)) (some (.lst f)) (some (.ref s)) R O Q) _ 0 _ _ ⟨?_,_,_,_,_,rfl⟩ ?_ ?_
 . obtain⟨_,y⟩:=nz.mp z
   simp only[aiC,fq,List.filter_nil,ahs,wQ];rw[<- y,Vu]
 . rintro fs d U a u ⟨rfl,M,R,O,Q,rfl⟩
   obtain⟨X,rfl⟩:=dj u;simp only[uB]at *;have X:fs<p:=by simpa using X
   have hf:j[fs]? = some j[fs]:=nP (by lia);have b:f[fs]? = some f[fs]:=nP (by lia);have q:=Mq (n:=n) (o:=o) (tg:=tg) (l:=(j.zip f).take fs);rw[Aq]at q;obtain⟨Y,r,h,e⟩:=Ra (w:=w) (m:=m) (wd:=wd) (p:=p) (tg:=tg) (sh:=sh) (mo:=mo) (o:=o) (q1:=q1) (q2:=q2) (x11:=M) (x16:=O) (x17:=Q) (g:=g.set s (A++(fq n o tg ((j.zip f).take fs)).map .int)) (A:=A++(fq n o tg ((j.zip f).take fs)).map .int) (tv i) (by rw[nh,ro];lia) hf b (C _ (Ds _)) (B _ (Ds _));refine⟨_,rfl,_,e,?_,_,_,_,_,rfl⟩;have v:(j.zip f)[fs]? = some (j[fs],f[fs]):=by rw[Qy];exact⟨hf,b⟩
   rw[afq,v,Option.toList_some,HS,Vq,<- zU,XT]
 . rintro U a ⟨rfl,M,R,O,Q,rfl⟩
   refine⟨rfl,?_,_,_,_,_,rfl⟩;rw[cA,uB];dsimp only;rw[Jt (by rw[zk];lia)]
noncomputable abbrev aV (n p c g mo:Nat):D:=.tup [.str "shared",.int n,.int p,.int c,.int g,.int mo]
def Yw:FS:=aM (aH ay (ae f7 (ae (pB gb) af)))
def Yx:FS:=av (aD Q8 (gN 14)) (av (dB (dR (ae d4 af)) (gN 15) Q9) Yw)
def Yy (see:Fn):FS:=av (dB (dR (ae ef af)) (gN 11) (JK see)) Yx
def Yz (see D4:Fn):FS:=av (mf 12 13 (ae (aj D4 (ae b0 (ae ft (ae d4 af)))) (ae (aj D4 (ae b0 (ae ft (ae d4 af)))) af))) (Yy see)
def JL (see set D4:Fn):FS:=av (aD cO (gT 6 (a_ (gN 3) (a_ (gN 4) (a_ (gN 5) (a_ (gN 6) (a_ (gN 7) (a_ (gN 8) fz)))))))) (av (aD (aH ay (ae kz (ae kz af))) (gT 2 (a_ (gN 9) (a_ (gN 10) fz)))) (av (dB (dR (ae ef af)) (gN 11) (Q5 see set)) (Yz see D4)))
def Rb {tg:Nat}{sh:Nat}{ks:List Int}{fs:List D}{ss:List D}{σ:Sg}{q:Nat}(l:n<=5)(u:o<n)(d:σ[14]? = some (some (.ref q)))(f:g[q]? = some ((iJ n o tg sh ks fs ss cs).map D.int)):pB gb σ g=some (.lst (dN (eU n o tg sh ks fs ss cs)),g):=by
 rw[<- Fv]at f;have e:=Fm (L:=er n o tg sh ks fs ss cs) (ms:=eU n o tg sh ks fs ss cs) (λj=>qi) tX Fu;have h:=(aer (bR (λi=>((er n o tg sh ks fs ss cs).map λ(j:Nat)=>(j:Int)).getD i 0) ((er n o tg sh ks fs ss cs).map λ(j:Nat)=>(j:Int)).length)).length_eq.symm.trans (congrArg aft e)
 replace h:=ae7 h
 replace h:=qJ h (qJ (ae7 (ro _)) (uI l u))
 have c:fM (dN (er n o tg sh ks fs ss cs))=some ((er n o tg sh ks fs ss cs).map λ(j:Nat)=>(j:Int)):=by have:=baH ((er n o tg sh ks fs ss cs).map λ(j:Nat)=>(j:Int));rw[E5]at this;exact this
 have b:∀i,i<((er n o tg sh ks fs ss cs).map λ(j:Nat)=>(j:Int)).length->0<=((er n o tg sh ks fs ss cs).map λ(j:Nat)=>(j:Int)).getD i 0/\((er n o tg sh ks fs ss cs).map λ(j:Nat)=>(j:Int)).getD i 0<=7:=λi a=>by rw[ro]at a;have:(er n o tg sh ks fs ss cs)[i]< n:=(fR.mp (Fp.mp (qi.mpr (Ds a))).1).1;rw[O1,qy,nP a];exact⟨afE _,by show((er n o tg sh ks fs ss cs)[i]:Int)<=7;lia⟩
 generalize er n o tg sh ks fs ss cs=L at *;rw[AN];simp only[La,d,nv,fB,f,c];rw[if_pos (decide_eq_true ⟨h,b⟩),e];simp[dN,E5,Ru]
structure mr (n p o:Nat)(see D4:Fn)(w h b s r kq:Nat)(ex mv:List D):Prop where
 Rc:j5 n see (yU o) jG 31 w h b s r kq ex mv
 VZ:j5 n see VV (lX p) 31 w h b s r kq ex mv
 col:rQ n "box" D4 (BW n) 31 w h b s r kq ex mv
theorem Wv.mono {B':Int}(V:Wv n p w o b s Z Y A st j i g)(a:i<=B'):Wv n p w o b s Z Y A st j B' g:=⟨V.W,V.hd.mono a,V.lW,V.ez,V.ju,V.jv,V.bd⟩
def Rf:(au n o p).Nodup:=by
 unfold au;split
 . exact Fo
 . exact VX
def Rh {tg:Nat}{sh:Nat}{mo:Nat}(r:mr n p o see X w Z b s Y c A f)(J:h=ak false 3 3 setB)(V:Wv n p w Z b s Y c A st j i g)(H:o<n)(C:n<=5)(E:p<=5)(L:i+1000<2 ^ 40)(sz:st.length<=600)(K:j.length<=600):
  ∃ks fs ss cs O,ak false 18 3 (JL see h X) [.aA w,.int o,aV n p tg sh mo] g=some (.tup [.lst ss,.lst (dN (eU n o tg sh ks fs ss cs))],O)/\Rg n p o sh ks fs ss cs/\Wv n p w Z b s Y c A (st++wZ n p o sh ks) (j++bK ks fs ss cs) (i+700) O/\cq [w,Z,b,s,Y] g O:=by
 obtain⟨lw,lh,lb,ls,lr,lk⟩:=V.JJ;have AM:g.length ∉ [w,Z,b,s,Y]:=CA lw lh lb ls lr (nA _);have h_:g.length+1 ∉ [w,Z,b,s,Y]:=CA lw lh lb ls lr (ahU _);have main:∀Q:D×G->Prop,(∀q,(∃ks fs ss cs,q.1 = .tup [.lst ss,.lst (dN (eU n o tg sh ks fs ss cs))]/\Rg n p o sh ks fs ss cs/\Wv n p w Z b s Y c A (st++wZ n p o sh ks) (j++bK ks fs ss cs) (i+700) q.2/\cq [w,Z,b,s,Y] g q.2)->Q q)->ni (ak false 18 3 (JL see h X) [.aA w,.int o,aV n p tg sh mo] g) Q:=λQ hQ=>by
  refine mO rfl ?_;have V0:Wv n p w Z b s Y c A st j i (g ++ [[],[]]):=V.push (by simp[aF]);have z:au 0 o sh = []:=by unfold au b_;split<;>rfl
  refine cj (σ1:=[some (.aA w),some (.int o),some (aV n p tg sh mo),some (.str "shared"),some (.int n),some (.int p),some (.int tg),some (.int sh),some (.int mo),none,none,none,none,none,none,none,none,none]) (g1:=g) rfl (cj (σ1:=dg w o (aV n p tg sh mo) (.str "shared") n p tg sh mo g.length (g.length+1) none none none none none none none) (g1:=g ++ [[],[]]) (by simp[kz,dg,ay,az,nE]) (wp_seq ?_));rw[gG,iu (n:=n) (g1:=g ++ [[],[]]) rfl (by lia),nv];refine fG (λex σ O=>∃v ks,σ=dg w o (aV n p tg sh mo) (.str "shared") n p tg sh mo g.length (g.length+1) v none none none none none none/\R1 n p o sh w Z b s Y c g.length A st j i (g ++ [[],[]]) ex O ks) _ 0 _ _ ⟨none,[],rfl,?_⟩ ?_ ?_
  . refine⟨by rw[z];rfl,by rw[z];simp[fd],?_,rfl,λ_ _=>rfl⟩
    rw[z];simpa[cg,bI]using V0
  . rintro ex d σ O hj ⟨v,ks,rfl,I⟩
    obtain⟨u,rfl⟩:=dj hj;simp only[uB]at *;have u:ex<n:=by simpa using u
    obtain⟨g2,y9,e,a⟩:=R1.step (m:=aV n p tg sh mo) (wd:=.str "shared") (tg:=tg) (mo:=mo) (q2:=g.length+1) (x12:=none) (x13:=none) (x14:=none) (x15:=none) (x16:=none) (x17:=none) r.Rc J I H u C (by lia) AM (by lia) (by lia) (by lia);exact⟨_,rfl,_,e,some (.int ex),y9,rfl,a⟩
  . rintro σ g1 ⟨v,ks,rfl,I⟩
    refine⟨rfl,?_⟩;rw[cA,uB]at I;dsimp only;have kl:=I.kl;have sl:=eZ (n:=n) (o:=o) (sh:=sh);have zl:((au n o sh).zip ks).length=(au n o sh).length:=by rw[zk,kl];lia
    have bl:(bI ks).length=(au n o sh).length:=by simp[bI,kl]
    have V1:=I.V.mono (B':=i+155) (by lia);have L1:(st++((au n o sh).zip ks).flatMap (OI o)).length<=650:=by rw[nh,ql,zl];lia
    have L2:(j++cg (bI ks)).length<=650:=by rw[nh,e_,bl];lia
    refine fS (Q3 r.col V1 E (by lia) (by lia) (by lia)) λfs g2 e2 fl fa V2 f2=>?_;refine fS (Q3 r.col V2 E (by lia) (by rw[nh,uE];lia) (by rw[nh,fl];lia)) λss g3 e3 iR sa V3 f3=>?_;refine cj (CF e2 e3) (wp_seq ?_);show ni (dB (dR (ae ef af)) (gN 11) (JK see) (dg w o (aV n p tg sh mo) (.str "shared") n p tg sh mo g.length (g.length+1) v (some (.lst fs)) (some (.lst ss)) none none none none) g3) _;rw[gG,iu (n:=n) (g1:=g3) rfl (by lia),nv];have YA:g3[g.length+1]? = some []:=by rw[f3.2 _ h_,f2.2 _ h_,I.fr _ (iB h_ (by lia)),CY (by lia)];simp
    have YB:g3[g.length]? = some (fd ((au n o sh).zip ks)):=by rw[f3.2 _ AM,f2.2 _ AM];exact I.h1
    have ar:(st++((au n o sh).zip ks).flatMap (OI o)++fW "box" p++fW "box" p).length<=700:=by rw[nh,nh,uE];lia
    have aB:(j++cg (bI ks)++fs++ss).length<=700:=by rw[nh,nh,fl,iR];lia
    refine fG (λex σ O=>∃v cs,σ=dg w o (aV n p tg sh mo) (.str "shared") n p tg sh mo g.length (g.length+1) v (some (.lst fs)) (some (.lst ss)) none none none none/\R3 n p o sh w Z b s Y c (g.length+1) A (st++((au n o sh).zip ks).flatMap (OI o)++fW "box" p++fW "box" p) (j++cg (bI ks)++fs++ss) (i+155+155+155) g3 ex O cs) _ 0 _ _ ⟨v,[],rfl,?_⟩ ?_ ?_
    . refine⟨by rw[z];rfl,by rw[z];simpa[fd]using YA,?_,rfl,λ_ _=>rfl⟩
      rw[z];simpa[jD,cls,bI]using V3
    . rintro ex d σ O hj ⟨oz,cs,rfl,a⟩
      obtain⟨u,rfl⟩:=dj hj;simp only[uB]at *;have u:ex<n:=by simpa using u
      obtain⟨B,Q7,e,aC⟩:=R3.step (m:=aV n p tg sh mo) (wd:=.str "shared") (tg:=tg) (mo:=mo) (q1:=g.length) (x12:=some (.lst fs)) (x13:=some (.lst ss)) (x14:=none) (x15:=none) (x16:=none) (x17:=none) r.Rc a H u C (by lia) h_ (by lia) ar aB;exact⟨_,rfl,_,e,some (.int ex),Q7,rfl,aC⟩
    . rintro σ B ⟨oz,cs,rfl,a⟩
      refine⟨rfl,?_⟩;rw[cA,uB]at a;dsimp only;have R:Rg n p o sh ks fs ss cs:=⟨kl,fl,iR,a.kl,λkq hc=>(fa kq hc).bc,λkq hc=>(sa kq hc).bc⟩
      have ab:g3.length=g.length+2:=by rw[f3.1,f2.1,I.len];simp
      have a7:B.length=g.length+2:=by rw[a.len,ab]
      have h1:B[g.length]? = some (fd ((au n o sh).zip ks)):=by rw[a.fr _ (iB AM (by lia))];exact YB
      have cm:=baX (w:=w) (m:=aV n p tg sh mo) (wd:=.str "shared") (p:=p) (tg:=tg) (mo:=mo) (x11:=oz) (x12:=some (.lst fs)) (x13:=some (.lst ss)) (x14:=none) (x15:=none) (x16:=none) (x17:=none) h1 a.h2 kl a.kl C Rf;have aq:(B ++ [dN (js (au n o sh) ks cs)])[B.length]? = some (dN (js (au n o sh) ks cs)):=by simp
      refine cj (jP cm) (wp_seq ?_);have a6:=A_ (S:=au n o sh) (ks:=ks) (cs:=cs);refine NT (Mw (w:=w) (m:=aV n p tg sh mo) (wd:=.str "shared") (n:=n) (o:=o) (tg:=tg) (sh:=sh) (mo:=mo) (q1:=g.length) (q2:=g.length+1) (x11:=oz) (x15:=none) (x16:=none) (x17:=none) aq (by rw[cG];lia) fl iR E fa sa) λx U=>?_;obtain⟨j9,ah,HU,tZ,oA,oB,hσ⟩:=U;refine⟨j9,?_⟩;rw[ah,hσ];have eL:dN (js (au n o sh) ks cs)++(fq n o tg (fs.zip ss)).map D.int=(iJ n o tg sh ks fs ss cs).map D.int:=by rw[iJ,Vq,E5];rfl
      rw[eL];have eG:(B ++ [dN (js (au n o sh) ks cs)]).set B.length ((iJ n o tg sh ks fs ss cs).map D.int)=B ++ [(iJ n o tg sh ks fs ss cs).map D.int]:=by simp
      rw[eG];have kr:=Rb (ks:=ks) (cs:=cs) (fs:=fs) (ss:=ss) (tg:=tg) (sh:=sh) (g:=B ++ [(iJ n o tg sh ks fs ss cs).map D.int]) (σ:=dg w o (aV n p tg sh mo) (.str "shared") n p tg sh mo g.length (g.length+1) HU (some (.lst fs)) (some (.lst ss)) (some (.ref B.length)) tZ oA oB) (q:=B.length) C H rfl (by simp);have e7:aH ay (ae f7 (ae (pB gb) af)) (dg w o (aV n p tg sh mo) (.str "shared") n p tg sh mo g.length (g.length+1) HU (some (.lst fs)) (some (.lst ss)) (some (.ref B.length)) tZ oA oB) (B ++ [(iJ n o tg sh ks fs ss cs).map D.int])=some (.tup [.lst ss,.lst (dN (eU n o tg sh ks fs ss cs))],B ++ [(iJ n o tg sh ks fs ss cs).map D.int]):=by have a0:∀G:G,f7 (dg w o (aV n p tg sh mo) (.str "shared") n p tg sh mo g.length (g.length+1) HU (some (.lst fs)) (some (.lst ss)) (some (.ref B.length)) tZ oA oB) G=some (.lst ss,G):=λ_=>rfl;rw[mN];simp only[bV,a0,kr,cF,nv];rfl
      refine⟨_,dE e7,?_⟩;have V5:Wv n p w Z b s Y c A (st++wZ n p o sh ks) (j++bK ks fs ss cs) (i+700) (B ++ [(iJ n o tg sh ks fs ss cs).map D.int]):=by
        have Ri:st++((au n o sh).zip ks).flatMap (OI o)++fW "box" p++fW "box" p++jD (cls "call" o (au n o sh))=st++wZ n p o sh ks:=by
         have e1:fW "box" p=jD (cU p):=by simp[fW,jD,cU,Ru]
         have e2:OI o=λq:Nat×Int=>[D.tup [.str "read",.tup [.str "call",.int q.1,.int o]],.tup [.str "write",bJ o q.1,.int q.2]]:=rfl;rw[e1,e2];simp[wZ,ox,jD]
        have Rj:j++cg (bI ks)++fs++ss++bI cs=j++bK ks fs ss cs:=by simp[bK]
        have V4:=a.V;rw[Ri,Rj]at V4;obtain⟨W,hd,a1,a2,a3,a4,a5⟩:=V4;have aW:Wv n p w Z b s Y c A (st++wZ n p o sh ks) (j++bK ks fs ss cs) (i+700) B:=⟨W,hd.mono (by lia),a1,a2,a3,a4,a5⟩
        exact aW.push λx U=>by simp only[nQ,vV,or_false]at U;subst U;exact eY λy hy=>by obtain⟨M,_,rfl⟩:=oa.mp hy;rfl
      have C8:∀M,M<g.length->M ∉ [w,Z,b,s,Y]->(B ++ [(iJ n o tg sh ks fs ss cs).map D.int])[M]? = g[M]?:=λM eR hi=>by rw[r_ (by lia),a.fr M (iB hi (by lia)),f3.2 M hi,f2.2 M hi,I.fr M (iB hi (by lia)),r_ eR]
      obtain⟨V6,f6⟩:=V.pop V5 (by simp;lia) C8;have aS:aO ss=true:=gy λx U=>(sa x U).bc.flat;refine⟨?_,?_,(show g.length<=(B ++ [(iJ n o tg sh ks fs ss cs).map D.int]).length by simp;lia),hQ _ ⟨ks,fs,ss,cs,rfl,R,V6,f6⟩⟩
      . simp[bU,aF,d9 _ aS,d9 _ (m9 (l:=eU n o tg sh ks fs ss cs))]
      . rw[Js]
        intro x U;obtain⟨M,hi⟩:=UX.mp U;have:=V6.bd M x hi;rw[f6.1]at this;exact this
 obtain⟨⟨d,O⟩,e,ks,fs,ss,cs,rfl,h1,h2,h3⟩:=main _ λ_ Z=>Z;exact⟨ks,fs,ss,cs,O,e,h1,h2,h3⟩
def liI (see:Fn):FS:=b9 (ax (ag Aa (ag ao de ee) (ag ao cO la))) (aM (aj see (ae b0 (ae (aH ay (ae fy (ae ee af))) af)))) aR
def Rk (see:Fn):FS:=dB (dR (ae (ag ao cO cT) af)) (gN 6) (liI see)
def liD (see:Fn):FS:=av (dB (da d4) (gN 6) yO) (Rk see)
def liC (see:Fn):FS:=av (b9 (ax (ag oEq d4 (aH dI af))) (aM (aj gZ (ae (bC bD (da ef) [none,none] (gN 1) cC (ag ao bg dV)) af))) aR) (liD see)
def Rl (a see:Fn):FS:=av (aD (aj a (ae b0 (ae bg (ae cO af)))) (gT 2 (a_ (gN 4) (a_ (gN 5) fz)))) (liC see)
def JM (a see:Fn):FS:=av (aD (ag lP (aH dI (ae dV af)) (ag ao cO cT)) (gN 3)) (zR 1000000 (gW j3) (Rl a see))
def eX (n p o c:Nat)(rs:List R4):List D:=rs.flatMap λq=>wZ n p o c q.1
def eN (rs:List R4):List D:=(rs.map et).flatten
def lZ:Option Nat->List D
 |none=>[]|some j=>[.tup [.str "read",own "view" j]]
noncomputable def jf (v:D):Option Nat->List D
 |none=>[]|some _=>[v]
def pM (c:List D)(v:D):Option Nat->D
 |none=>.tup (c.map So)|some _=>v
def kI {sh:Nat}{rs:List R4}(h:∀q∈rs,fI n p o sh q):(eX n p o sh rs).length=rs.length*aT n p o sh:=by
 induction rs with
 |nil=>simp[eX]
 |cons q rs c =>
  have:=c λx b=>h x (by simp[b]);have a:=Ba (h q (by simp));unfold eX at this ⊢;rw[VJ,nh,this,xk,Il,a];unfold aT;lia
def jI {sh:Nat}{rs:List R4}(h:∀q∈rs,fI n p o sh q):(eN rs).length=rs.length*aT n p o sh:=by unfold eN;rw[lB (n:=aT n p o sh) (λw hw=>by obtain⟨q,a,rfl⟩:=oa.mp hw;exact(h q a).wl),ro]
def FX {sh:Nat}(d:n<=5)(a:p<=4):aT n p o sh<=30:=by have:=eZ (n:=n) (o:=o) (sh:=sh);unfold aT;lia
structure Lk (n p o tg sh mo:Nat)(w h b s r kq c:Nat)(ex st rd:List D)(B:Int)(g0:G)(rs:List R4)(g:G):Prop where
 V:Wv n p w h b s r kq ex (st++eX n p o sh rs) (rd++eN rs) (B+700*rs.length) g
 hc:g[c]? = some (cE (cI (rs.map (dA n o tg sh)) rs.length) n)
 all:∀q∈rs,fI n p o sh q
 go:∀k,k<rs.length->cM (.int mo) (rs.map (dA n o tg sh)) k
 lt:∀j,j<n->cI (rs.map (dA n o tg sh)) rs.length j<mo
 fr:cq [w,h,b,s,r,c] g0 g
def Rm {q:R4}(h:p∈dA n o s b q):p<n:=(fR.mp (Fp.mp h).1).1
def Lk.cH (L:Lk n p o Z Y O w C b s B d c A st j i a M g)(l:n<=5)(u:O<=4):M.length<=15:=by
 have mo:=Bh (mv:=.int O) (ps:=M.map (dA n o Z Y)) (n:=n) (λp v r h=>by obtain⟨q,_,rfl⟩:=oa.mp v;exact Rm h) (k:=M.length) (by simp) L.go;have e:=FF (f:=cI (M.map (dA n o Z Y)) M.length) (m:=3) n λr h=>by have:=L.lt r h;lia
 lia
structure QU (n p o tg sh mo:Nat)(w h b s r kq c:Nat)(ex st rd:List D)(B:Int)(g0:G)(rs:List R4)(q:R4)(en:Option Nat)(v:D)(g:G):Prop where
 V:Wv n p w h b s r kq ex (st++eX n p o sh (rs ++ [q])++lZ en) (rd++eN (rs ++ [q])++jf v en) (B+700*(rs.length+1)+31) g
 all:∀q∈rs,fI n p o sh q
 last:fI n p o sh q
 cH:rs.length<=15
 go:∀k,k<rs.length->cM (.int mo) ((rs ++ [q]).map (dA n o tg sh)) k
 ends:gP (.int mo) ((rs ++ [q]).map (dA n o tg sh)) rs.length en
 en:∀j,en=some j->j<n/\lX p v
 fr:cq [w,h,b,s,r,c] g0 g
def Rn {d e f:D}:cJ [v,m,ah,d,e,f] 1=some m:=rfl
def YC {d e f:D}:cJ [v,m,ah,d,e,f] 5=some f:=rfl
noncomputable def lD (w o c:Nat)(m:D)(x y z:Option D):Sg:=[some (.aA w),some (.int o),some m,some (.ref c),x,y,z]
def HV (r:mr n p o see h w Y b s c O A f)(V:Wv n p w Y b s c O A st j i g)(u:i+31<2 ^ 40)(ex:Z<n)(sz:st.length<=800)(e:j.length<=800):
  ∃v q,see [.aA w,own "view" Z] g=some (v,q)/\lX p v/\Wv n p w Y b s c O A (st ++ [.tup [.str "read",own "view" Z]]) (j ++ [v]) (i+31) q/\cq [w,Y,b,s,c] g q :=
 HR r.VZ V u ⟨Z,rfl⟩ (.inr (.inl ⟨Z,ex,rfl⟩)) rR (λx a=>by obtain⟨y,rfl,_,Y⟩:=a;simp only[flat];exact gy λd hd=>(Y d hd).1) sz e
def Ui {tg:Nat}{sh:Nat}{mo:Nat}(r:mr n p o see h w Z b s Y O A U){f:Nat->Nat}{o4 o5 o6:Option D}(V:Wv n p w Z b s Y O A st j i g)(H:g[c]? = some (cE f n))(I:n<=5)(E:i+31<2 ^ 40)(sz:st.length<=800)(C:j.length<=800):ni (Rk see (lD w o c (aV n p tg sh mo) o4 o5 o6) g) λx=>(∃B v,B<n/\mo<=f B/\(∀ex,ex<B->f ex<mo)/\x.1 = .rt v/\lX p v/\Wv n p w Z b s Y O A (st ++ [.tup [.str "read",own "view" B]]) (j ++ [v]) (i+31) x.2.2/\cq [w,Z,b,s,Y] g x.2.2)\/(x.1 = .nx/\x.2.2=g/\(∀ex,ex<n->f ex<mo) /\ ∃J,x.2.1=lD w o c (aV n p tg sh mo) o4 o5 J):=by
 unfold Rk;rw[gG,iu (n:=n) (g1:=g) (by simp[lD,fj,bb,Rn]) (by lia),nv];refine fG (λB M l=>l=g/\(∀ex,ex<B->f ex<mo) /\ ∃J,M=lD w o c (aV n p tg sh mo) o4 o5 J) _ 0 _ _ ⟨rfl,λex z=>by lia,o6,rfl⟩ ?_ ?_
 . rintro B d M l Q ⟨rfl,q,J,rfl⟩
   obtain⟨u,rfl⟩:=dj Q;simp only[uB]at *;have u:B<n:=by simpa using u
   refine⟨(lD w o c (aV n p tg sh mo) o4 o5 (some (.int B)),l),rfl,?_⟩;dsimp only;have a:=gC (iL (f:=f) u);have t:ax (ag Aa (ag ao de ee) (ag ao cO la)) (lD w o c (aV n p tg sh mo) o4 o5 (some (.int B))) l=some (decide (mo<=f B),l):=by have e:((mo:Int)<=(f B:Int))=(mo<=f B):=propext (by lia);simp[lD,fj,bb,H,a,YC,fg,e]
   by_cases hm:mo<=f B
   . rw[decide_eq_true hm]at t
     refine pC (HV r V E u sz C) λv R X y V2 f2=>?_;have ec:aj see (ae b0 (ae (aH ay (ae fy (ae ee af))) af)) (lD w o c (aV n p tg sh mo) o4 o5 (some (.int B))) l=some (v,R):=X;exact⟨_,(lz t).trans (dE ec),.inl ⟨B,v,u,hm,q,rfl,y,V2,f2⟩⟩
   . rw[decide_eq_false hm]at t
     refine⟨_,(cX t).trans rfl,rfl,λex z=>?_,_,rfl⟩;by_cases e:ex=B
     . subst e;lia
     . exact q ex (by lia)
 . rintro M l ⟨rfl,q,J,rfl⟩
   rw[cA,uB]at q;exact .inr ⟨rfl,rfl,q,J,rfl⟩
def qm (n p o x c mo w h b s r y:Nat)(ex:List D)(round:Fn):Prop:=∀{st u:List D} {B:Int} {g:G},Wv n p w h b s r y ex st u B g->B+1000<2 ^ 40->st.length<=600->u.length<=600->∃i fs q cs v,round [.aA w,.int o,aV n p x c mo] g=some (.tup [.lst q,.lst (dN (eU n o x c i fs q cs))],v)/\Rg n p o c i fs q cs/\Wv n p w h b s r y ex (st++wZ n p o c i) (u++bK i fs q cs) (B+700) v/\cq [w,h,b,s,r] g v
def Uj {tg:Nat}{sh:Nat}{mo:Nat}{h:Nat}{g0:G}{rs:List R4}(K:qm n p o tg sh mo w h b s Z Y A Q)(r:mr n p o see X w h b s Z Y A f)(I:n<=5)(J:p<=4)(mv:1<=mo)(N:mo<=4)(E:c ∉ [w,h,b,s,Z])(H:c≠Y)(P:i+20000<2 ^ 40)(sz:st.length<=100)(O:j.length<=100){o4 o5 o6:Option D}(L:Lk n p o tg sh mo w h b s Z Y c A st j i g0 rs g):
   ni (Rl Q see (lD w o c (aV n p tg sh mo) o4 o5 o6) g) λx=>(∃q en v,x.1 = .rt (pM q.2.2.1 v en)/\QU n p o tg sh mo w h b s Z Y c A st j i g0 rs q en v x.2.2)\/(x.1 = .nx/\(∃q,Lk n p o tg sh mo w h b s Z Y c A st j i g0 (rs ++ [q]) x.2.2) /\ ∃J p5 p6,x.2.1=lD w o c (aV n p tg sh mo) J p5 p6):=by
 have cH:=L.cH I N;have aq:=FX (o:=o) (sh:=sh) I J;have hmul:rs.length*aT n p o sh<=15*30:=afo cH aq;have s1:=kI L.all;have r1:=jI L.all;refine Ym (K L.V (by lia) (by rw[nh];lia) (by rw[nh];lia)) λks fs ss cs g1 e1 R V1 f1=>?_;have Ri:st++eX n p o sh rs++wZ n p o sh ks=st++eX n p o sh (rs ++ [(ks,fs,ss,cs)]):=by simp[eX]
 have Rj:j++eN rs++bK ks fs ss cs=j++eN (rs ++ [(ks,fs,ss,cs)]):=by simp[eN,et]
 rw[Ri,Rj,show i+700*(rs.length:Int)+700=i+700*((rs.length:Int)+1) by lia]at V1;have xx:=(f1.2 c E).trans L.hc;have gR:c<g1.length:=(nz.mp xx).1;have y:∀B∈eU n o tg sh ks fs ss cs,B<n:=λB U=>(fR.mp (Fp.mp U).1).1;have ab:=tX (n:=n) (o:=o) (tg:=tg) (sh:=sh) (ks:=ks) (fs:=fs) (ss:=ss) (cs:=cs);have ar:=L.lt;have ep:(rs ++ [(ks,fs,ss,cs)]).map (dA n o tg sh)=rs.map (dA n o tg sh) ++ [eU n o tg sh ks fs ss cs]:=by simp[dA]
 have lp:(rs.map (dA n o tg sh)).length=rs.length:=by simp
 have go':∀k,k<rs.length->cM (.int mo) ((rs ++ [(ks,fs,ss,cs)]).map (dA n o tg sh)) k:=λk H=>by rw[ep];exact HM (by rw[lp];exact H) (L.go k H)
 have V_:cq [w,h,b,s,Z,c] g0 g1:=L.fr.trans ⟨f1.1,λB U=>f1.2 B λz=>U (ads [c] z)⟩;have l:((rs ++ [(ks,fs,ss,cs)]).map (dA n o tg sh)).getD rs.length []=eU n o tg sh ks fs ss cs:=by rw[ep,<- lp];exact baN
 have u:cI ((rs ++ [(ks,fs,ss,cs)]).map (dA n o tg sh)) (rs.length+1)=cY (cI (rs.map (dA n o tg sh)) rs.length) (eU n o tg sh ks fs ss cs):=by funext ex;simp only[cI,cY];rw[l,ep,rO (by rw[lp];exact nA _)]
 have sL:(st++eX n p o sh (rs ++ [(ks,fs,ss,cs)])).length<=700:=by
   have:=kI (rs:=rs ++ [(ks,fs,ss,cs)]) (n:=n) (p:=p) (o:=o) (sh:=sh) λq E=>by
     rcases nY.mp E with z|z
     . exact L.all q z
     . simp at z;subst z;exact R
   rw[nh,this,nh,F4,Il];lia
 have rL:(j++eN (rs ++ [(ks,fs,ss,cs)])).length<=700:=by
   have:=jI (rs:=rs ++ [(ks,fs,ss,cs)]) (n:=n) (p:=p) (o:=o) (sh:=sh) λq E=>by
     rcases nY.mp E with z|z
     . exact L.all q z
     . simp at z;subst z;exact R
   rw[nh,this,nh,F4,Il];lia
 generalize eU n o tg sh ks fs ss cs=M at *;generalize cI (rs.map (dA n o tg sh)) rs.length=C at *;refine cj (σ1:=lD w o c (aV n p tg sh mo) (some (.lst ss)) (some (.lst (dN M))) o6) (g1:=g1) (by simp[lD,e1,VQ]) ?_;by_cases h0:M = []
 . subst h0
   have zs:az ss.length=true:=aI (by rw[R.sl];lia);have cm:=d5 (t:=gN 1) (c:=cC) (e:=ag ao bg dV) (h:=So) (λσ=>∃a,σ = [none,a]) ss [none,none] g1 ⟨_,rfl⟩ (by rintro t hm σ ⟨a,rfl⟩;obtain⟨v,a,t,rfl,hv⟩:=R.sa t hm;exact⟨[none,some (.tup [v,.int a,.int t])],by simp,by simp,by simp[fj,bb,JC];rfl,⟨_,rfl⟩⟩)
   refine⟨_,gM (g1:=g1) (d:=.tup (ss.map So)) (g2:=g1) rfl (by simp[lD,da,bb,cu,zs,cm,bD]),.inl ⟨(ks,fs,ss,cs),none,.aB,rfl,?_,L.all,R,cH,go',l,(λB z=>by cases z),V_⟩⟩;simp only[lZ,jf,wQ];exact V1.mono (by lia)
 . have q:oEq (.lst (dN M)) (.lst []) g1=some (.bl false,g1):=by
     have fl:aO (dN M)=true:=gy λd hd=>by simp only[dN,oa]at hd;obtain⟨B,_,rfl⟩:=hd;rfl
     have dl:bF (dN M)<=5:=m_ λd hd=>by simp only[dN,oa]at hd;obtain⟨B,_,rfl⟩:=hd;simp[dep]
     obtain⟨x,xs,A⟩:=afQ (λz=>h0 (ahi.mp z):dN M ≠ []);rw[A]at fl dl ⊢;have d2:dep (.lst (x::xs))<=60:=by simp only[dep];lia
     have f3:flat x=true/\aO xs=true:=by simpa[aO]using fl
     simp[oEq,d2,flat,aO,bq,gY,f3]
   obtain⟨p6,i1⟩:=yP (n:=n) (c:=c) (a0:=.aA w) (a1:=.int o) (a2:=aV n p tg sh mo) (a4:=.lst ss) (a5:=.lst (dN M)) M C g1 o6 y ab xx;refine cj (σ1:=lD w o c (aV n p tg sh mo) (some (.lst ss)) (some (.lst (dN M))) o6) (g1:=g1) ?_ (cj (f1:=dB (da d4) (gN 6) yO) i1 ?_)
   . rw[cX (g1:=g1)];· rfl
     rw[cw];exact congrArg fg q
   have V2:=V1.other E H (xs:=cE (cY C M) n) vI;have lG:=tv (a:=cE (cY C M) n) gR;have Wa:cq [w,h,b,s,Z,c] g0 (g1.set c (cE (cY C M) n)):=V_.trans (cq.set (by simp));refine NT (Ui (tg:=tg) (sh:=sh) (mo:=mo) (o4:=some (.lst ss)) (o5:=some (.lst (dN M))) (o6:=p6) r V2 lG I (by lia) (by lia) (by lia)) λx hx=>?_;rcases hx with⟨B,v,U,hm,bP,Ro,pv,V3,f3⟩|⟨j9,hg,bP,p6',hσ⟩
   . refine .inl ⟨(ks,fs,ss,cs),some B,v,Ro,?_⟩
     have lt:=ar B U;have jm:B∈M/\cY C M B=mo:=by
       unfold cY at hm ⊢;by_cases z:B∈M
       . rw[if_pos z]at hm ⊢;exact⟨z,by lia⟩
       . rw[if_neg z]at hm;lia
     have Ir:cq [w,h,b,s,Z,c] g0 x.2.2:=Wa.trans ⟨f3.1,λB U=>f3.2 B λz=>U (ads [c] z)⟩;refine⟨V3,L.all,R,cH,go',⟨by rw[l];exact h0,?_,λk JN=>?_⟩,(λex z=>by cases z;exact⟨U,pv⟩),Ir⟩
     . rw[l,u];exact uJ.mpr jm
     . rw[l,u]at JN
       obtain⟨_,k2⟩:=uJ.mp JN;by_cases z:B<=k
       . exact z
       . have:=bP k (by lia);lia
   . refine .inr ⟨j9,⟨(ks,fs,ss,cs),?_⟩,_,_,p6',hσ⟩
     rw[hg];have ll:(rs ++ [(ks,fs,ss,cs)]).length=rs.length+1:=by simp
     refine⟨by rw[ll,aii];exact V2,by rw[ll,u];exact lG,λq ck=>?_,λk JN=>?_,by rw[ll,u];exact bP,Wa⟩
     . rcases nY.mp ck with z|z
       . exact L.all q z
       . simp at z;subst z;exact R
     . rw[ll]at JN
       by_cases z:k<rs.length
       . exact go' k z
       . obtain rfl:k=rs.length:=by lia
         refine⟨by rw[l];exact h0,?_⟩;rw[l,u];refine List.filter_eq_nil_iff.mpr λB U ah=>?_;have aC:=uJ.mp (Fp.mpr ⟨U,ah⟩);have:=bP B (y B U);lia
theorem Bo (J:qm n p o Z Y O w C b s B d A X)(ex:mr n p o see h w C b s B d A f)(l:n<=5)(mo:p<=4)(I:1<=O)(u:O<=4)(x:c ∉ [w,C,b,s,B])(H:c≠d)(z:i+20000<2 ^ 40)(sz:st.length<=100)(y:j.length<=100):∀(Q M:Nat) (rs:List R4) (g:G) (o4 o5 o6:Option D),Q<M->16<=rs.length+Q->Lk n p o Z Y O w C b s B d c A st j i a rs g ->
  ∃Rp q en v R U,lI (gW j3) (Rl X see) M (lD w o c (aV n p Z Y O) o4 o5 o6) g=some (.rt (pM q.2.2.1 v en),R,U)/\QU n p o Z Y O w C b s B d c A st j i a Rp q en v U
 | 0,M+1,rs,g,o4,o5,o6,hf,hr,L=>by have:=L.cH l u;lia
 |Q+1,M+1,rs,g,o4,o5,o6,hf,hr,L=>by
  obtain⟨⟨r,sh,rd⟩,A,kq⟩:=Uj (o4:=o4) (o5:=o5) (o6:=o6) J ex l mo I u x H z sz y L;rcases kq with⟨q,en,v,Ro,E⟩|⟨j9,⟨q,L'⟩,Bp,p5,p6,hσ⟩
  . cases Ro
    exact⟨rs,q,en,v,sh,rd,CD rfl A,E⟩
  . cases j9
    cases hσ;obtain⟨Rp,tg,en,v,R,U,e,E⟩:=Bo J ex l mo I u x H z sz y Q M (rs ++ [q]) rd Bp p5 p6 (by lia) (by simp;lia) L';exact⟨Rp,tg,en,v,R,U,(CC rfl A).trans e,E⟩
def Bq (i:∀x∈A,BC x)(f:∀j,y=some j->j<n/\lX p v):flat (pM A v y)=true/\dep (pM A v y)<=50:=by
 have c:∀l:List D,(∀d∈l,vG d)->flat (.tup l)=true/\dep (.tup l)<=50:=λl b=>by refine⟨by simp only[flat];exact gy λd hd=>(b d hd).1,?_⟩;have:=m_ (k:=10) λd hd=>qJ (b d hd).2 (by decide);simp only[dep];lia
 cases y with
 |none =>
  refine c _ λd hd=>?_;obtain⟨x,e,rfl⟩:=oa.mp hd;obtain⟨v,a,t,rfl,b⟩:=i x e;exact b
 |some j =>
  obtain⟨_,g,rfl,_,h⟩:=f j rfl;exact c g h
structure FD (n p o tg sh mo:Nat)(w h b s r kq:Nat)(ex st rd:List D)(B:Int)(g:G)(rs:List R4)(q:R4)(en:Option Nat)(v:D)(g':G):Prop where
 V:Wv n p w h b s r kq ex (st++eX n p o sh (rs ++ [q])++lZ en) (rd++eN (rs ++ [q])++jf v en) (B+12000) g'
 all:∀q∈rs,fI n p o sh q
 last:fI n p o sh q
 cH:rs.length<=15
 go:∀k,k<rs.length->cM (.int mo) ((rs ++ [q]).map (dA n o tg sh)) k
 ends:gP (.int mo) ((rs ++ [q]).map (dA n o tg sh)) rs.length en
 en:∀j,en=some j->j<n/\lX p v
 fr:cq [w,h,b,s,r] g g'
def Mx {tg:Nat}{sh:Nat}{mv:List D}(L:qm n p o tg sh Z w Y b s O C A X)(mo:mr n p o see h w Y b s O C A mv)(H:n<=5)(J:p<=4)(K:1<=Z)(M:Z<=4)(I:i+20000<2 ^ 40)(V:Wv n p w Y b s O C A st j i g)(sz:st.length<=100)(ex:j.length<=100):
  ∃rs q en v Q,ak false 7 3 (JM X see) [.aA w,.int o,aV n p tg sh Z] g=some (pM q.2.2.1 v en,Q)/\FD n p o tg sh Z w Y b s O C A st j i g rs q en v Q:=by
 obtain⟨U,lh,z,ls,lr,lk⟩:=V.JJ;have hq:g.length ∉ [w,Y,b,s,O]:=CA U lh z ls lr (nA _);have f:fK (n:Int)=true:=fK.of (by lia) (by lia);have zn:az n=true:=aI (by lia);have V0:=V.push (xs:=[cE (λ_=>0) n]) λx a=>by simp at a;subst a;exact vI
 have L0:Lk n p o tg sh Z w Y b s O C g.length A st j i (g ++ [cE (λ_=>0) n]) [] (g ++ [cE (λ_=>0) n]):=⟨by simpa[eX,eN]using V0,by simp;rfl,by simp,by simp,λr _=>by show 0<Z;lia,.refl⟩
 obtain⟨rs,q,en,v,σ',R,e,E⟩:=Bo (c:=g.length) L mo H J K M hq (by lia) I sz ex 16 1000000 [] (g ++ [cE (λ_=>0) n]) none none none (by lia) (by simp) L0;obtain⟨ff,dd⟩:=Bq E.last.sa E.en;have ab:R.length=g.length+1:=by rw[E.fr.1];simp
 obtain⟨u,y⟩:=V.pop E.V (by lia) λB eR d=>by rw[E.fr.2 B (iB d (by lia)),r_ eR]
 have cH:=E.cH;have main:ni (ak false 7 3 (JM X see) [.aA w,.int o,aV n p tg sh Z] g) λx=>x=(pM q.2.2.1 v en,R.take g.length):=by
  refine mO rfl ?_;have s1:aD (ag lP (aH dI (ae dV af)) (ag ao cO cT)) (gN 3) ([D.aA w,.int o,aV n p tg sh Z].map some++nW (7-3) none) g=some (.nx,[some (.aA w),some (.int o),some (aV n p tg sh Z),some (.ref g.length),none,none,none],g ++ [cE (λ_=>0) n]):=by rw[<- rep0];have z1:az 1=true:=rfl;simp[fj,bb,Rn,z1,lP,f,zn]
  unfold JM;rw[jY s1];refine⟨_,e,?_⟩;dsimp only;refine⟨bQ _ ff,?_,by lia,rfl⟩;rw[Js];intro x a;obtain⟨B,d⟩:=UX.mp a;have:=u.bd B x d;rw[y.1]at this;exact this
 obtain⟨x,l,rfl⟩:=main;exact⟨rs,q,en,v,_,l,u.mono (by lia),E.all,E.last,cH,E.go,E.ends,E.en,y⟩
def JO (a:n<M.length):M=M.take n++M[n]::M.drop (n+1):=by rw[<- Ws a,agM]
def Rq (h:∀q∈M,fI n p o Z q)(d:s<M.length)(f:b<aT n p o Z):(eX n p o Z M)[s*aT n p o Z+b]? = (wZ n p o Z M[s].1)[b]?:=by
 have a:(eX n p o Z (M.take s)).length=s*aT n p o Z:=by rw[kI λq g=>h q (O4 g),Aq];congr 1;lia
 have c:(wZ n p o Z M[s].1).length=aT n p o Z:=Ba (h _ (Ds d));have e:eX n p o Z M=eX n p o Z (M.take s)++(wZ n p o Z M[s].1++eX n p o Z (M.drop (s+1))):=by refine(congrArg (eX n p o Z) (JO d)).trans ?_;unfold eX;rw[afh,VJ]
 rw[e,CY (by lia),a,W3,r_ (by lia)]
def HW {sh:Nat}(h:∀q∈M,fI n p o sh q)(d:s<M.length)(f:b<aT n p o sh):(eN M).take (s*aT n p o sh+b)=((M.take s).map et).flatten++(et M[s]).take b:=by
 have a:(((M.take s).map et).flatten).length=s*aT n p o sh:=by have:=jI (n:=n) (p:=p) (o:=o) (sh:=sh) (rs:=M.take s) λq g=>h q (O4 g);rw[Aq,Nat.min_eq_left (by lia)]at this;exact this
 have c:(et M[s]).length=aT n p o sh:=(h _ (Ds d)).wl;have e:eN M=((M.take s).map et).flatten++(et M[s]++eN (M.drop (s+1))):=by refine(congrArg eN (JO d)).trans ?_;unfold eN;rw[Vq,x8,List.flatten_append,Qx]
 rw[e,aeU,a,W3,Jt (by lia),aeU,c,Nat.sub_eq_zero_of_le (by lia),aiC,wQ]
abbrev Rt (num g c colF:Fn)(Rr R':Str->Option Fn)(nm nm2:Str):Fn:=ak false 6 3 (vC num g c (ak false 10 5 (iq Rr)) (ak false 6 3 (vt c colF (ak false 5 4 (oq R')) nm2)) (ak false 4 3 (ke g c)) nm vH)
def HY {q:R4}(hR:Rr x=some (dw (cy 2 1 (pG (ng h Q z u)))))(I:R' nm2=some (dw (cy 0 1 b0)))(S:iK m n p o s b Z h Q z u)(H:∀g,see [m] g=some (.tup (cU p),g))(all:∀r∈M,fI n p o b r)(A:fI n p o b q)(cH:M.length<=15)(C:∀k,k<M.length->cM (.int Z) ((M ++ [q]).map (dA n o s b)) k)(B:gP (.int Z) ((M ++ [q]).map (dA n o s b)) M.length y)(i:Nat)(E:i<(eN (M ++ [q])++jf v y).length):
   ∃J num,(eX n p o b (M ++ [q])++lZ y)[i]? = some J/\Rt h Q u see Rr R' x nm2 [m,.int o,.tup ((eN (M ++ [q])++jf v y).take i)] g=some (.tup [J,num],g):=by
 have en:∀r∈M ++ [q],fI n p o b r:=λr a=>by
   rcases nY.mp a with a|a
   . exact all r a
   . simp at a;subst a;exact A
 have p1:=S.p1;have sp:1<=aT n p o b:=by unfold aT;lia
 have rl:=jI en;have l:=kI en;by_cases O:i<(eN (M ++ [q])).length
 . rw[rl,nh,F4]at O
   have R:i / aT n p o b<M.length+1:=Nat.div_lt_of_lt_mul (by rw[XU];exact O);have hm:i % aT n p o b<aT n p o b:=ah8 _ (by lia);have d:i=i / aT n p o b*aT n p o b+i % aT n p o b:=by rw[XU];exact(Nat.div_add_mod i _).symm
   have U:(eX n p o b (M ++ [q])++lZ y)[i]? = (eX n p o b (M ++ [q]))[i]?:=r_ (by rw[l,nh,F4];exact O);have Y:(eN (M ++ [q])++jf v y).take i=(eN (M ++ [q])).take i:=ac9 (by rw[rl,nh,F4];lia);rw[U,Y];generalize i / aT n p o b=k at R d;generalize i % aT n p o b=j at hm d;subst d;have f:k<(M ++ [q]).length:=by simpa using R
   have W:lV n p o b ((M ++ [q]).take k):=⟨λp tg=>en p (O4 tg),by rw[Aq];lia⟩
   obtain⟨J,num,hx,ex⟩:=CK (g:=g) (scF:=ak false 4 3 (ke Q u)) (X:=vH) hR I S H W (r:=(M ++ [q])[k]) (en _ (Ds f)) hm (λc mo=>by rw[Aq]at mo;rw[List.map_take];exact FJ (by lia) (C c (by lia)))
   refine⟨J,num,by rw[Rq en f hm];exact hx,?_⟩;rw[HW en f hm];exact ex
 . cases y with
   |none=>simp[jf]at E;lia
   |some j =>
     have d:i=(eN (M ++ [q])).length:=by simp[jf]at E;lia
     subst d;rw[aeB];obtain⟨num,e⟩:=CL (g:=g) (step:=ak false 6 3 (vt u see (ak false 5 4 (oq R')) nm2)) (scF:=ak false 4 3 (ke Q u)) hR S ⟨all,by lia⟩ A (by lia) C B;refine⟨_,num,?_,e⟩;rw[rl,<- l,CY (nA _),Vc];rfl
def My {sh:Nat}{colF:Fn}{rs:List R4}{q:R4}{rest:List D}(hR:Rr x=some (dw (cy 2 1 (pG (ng h Q z u)))))(S:iK m n p o s sh b h Q z u)(e:y≠none->flat v=true)(en:∀mo∈rest,flat mo=true)(all:∀r∈rs,fI n p o sh r)(a:fI n p o sh q)(cH:rs.length<=15)(d:∀k,k<rs.length->cM (.int b) ((rs ++ [q]).map (dA n o s sh)) k)(c:gP (.int b) ((rs ++ [q]).map (dA n o s sh)) rs.length y):
  Rt h Q u colF Rr R' x nm2 [m,.int o,.tup (eN (rs ++ [q])++jf v y++rest)] g=some (.tup [.tup [.str "told",pM q.2.2.1 v y],.int ((eN (rs ++ [q])++jf v y).length:Nat)],g):=by
 have rl:=jI (n:=n) (p:=p) (o:=o) (sh:=sh) (rs:=rs ++ [q]) λr en=>by
  rcases nY.mp en with en|en
  . exact all r en
  . simp at en;subst en;exact a
 cases y with
 |none =>
  have i:=zx (g:=g) (X:=vH) (step:=ak false 6 3 (vt u colF (ak false 5 4 (oq R')) nm2)) hR S ⟨all,by lia⟩ a (by lia) (rest:=rest) en d c;rw[show jf v none = [] from rfl,wQ,rl,nh,F4];exact i
 |some j =>
  have i:=CM (g:=g) (step:=ak false 6 3 (vt u colF (ak false 5 4 (oq R')) nm2)) (scF:=ak false 4 3 (ke Q u)) hR S ⟨all,by lia⟩ a (by lia) (rest:=rest) (e (by simp)) en d c;rw[zU,nh,rl,nh,F4];exact i
def Wb (take value:Fn):FS:=aD (aH ay (ae (aj value (ae b0 af)) (ae (ag (bX dJ (· - ·)) (aj take (ae b0 (ae (ag bo de cT) af))) cT) (ae (aj take (ae b0 (ae eh af))) af)))) (dP d4 (aH ay (ae ft (ae ee af))))
def Wc (state:Fn):FS:=aD (aj state (ae b0 (ae ef af))) (dP d4 (aH ay (ae fy (ae fb af))))
def FZ (take:Fn)(nm:Str):FS:=aD (aj take (ae b0 (ae eh af))) (dP d4 (aH ay (ae (fC (.str nm)) (ae fb (ae fc af)))))
def HZ (take value:Fn):FS:=dB (dR (ae ef af)) (gN 6) (Wb take value)
def H0 (take state:Fn):FS:=dB (dR (ae de af)) (gN 7) (av (Wc state) (dB (dR (ae de af)) (gN 8) (av (FZ take "sign") (FZ take "call"))))
noncomputable def bσ (h:Nat)(m:D)(o n p b:Nat)(c g i q:Option D):Sg:=[some (.ref h),some m,some (.int o),some (.int n),some (.int p),some (.aA b),c,g,i,q]
structure BgB (n p b:Nat)(K:D->Prop)(N:Nat)(g:G)(bx:List D):Prop where
 hx:g[b]? = some bx
 ka:dS bx=true
 bl:bx.length<=2*N
 nb:aF 0 bx=true
 al:∀key,aU 6 key=true->K key->∃c,aJ bx key=some c/\typ n p key c
structure Bg (n p h b:Nat)(B:Int)(K:D->Prop)(N:Nat)(g:G):Prop where
 bx:∃bx,BgB n p b K N g bx
 hd:Hd g h (B+12*N)
 bd:Bd g
 len:g.length=b+1
def Bg.put (I:Bg n p o b i t s g)(O:o<b){c key:D}(f:p0 o g a)(A:Hd a o (i+12*s+12))(y:aU 6 key=true)(L:flat c=true)(C:typ n p key c)(M:s<=100){z:FE}(E:K l g=some (c,a))(J:z l a=some (key,a))(H:l[5]? = some (some (.aA b))):
   ∃Q,aD K (dP d4 z) l g=some (.nx,l,Q)/\Bg n p o b i (λk=>t k\/k=key) (s+1) Q:=by
 obtain⟨bx,u,N,x,nb,al⟩:=I.bx;have R:b≠o:=by lia
 have q:a[b]? = some bx:=by rw[f.2 _ R];exact u
 have r:iH bx=true:=by unfold iH;exact aI (by lia)
 have lt:b<a.length:=by rw[f.1,I.len];lia
 have d:bU 0 c=true:=bQ _ L;have B:bU 0 key=true:=bQ _ (fu key y).1;refine⟨a.set b (aP bx key c),?_,⟨_,tv lt,jC y N,?_,iC B d nb,λh j e=>?_⟩,?_,?_,?_⟩
 . rw[kE,E]
   simp[H,J,q,y,r]
 . have:=yL (k:=key) (v:=c) (xs:=bx);lia
 . by_cases K:h=key
   . subst K;exact⟨c,gw y N,C⟩
   . rw[kG y j (om K) N]
     exact al h j (e.resolve_right K)
 . have:=Hd.ne (xs:=aP bx key c) A R
   rw[show i+12*((s+1:Nat):Int)=i+12*s+12 by lia];exact this
 . exact(I.bd.fr f A).set (eM (tj _) (iC B d nb))
 . rw[S3,f.1,I.len]
def Bg.weak {K:D->Prop}(I:Bg n p o b i K s g)(r:∀k,t k->K k):Bg n p o b i t s g:=by obtain⟨l,d,j,a,q,f⟩:=I.bx;exact⟨⟨l,d,j,a,q,λh c e=>f h c (r h e)⟩,I.hd,I.bd,I.len⟩
section
variable {o7 o8 o9:Option D}
theorem Bg.box (z:c9 h)(E:jZ X)(I:Bg n p s b i t Z g)(C:s<b)(H:i+3000<2 ^ 40)(A:Z<=100)(J:n<=5){k:Nat}:∃O,Wb h X (bσ s m o n p b (some (.int k)) o7 o8 o9) g=some (.nx,bσ s m o n p b (some (.int k)) o7 o8 o9,O)/\Bg n p s b i (λx=>t x\/x=own "box" k) (Z+1) O:=by
 refine pC (E s g _ (by lia) I.hd) λv Q l a d R=>?_;refine fS (z s ((n:Int)+1) Q _ (by lia) (by lia) (by lia) d) λx U B x0 u M Y=>?_;refine fS (z s 2 U _ (by lia) (by decide) (by decide) M) λy g3 q r N f j=>?_;refine I.put C ((R.trans Y).trans j) (f.mono (by lia)) (c:=.tup [v,.int (x-1),.int y]) (key:=own "box" k) rfl (by simp[flat,aO,a.1]) ?_ A ?_ rfl rfl
 . rw[qj];exact⟨v,x-1,y,rfl,a,by lia,by lia⟩
 . have e:az 3=true:=rfl
   simp[bσ,l,B,q,e]
end
section
variable {B:Int}{o6 o8 o9:Option D}
theorem Bg.view (r:jE h)(I:Bg n p s b B t Z g)(q:s<b)(N:B+3000<2 ^ 40)(l:Z<=100)(u:p<=4){i:Nat}:∃v,Wc h (bσ s m o n p b o6 (some (.int i)) o8 o9) g=some (.nx,bσ s m o n p b o6 (some (.int i)) o8 o9,v)/\Bg n p s b B (λx=>t x\/x=own "view" i) (Z+1) v:=by
 refine fS (r s p g _ (by lia) (by lia) I.hd) λy E j f a e C=>?_;refine I.put q C (e.mono (by lia)) (c:=.tup y) (key:=own "view" i) rfl (by simp only[flat];exact gy λd hd=>(a d hd).1) ?_ l ?_ rfl rfl
 . rw[rR];exact⟨y,rfl,f,a⟩
 . simp[bσ,j]
end
def Bg.bit {B:Int}{o6:Option D}{o9:Option D}{nm:Str}(r:aU 6 (.tup [.str nm,.int (0:Int),.int (0:Int)])=true)(f:c9 h)(I:Bg n p s b B t Z g)(q:s<b)(N:B+3000<2 ^ 40)(l:Z<=100){i j:Nat}:∃u,FZ h nm (bσ s m o n p b o6 (some (.int i)) (some (.int j)) o9) g=some (.nx,bσ s m o n p b o6 (some (.int i)) (some (.int j)) o9,u)/\Bg n p s b B (λx=>t x\/x = .tup [.str nm,.int i,.int j]) (Z+1) u:=by refine fS (f s 2 g _ (by lia) (by decide) (by decide) I.hd) λx y d C e a v=>?_;refine I.put q v (a.mono (by lia)) (c:=.int x) (key:=.tup [.str nm,.int i,.int j]) rfl rfl ⟨x,rfl⟩ l ?_ rfl rfl;simp[bσ,d]
def Kv (n p i j:Nat)(g:D):Prop:=(∃k,k<p/\g=own "box" k)\/(∃k,(k<i\/k=i/\0<j)/\g=own "view" k)\/(∃a c,(a<i/\c<n\/a=i/\c+1<j)/\g=bJ a c)\/(∃a c,(a<i/\c<n\/a=i/\c+1<j)/\g=cZ a c)
def Mz (v:c9 h)(C:jZ X)(I:Bg n p s b i (λ_=>False) 0 g)(A:s<b)(x:i+3000<2 ^ 40)(y:n<=5)(E:p<=4):ni (HZ h X (bσ s m o n p b none none none none) g) λr=>r.1 = .nx/\(∃J,r.2.1=bσ s m o n p b J none none none)/\Bg n p s b i (Kv n p 0 0) p r.2.2:=by
 unfold HZ;rw[gG,iu (n:=p) (g1:=g) rfl (by lia),nv];refine fG (λk M l=>(∃J,M=bσ s m o n p b J none none none)/\Bg n p s b i (λH=>∃take,take<k/\H=own "box" take) k l) _ 0 _ _ ⟨⟨none,rfl⟩,I.weak λk f=>by obtain⟨take,B,_⟩:=f;lia⟩ ?_ ?_
 . rintro k d M l f ⟨⟨J,rfl⟩,j⟩
   obtain⟨q,rfl⟩:=dj f;simp only[uB]at *;have q:k<p:=by simpa using q
   obtain⟨O,e,u⟩:=Bg.box (m:=m) (o:=o) (o7:=none) (o8:=none) (o9:=none) (k:=k) v C j A x (by lia) y;refine⟨_,rfl,_,e,⟨_,rfl⟩,u.weak λH f=>?_⟩;obtain⟨take,B,rfl⟩:=f;by_cases z:take=k
   . subst z;exact .inr rfl
   . exact .inl ⟨take,by lia,rfl⟩
 . rintro M l ⟨⟨J,rfl⟩,j⟩
   rw[cA,uB]at j;refine⟨rfl,⟨J,rfl⟩,j.weak λH f=>?_⟩;rcases f with⟨k,f,rfl⟩|⟨k,f,rfl⟩|⟨a,c,f,rfl⟩|⟨a,c,f,rfl⟩
   . exact⟨k,f,rfl⟩
   . lia
   . lia
   . lia
def KO (n p i:Nat)(g:D):Prop:=(∃k,k<p/\g=own "box" k)\/(∃k,k<i/\g=own "view" k)\/(∃a c,a<i/\c<n/\g=bJ a c)\/(∃a c,a<i/\c<n/\g=cZ a c)
def KI (n p i j:Nat)(g:D):Prop:=KO n p i g\/g=own "view" i\/(∃c,c<j/\g=bJ i c)\/(∃c,c<j/\g=cZ i c)
def Rw {B:Int}{o6:Option D}{o8:Option D}(A:c9 h){i:Nat}(I:Bg n p s b B (KI n p i 0) Z g)(E:s<b)(C:B+3000<2 ^ 40)(H:n<=5)(J:Z<=80):ni (dB (dR (ae de af)) (gN 8) (av (FZ h "sign") (FZ h "call")) (bσ s m o n p b o6 (some (.int i)) o8 none) g) λr=>r.1 = .nx/\(∃o8,r.2.1=bσ s m o n p b o6 (some (.int i)) o8 none)/\Bg n p s b B (KO n p (i+1)) (Z+2*n) r.2.2:=by
 rw[gG,iu (n:=n) (g1:=g) rfl (by lia),nv];refine fG (λj M l=>(∃o8,M=bσ s m o n p b o6 (some (.int i)) o8 none)/\Bg n p s b B (KI n p i j) (Z+2*j) l) _ 0 _ _ ⟨⟨o8,rfl⟩,I⟩ ?_ ?_
 . rintro j d M l v ⟨⟨Q,rfl⟩,f⟩
   obtain⟨q,rfl⟩:=dj v;simp only[uB]at *;have q:j<n:=by simpa using q
   obtain⟨R,u,N⟩:=Bg.bit (m:=m) (o:=o) (o6:=o6) (o9:=none) (i:=i) (j:=j) (nm:="sign") rfl A f E C (by lia);obtain⟨U,x,y⟩:=Bg.bit (m:=m) (o:=o) (o6:=o6) (o9:=none) (i:=i) (j:=j) (nm:="call") rfl A N E C (by lia);refine⟨_,rfl,_,cL u x,⟨_,rfl⟩,?_⟩;rw[show Z+2*(j+1)=Z+2*j+1+1 by lia];refine y.weak λO e=>?_;rcases e with e|e|⟨c,hc,rfl⟩|⟨c,hc,rfl⟩
   . exact .inl (.inl (.inl e))
   . exact .inl (.inl (.inr (.inl e)))
   . by_cases z:c=j
     . subst z;exact .inl (.inr rfl)
     . exact .inl (.inl (.inr (.inr (.inl ⟨c,by lia,rfl⟩))))
   . by_cases z:c=j
     . subst z;exact .inr rfl
     . exact .inl (.inl (.inr (.inr (.inr ⟨c,by lia,rfl⟩))))
 . rintro M l ⟨⟨Q,rfl⟩,f⟩
   rw[cA,uB]at f;refine⟨rfl,⟨_,rfl⟩,f.weak λO e=>?_⟩;rcases e with e|⟨k,e,rfl⟩|⟨a,c,ha,hc,rfl⟩|⟨a,c,ha,hc,rfl⟩
   . exact .inl (.inl e)
   . by_cases z:k=i
     . subst z;exact .inr (.inl rfl)
     . exact .inl (.inr (.inl ⟨k,by lia,rfl⟩))
   . by_cases z:a=i
     . subst z;exact .inr (.inr (.inl ⟨c,hc,rfl⟩))
     . exact .inl (.inr (.inr (.inl ⟨a,c,by lia,hc,rfl⟩)))
   . by_cases z:a=i
     . subst z;exact .inr (.inr (.inr ⟨c,hc,rfl⟩))
     . exact .inl (.inr (.inr (.inr ⟨a,c,by lia,hc,rfl⟩)))
def Rx {B:Int}{o6:Option D}(E:c9 h)(L:jE X)(I:Bg n p s b B (KO n p 0) Z g)(C:s<b)(A:B+3000<2 ^ 40)(H:n<=5)(J:p<=4)(M:Z<=4):ni (H0 h X (bσ s m o n p b o6 none none none) g) λr=>r.1 = .nx/\(∃Q o8,r.2.1=bσ s m o n p b o6 Q o8 none)/\Bg n p s b B (Dm n p) 60 r.2.2:=by
 unfold H0;rw[gG,iu (n:=n) (g1:=g) rfl (by lia),nv];refine fG (λi R y=>(∃Q o8,R=bσ s m o n p b o6 Q o8 none)/\Bg n p s b B (KO n p i) (Z+11*i) y) _ 0 _ _ ⟨⟨none,none,rfl⟩,I⟩ ?_ ?_
 . rintro i d R y hi ⟨⟨v,q,rfl⟩,e⟩
   obtain⟨z,rfl⟩:=dj hi;simp only[uB]at *;have z:i<n:=by simpa using z
   obtain⟨g2,e2,I2⟩:=Bg.view (m:=m) (o:=o) (o6:=o6) (o8:=q) (o9:=none) (i:=i) L e C A (by lia) J;have I3:Bg n p s b B (KI n p i 0) (Z+11*i+1) g2:=I2.weak λO a=>by
    rcases a with a|a|⟨c,hc,_⟩|⟨c,hc,_⟩
    . exact .inl a
    . exact .inr a
    . lia
    . lia
   obtain⟨⟨f,σ3,g3⟩,U,rfl,⟨o8,rfl⟩,Y⟩:=Rw (m:=m) (o:=o) (o6:=o6) (o8:=q) E I3 C A H (by lia);dsimp only at U Y;refine⟨_,rfl,_,cL e2 U,⟨_,_,rfl⟩,?_⟩;obtain⟨⟨x,N,l,h3,j,u⟩,hd,bd,len⟩:=Y;exact⟨⟨x,N,l,by lia,j,u⟩,hd.mono (by lia),bd,len⟩
 . rintro R y ⟨⟨v,q,rfl⟩,e⟩
   rw[cA,uB]at e;obtain⟨⟨x,N,l,h3,j,u⟩,hd,bd,len⟩:=e;exact⟨rfl,⟨_,_,rfl⟩,⟨x,N,l,by lia,j,λO kk a=>u O kk a⟩,hd.mono (by lia),bd,len⟩
def Ry:FS:=aM eW
def YD:FS:=av (aD (aH ay (ae de (ae ef (ae cO af)))) (gT 3 (a_ (dP eW kn) (a_ (dP eW ku) (a_ (dP eW iF) fz))))) Ry
def YE:FS:=av (cQ (dD isRef jB (ag ao eW ir) (ae (bC bD (dR (ae de af)) [none,none,some 2] (gN 1) (ax (ag bf bg cO)) (aH ay (ae fw (ae bg (ae cO af))))) af))) YD
def YF:FS:=av (cQ (dD isRef jB (ag ao eW ir) (ae (bC bD (dR (ae de af)) [none,none,some 2] (gN 1) (ax (ag bf bg cO)) (aH ay (ae gk (ae bg (ae cO af))))) af))) YE
def JP:FE:=bC bD (dR (ae ef af)) [none,none] (gN 1) cC (aH ay (ae ft (ae bg af)))
def Rz:FE:=bC bD (dR (ae de af)) [none,none,some 2] (gN 1) (ax (ag bf bg cO)) (aH ay (ae fy (ae bg af)))
def YG:FS:=av (aD (ag pX JP Rz) (dP eW ir)) YF
def YH (take world:Fn):FS:=av (aD (aj world (ae b0 (ae d4 (ae (ag cP (aj take (ae b0 (ae kH af))) (aj iZ (ae (ag mM de cT) af))) af)))) (gN 9)) YG
def YI (take world state:Fn):FS:=av (H0 take state) (YH take world)
def YJ (take value world state:Fn):FS:=av (HZ take value) (YI take world state)
def YK (take value world state:Fn):FS:=av (aD kz (gN 5)) (YJ take value world state)
def RA (take value world state:Fn):FS:=av (mf 3 4 (ae (ag ao bg cT) (ae (ag ao bg eh) af))) (YK take value world state)
noncomputable def oC (n p o a:Nat):List D:=[.str "moving",.ref a,.str "hands",.int n,.str "places",.int p,.str "own",.int o]
def y_ (o n:Nat):List D:=((sv n).filter λj=>!(j == o)).map λj=>own "view" j
def ze (o n:Nat):List D:=((sv n).filter λj=>!(j == o)).map λj=>cZ j o
def rS {f:Nat->D}(a:∀j,flat (f j)=true)(c:∀j,dep (f j)<=5):aO (I.map f)=true/\bF (I.map f)<=50:=⟨gy λd hd=>by obtain⟨j,_,rfl⟩:=oa.mp hd;exact a j,m_ λd hd=>by obtain⟨j,_,rfl⟩:=oa.mp hd;exact qJ (c j) (by decide)⟩
def zf {e:FE}{f:Nat->D}(a:l[3]? = some (some (.int n)))(d:l[2]? = some (some (.int o)))(q:n<=5)(i:∀(j:Nat) (g:G),e [none,some (.int j),some (.int o)] g=some (f j,g))(h:G):bC bD (dR (ae de af)) [none,none,some 2] (gN 1) (ax (ag bf bg cO)) e l h=some (.lst (((sv n).filter λj=>!(j == o)).map f),h):=by obtain⟨_,c,rfl⟩:=Bi (n:=n) (o:=o) (g:=h) (f:=f) (e:=e) i;have p:az n=true:=aI (by lia);rw[gp,iu (g1:=h) (n:=n) (by simp[a]) (by lia)];simp only[nv,cA,p,if_true,show cu [none,none,some 2] l = [none,none,some (.int o)] by simp[cu,d],c];simp[bD]
def MA {h:Nat}{tg:Nat}{sh:Nat}{mo:Nat}{world:Fn}(E:c9 X)(K:jZ Q)(J:jE z)(hw:AV world)(I:1<=n)(A:n<=5)(O:1<=p)(H:p<=4)(C:Hd g h i)(M:i+4000<2 ^ 40)(L:Bd g):
   ∃g',ak true 10 3 (RA X Q world z) [.ref h,aV n p tg sh mo,.int o] g=some (.aA (g.length+1),g')/\Wv n p (g.length+1) h g.length (g.length+2) (g.length+3) (g.length+4) (oC n p o (g.length+4)) [] [] (i+800) g'/\g'.length=g.length+5:=by
 have bP:=C.lt;have zn:az n=true:=aI (by lia);have zp:az p=true:=aI (by lia);have z2:az 2=true:=rfl;have z3:az 3=true:=rfl;have I0:Bg n p h g.length i (λ_=>False) 0 (g ++ [[]]):=⟨⟨[],by simp,rfl,by simp,rfl,λ_ _ h=>h.elim⟩,by simpa using Hd.app C,L.app (by simp[aF]),by simp⟩
 obtain⟨⟨f,σ1,g1⟩,e1,rfl,⟨o6,rfl⟩,I1⟩:=Mz (m:=aV n p tg sh mo) (o:=o) E K I0 bP (by lia) A H;dsimp only at e1 I1;have aS:Bg n p h g.length i (KO n p 0) p g1:=I1.weak λkey hk=>by
   rcases hk with⟨k,hk,e⟩|⟨k,hk,_⟩|⟨a,c,hk,_⟩|⟨a,c,hk,_⟩
   . exact .inl ⟨k,hk,e⟩
   . lia
   . lia
   . lia
 obtain⟨⟨f,σ2,g2⟩,e2,rfl,⟨v,o8,rfl⟩,I2⟩:=Rx (m:=aV n p tg sh mo) (o:=o) (o6:=o6) E J aS bP (by lia) A H H;dsimp only at e2 I2;obtain⟨⟨bx,hx,ka,bl,nb,al⟩,hd2,aB,l2⟩:=I2;refine fS (E h 16 g2 _ (by lia) (by decide) (by decide) hd2) λy R e3 y0 y1 j_ f3=>?_;have gQ:g.length≠h:=by lia
 have ar:R[g.length]? = some bx:=by rw[f3.2 _ gQ];exact hx
 have l3:R.length=g.length+1:=by rw[f3.1,l2]
 have b3:=aB.fr f3 j_;obtain⟨x,ex,lq⟩:∃x:Int,ag cP (aj X (ae b0 (ae kH af))) (aj iZ (ae (ag mM de cT) af)) (bσ h (aV n p tg sh mo) o n p g.length o6 v o8 none) g2=some (.int x,R)/\LQ n x:=by
   have a1:aj X (ae b0 (ae kH af)) (bσ h (aV n p tg sh mo) o n p g.length o6 v o8 none) g2=some (.int y,R):=e3;by_cases value:2<=n
   . have a2:aj iZ (ae (ag mM de cT) af) (bσ h (aV n p tg sh mo) o n p g.length o6 v o8 none) R=some (.int 1,R):=by
      have:(1:Int)<n:=by lia
      simp[bσ,this]
     exact⟨y*1,by rw[cx a1 a2];exact(if_pos (iI (by lia) (by lia))).trans rfl,.inl value⟩
   . have a2:aj iZ (ae (ag mM de cT) af) (bσ h (aV n p tg sh mo) o n p g.length o6 v o8 none) R=some (.int 0,R):=by
      have:¬(1:Int)<n:=by lia
      simp[bσ,this]
     exact⟨y*0,by rw[cx a1 a2];exact(if_pos (iI (by lia) (by lia))).trans rfl,.inr (by simp)⟩
 have e4:=hw h g.length x R;rw[l3]at e4;have hP:∀W,W=W0 h g.length x (g.length+1+1) (g.length+1+2)->aP W (.str "moving") (.ref (g.length+4))=W ++ [.str "moving",.ref (g.length+4)]/\(∀B,aJ (W++(.str "moving" :: .ref (g.length+4)::B)) (.str "moving")=some (.ref (g.length+4)))/\aP (W ++ [.str "moving",.ref (g.length+4)]) (.str "hands") (.int n)=W ++ [.str "moving",.ref (g.length+4),.str "hands",.int n]/\aP (W ++ [.str "moving",.ref (g.length+4),.str "hands",.int n]) (.str "places") (.int p)=W ++ [.str "moving",.ref (g.length+4),.str "hands",.int n,.str "places",.int p]/\aP (W ++ [.str "moving",.ref (g.length+4),.str "hands",.int n,.str "places",.int p]) (.str "own") (.int o)=W++oC n p o (g.length+4)/\W.length=10:=λW hW=>by subst hW;exact⟨rfl,λ_=>rfl,rfl,rfl,rfl,rfl⟩
 generalize hW:W0 h g.length x (g.length+1+1) (g.length+1+2)=W at e4;obtain⟨JQ,Wf,a0,Bp,aq,wl⟩:=hP W hW.symm;have eB:∀G:G,dq (gN 1) cC (aH ay (ae ft (ae bg af))) (fT 0 p) [none,none] G=some (cU p,G):=λG=>by
   have c:=d5 (t:=gN 1) (c:=cC) (e:=aH ay (ae ft (ae bg af))) (h:=λd=>D.tup [.str "box",d]) (λU=>∃a,U = [none,a]) (fT 0 p) [none,none] G ⟨_,rfl⟩ (by rintro t hm U ⟨a,rfl⟩;exact⟨[none,some t],by simp,by simp,by simp[z2],_,rfl⟩)
   rw[c];simp[fT,cU,own,Ru]
 have eV:∀{U:Sg},U[3]? = some (some (.int n))->U[2]? = some (some (.int o))->∀G,Rz U G=some (.lst (y_ o n),G):=λr s=>zf (f:=own "view") r s A λj g=>by simp[z2,own]
 have eS:∀{U:Sg},U[3]? = some (some (.int n))->U[2]? = some (some (.int o))->∀G,bC bD (dR (ae de af)) [none,none,some 2] (gN 1) (ax (ag bf bg cO)) (aH ay (ae gk (ae bg (ae cO af)))) U G=some (.lst (yQ o n),G):=λr s=>zf (f:=λj=>bJ j o) r s A λj g=>by simp[z3,bJ]
 have eC:∀{U:Sg},U[3]? = some (some (.int n))->U[2]? = some (some (.int o))->∀G,bC bD (dR (ae de af)) [none,none,some 2] (gN 1) (ax (ag bf bg cO)) (aH ay (ae fw (ae bg (ae cO af)))) U G=some (.lst (ze o n),G):=λr s=>zf (f:=λj=>cZ j o) r s A λj g=>by simp[z3,cZ]
 have fl:∀f:Nat->D,(((sv n).filter λj=>!(j == o)).map f).length<=n:=λf=>by rw[ro];exact qJ (Z2 _ _) (by simp)
 have a4:(cU p).length=p:=by simp[cU]
 have a9:(y_ o n).length<=n:=fl _;have a6:(yQ o n).length<=n:=fl _;have a5:(ze o n).length<=n:=fl _;have f1:aO (cU p)=true/\bF (cU p)<=50:=rS (λ_=>rfl) (λ_=>by simp[own,dep,bF]);have f2:aO (y_ o n)=true/\bF (y_ o n)<=50:=rS (λ_=>rfl) (λ_=>by simp[own,dep,bF]);have f4:aO (ze o n)=true/\bF (ze o n)<=50:=rS (λ_=>rfl) (λ_=>by simp[cZ,dep,bF]);have Wh:aO (cU p++y_ o n++yQ o n++ze o n)=true:=pL (pL (pL f1.1 f2.1) yR.1) f4.1;have ab:bF (cU p++y_ o n++yQ o n++ze o n)<=50:=rP (rP (rP f1.2 f2.2) yR.2) f4.2;generalize cU p=Z at *;generalize y_ o n=b at *;generalize yQ o n=l at *;generalize ze o n=u at *;have Wi:aF 0 (Z++b++l++u)=true:=d9 _ Wh;have qI:∀(W:List D) (B:G),(R++(W::B))[g.length+1]? = some W:=λW B=>by rw[<- l3];simp
 have RB:∀(W Y:List D),(R ++ [W,[],[],Y])[g.length+4]? = some Y:=λW Y=>by rw[show g.length+4=R.length+3 by lia];simp
 have CP:∀(W W':List D) (B:G),(R++(W::B)).set (g.length+1) W'=R++(W'::B):=λW W' B=>by rw[<- l3];simp
 have RC:∀(W Y Y':List D),(R ++ [W,[],[],Y]).set (g.length+4) Y'=R ++ [W,[],[],Y']:=λW Y Y'=>by rw[show g.length+4=R.length+3 by lia];simp
 have W1:∀B:List D,B.length<=10->iH (W++B)=true:=λB hX=>aI (by simp;lia);have aC:iH W=true:=aI (by lia);have za:az (Z.length+b.length)=true:=aI (by lia);have a8:az Z.length=true:=aI (by lia);have a7:az b.length=true:=aI (by lia);have zs:az l.length=true:=aI (by lia);have zc:az u.length=true:=aI (by lia);have aW:az (Z.length+b.length+l.length)=true:=aI (by lia);have a3:az (Z.length+(b.length+l.length)+u.length)=true:=aI (by lia);have key:ni (ak true 10 3 (RA X Q world z) [.ref h,aV n p tg sh mo,.int o] g) λq=>q=(.aA (g.length+1),R ++ [W++oC n p o (g.length+4),[],[],Z++b++l++u]):=by
   refine Lg rfl (cj (σ1:=[some (.ref h),some (aV n p tg sh mo),some (.int o),some (.int n),some (.int p),none,none,none,none,none]) (g1:=g) rfl (cj (σ1:=bσ h (aV n p tg sh mo) o n p g.length none none none none) (g1:=g ++ [[]]) rfl (cj e1 (cj e2 ?_))));have ew:aj world (ae b0 (ae d4 (ae (ag cP (aj X (ae b0 (ae kH af))) (aj iZ (ae (ag mM de cT) af))) af))) (bσ h (aV n p tg sh mo) o n p g.length o6 v o8 none) g2=some (.aA (g.length+1),R ++ [W,[],[]]):=by have v0:b0 (bσ h (aV n p tg sh mo) o n p g.length o6 v o8 none) g2=some (.ref h,g2):=rfl;have v5:d4 (bσ h (aV n p tg sh mo) o n p g.length o6 v o8 none) g2=some (.aA g.length,g2):=rfl;simp only[gm,bV,v0,v5,ex,cF,nv,e4]
   refine gO ew ?_;generalize hσ:List.set _ 9 _=U;have r:U[3]? = some (some (.int n)):=by rw[<- hσ];rfl
   have i4:U[4]? = some (some (.int p)):=by rw[<- hσ];rfl
   have i9:U[9]? = some (some (.aA (g.length+1))):=by rw[<- hσ];rfl
   have s:U[2]? = some (some (.int o)):=by rw[<- hσ];rfl
   have r2:∀G,dR (ae ef af) U G=some (fT 0 p,G):=λG=>iu (by simp[i4]) (by lia);have cB:∀G,JP U G=some (.lst Z,G):=λG=>by unfold JP;rw[gp,r2];simp only[nv,cA,zp,if_true];rw[show cu [none,none] U = [none,none] from rfl,eB];simp[bD]
   refine cj (σ1:=U) (g1:=R ++ [W ++ [.str "moving",.ref (g.length+4)],[],[],Z++b]) ?_ (cj (σ1:=U) (g1:=R ++ [W ++ [.str "moving",.ref (g.length+4)],[],[],Z++b++l]) ?_ (cj (σ1:=U) (g1:=R ++ [W ++ [.str "moving",.ref (g.length+4)],[],[],Z++b++l++u]) ?_ (cj (σ1:=U) (g1:=R ++ [W++oC n p o (g.length+4),[],[],Z++b++l++u]) ?_ ?_)))
   . have ea:ag pX JP Rz U (R ++ [W,[],[]])=some (.ref (g.length+4),R ++ [W,[],[],Z++b]):=by
      rw[cx (cB _) (eV r s _)];simp[pX,fB,za,l3]
     rw[kE,ea];simp[i9,qI,fH,aC,JQ,CP]
   . have em:ag ao eW ir U (R ++ [W ++ [.str "moving",.ref (g.length+4)],[],[],Z++b])=some (.ref (g.length+4),R ++ [W ++ [.str "moving",.ref (g.length+4)],[],[],Z++b]):=by
      simp[i9,qI,fH,Wf]
     rw[show ∀f G,cQ f U G=(f U G).bind λq=>some (.nx,U,q.2) from λ_ _=>rfl,qc,em];simp only[nv,bV,eS r s,cF];simp[isRef,jB,fB,RB,aW,RC]
   . have em:ag ao eW ir U (R ++ [W ++ [.str "moving",.ref (g.length+4)],[],[],Z++b++l])=some (.ref (g.length+4),R ++ [W ++ [.str "moving",.ref (g.length+4)],[],[],Z++b++l]):=by
      simp[i9,qI,fH,Wf]
     rw[show ∀f G,cQ f U G=(f U G).bind λq=>some (.nx,U,q.2) from λ_ _=>rfl,qc,em];simp only[nv,bV,eC r s,cF];simp[isRef,jB,fB,RB,a3,RC]
   . simp[s,r,i4,i9,z3,qI,fH,W1,a0,Bp,aq,CP]
   . simp[Ry,i9]
 obtain⟨_,e,rfl⟩:=key;refine⟨_,e,?_,by simp;lia⟩;generalize hG:R ++ [W++oC n p o (g.length+4),[],[],Z++b++l++u]=G';have gl:G'.length=g.length+5:=by rw[<- hG];simp;lia
 have up:∀take,take<R.length->G'[take]? = R[take]?:=λtake hi=>by rw[<- hG];exact r_ hi
 have ah:G'[g.length+1]? = some (W0 h g.length x (g.length+2) (g.length+3)++oC n p o (g.length+4)):=by rw[<- hG,hW];exact qI _ _
 have N2:G'[g.length+2]? = some []:=by rw[<- hG,show g.length+2=R.length+1 by lia];simp
 have eT:G'[g.length+3]? = some []:=by rw[<- hG,show g.length+3=R.length+2 by lia];simp
 have kS:G'[g.length+4]? = some (Z++b++l++u):=by rw[<- hG];exact RB _ _
 have n9:G'[g.length]? = some bx:=by rw[up _ (by lia)];exact ar
 have fU:Hd G' h (i+800):=by rw[<- hG];exact(Hd.app j_).mono (by lia)
 have lW:aF G'.length (oC n p o (g.length+4))=true:=by simp[oC,aF,bU,gl]
 have W:p8 G' (g.length+1) h g.length (g.length+2) (g.length+3) (g.length+4) x (oC n p o (g.length+4)) bx [] []:=by
   refine⟨ah,n9,N2,eT,?_,rfl,⟨_,kS,Wh,ab,Wi⟩,?_⟩
   . simp;lia
   . simp;lia
 refine⟨⟨x,bx,lq,W,ka,by lia,λkey dk=>al key dk.k dk,nb⟩,fU,lW,by simp[oC],rfl,rfl,?_⟩;refine rM W fU lW nb rfl rfl λtake xs hi hx=>?_;by_cases eR:take<R.length
 . rw[up take eR]at hx
   exact eM (by lia) (b3 take xs hx)
 . have Jw:take<G'.length:=(nz.mp hx).1
   simp only[nQ,vV,or_false,not_or]at hi;have this:take=g.length+4:=by obtain⟨I,_,_,n2,n3⟩:=hi;rw[gl]at Jw;rw[l3]at eR;clear C hd2 j_ bP;lia
   subst this;rw[kS]at hx;cases hx;exact eM (tj _) Wi
def MB {D4:Fn}(e:c9 h)(f:c9 X)(C:ie Q)(r:jZ z)(take:jE u)(g:aJ A (.str "hands")=some (.int n))(x:aJ A (.str "places")=some (.int p))(y:aJ A (.str "own")=some (.int o))(q:n<=5)(l:p<=5)(i:see=ak false 2 2 (Cz h (ak false 7 2 (qM X Q z u))))(v:D4=ak false 5 3 (lA see)):mr n p o see D4 w Z b s Y c A j:=by
 subst i;subst v;exact⟨wy e (by decide) λ_=>FQ f,wy e (by decide) λ_=>FP take x l,FK (KP:=QZ) (λex a=>a.bc.flat) (by decide) (λB=>⟨B,rfl⟩) (wy e (by decide) λd=>FR C r g y d q)⟩
def CS {mv:List D}(g:mr n p o see X w O b s C B A mv)(d:h=ak false 3 3 setB)(i:o<n)(f:n<=5)(e:p<=5):qm (o:=o) n p Z Y c w O b s C B A (ak false 18 3 (JL see h X)):=λV q sz a=>Rh g d V i f e q sz a
def JR (take pick c:Fn):FS:=av (aD (aj pick (ae b0 (ae (aH dI (ae (aH ay (ae cT (ae cT af))) (ae (aH ay (ae cT (ae cT af))) (ae (aH ay (ae cT (ae cT af))) (ae (aH ay (ae dV (ae cT af))) (ae (aH ay (ae cT (ae dV af))) (ae (aH ay (ae dV (ae dV af))) af))))))) af))) (gN 1)) (aM (ag bo (ag bo (aH ay (ae lU (ae (aj c (ae b0 af)) (ae (ag bo cT (aj take (ae b0 (ae jc af)))) af)))) bg) (aH ay (ae (ag bo cT (aj take (ae b0 (ae jc af)))) af))))
def Uk {h:Nat}{B:Int}{hands:Fn}(A:c9 X)(E:ie Q)(Z:AX hands)(H:B+20<2 ^ 40)(C:Hd g h B):∃n p I J mo M,ak false 2 1 (JR X Q hands) [.ref h] g=some (aV n p I J mo,M)/\1<=n/\n<=5/\1<=p/\p<=4/\I<=1/\1<=mo/\mo<=4/\Hd M h (B+6)/\p0 h g M:=by
 have O:∀take:D×G->Prop,(∀(n p I J mo:Nat) M,1<=n->n<=5->1<=p->p<=4->I<=1->1<=mo->mo<=4->Hd M h (B+6)->p0 h g M->take (aV n p I J mo,M))->ni (ak false 2 1 (JR X Q hands) [.ref h] g) take:=λtake o=>by
  refine NV rfl ?_;unfold JR;refine wp_seq ?_;have f:az 2=true:=rfl;have c:az 6=true:=rfl;simp[f,c];refine E.w (by lia) (by simp) (by simp) C λd g1 hm i f1=>?_;have:∃I J:Nat,d = .tup [.int I,.int J]/\I<=1:=by
   simp only[nQ,vV,or_false]at hm;rcases hm with rfl|rfl|rfl|rfl|rfl|rfl
   . exact⟨1,1,rfl,by decide⟩
   . exact⟨1,1,rfl,by decide⟩
   . exact⟨1,1,rfl,by decide⟩
   . exact⟨0,1,rfl,by decide⟩
   . exact⟨1,0,rfl,by decide⟩
   . exact⟨0,0,rfl,by decide⟩
  obtain⟨I,J,rfl,JS⟩:=this;refine fS (Z h g1 _ (by lia) i) λn g2 y z n5 R f2=>?_;refine fS (A h 4 g2 _ (by lia) (by decide) (by decide) R) λU g3 e3 a0 Y v f3=>?_;obtain⟨p,a⟩:∃k:Nat,1+U=k:=⟨(1+U).toNat,(Wg (by lia)).symm⟩
  refine fS (A h 4 g3 _ (by lia) (by decide) (by decide) v) λmm g4 e4 m0 m1 JT f4=>?_;obtain⟨mo,b⟩:∃k:Nat,1+mm=k:=⟨(1+mm).toNat,(Wg (by lia)).symm⟩
  have l:az 1=true:=rfl;have r:az 3=true:=rfl;have z5:az 5=true:=rfl;have F:=f1.trans (f2.trans (f3.trans f4));simp[y,e3,e4,a,b,l,f,r,z5,c];exact⟨F.1,o n p I J mo _ z n5 (by lia) (by lia) JS (by lia) (by lia) (JT.mono (by lia)) F⟩
 obtain⟨⟨d,M⟩,e,n,p,I,J,mo,rfl,x⟩:=O (λq=>∃n p I J mo,q.1=aV n p I J mo/\1<=n/\n<=5/\1<=p/\p<=4/\I<=1/\1<=mo/\mo<=4/\Hd q.2 h (B+6)/\p0 h g q.2) λn p I J mo M Y a2 u a4 s a6 j a8 a9=>⟨n,p,I,J,mo,rfl,Y,a2,u,a4,s,a6,j,a8,a9⟩
 exact⟨n,p,I,J,mo,M,e,x⟩
def H_ (e:v∈eX n p o s M++lZ y):flat v=true/\dep v<=60:=by
 rcases nY.mp e with e|e
 . obtain⟨q,_,e⟩:=adD.mp e
   unfold wZ at e;rcases nY.mp e with e|e
   . obtain⟨rs,_,e⟩:=adD.mp e
     simp only[nQ,vV,or_false]at e;rcases e with rfl|rfl
     . exact⟨rfl,by simp[dep,bF]⟩
     . exact⟨rfl,by simp[bJ,dep,bF]⟩
   . obtain⟨k,a,rfl⟩:=oa.mp e
     have c:∀rs∈cU p,flat rs=true/\dep rs<=50:=λrs d=>by obtain⟨j,_,rfl⟩:=oa.mp d;exact⟨rfl,by simp[own,dep,bF]⟩
     have b:flat k=true/\dep k<=50:=by
       unfold ox at a;rcases nY.mp a with a|a
       . rcases nY.mp a with a|a
         . exact c k a
         . exact c k a
       . obtain⟨j,_,rfl⟩:=oa.mp a
         exact⟨rfl,by simp[dep,bF]⟩
     refine⟨by simp[flat,aO,b.1],?_⟩;have:=b.2;simp only[dep,bF];lia
 . cases y with
   |none=>cases e
   |some j =>
     simp only[lZ,nQ,vV,or_false]at e;subst e;exact⟨rfl,by simp[own,dep,bF]⟩
def FD.len {sh:Nat}{q:R4}(L:FD n p o Z sh Y w c b s O C j st A i g M q y v a)(f:n<=5)(rs:p<=4):(eX n p o sh (M ++ [q])++lZ y).length=(eN (M ++ [q])++jf v y).length/\(eN (M ++ [q])++jf v y).length<=500:=by
 have r:∀h∈M ++ [q],fI n p o sh h:=λh en=>by
  rcases nY.mp en with en|en
  . exact L.all h en
  . simp at en;subst en;exact L.last
 have d:(lZ y).length=(jf v y).length:=by cases y<;>rfl
 have e:(jf v y).length<=1:=by cases y<;>simp[jf]
 have cH:=L.cH;have:=afo (show M.length+1<=16 by lia) (FX (n:=n) (p:=p) (o:=o) (sh:=sh) f rs);rw[nh,nh,kI r,jI r,d,nh,F4];exact⟨rfl,by lia⟩
def F1 (o:Nat)(c:D):Prop:=∃j:Nat,c=bJ j o
def l4 (o:Nat)(q:Nat×Int):List D:=[.tup [.str "read",bJ q.1 o],.tup [.str "write",cZ o q.1,.int (1-q.2)]]
def JU (see set:Fn):FS:=b9 (gX (ax (ag oEq (ag ao de jc) cT)) (ax (ag bf fe ee))) (av (aD (aj see (ae eW (ae (aH ay (ae gk (ae fe (ae ee af)))) af))) (gN 11)) (cQ (aj set (ae eW (ae (aH ay (ae fw (ae ee (ae fe af)))) (ae (ag (bX dJ (· - ·)) cT eP) af)))))) aR
noncomputable def oD (h i q:Option D)(m:D)(n p o:Nat)(r u:Option D)(w:Nat)(c g x y z:Option D):Sg:=[h,i,q,some m,some (.int n),some (.int p),some (.int o),r,u,some (.aA w),c,g,x,y,z]
def F2 {pick:Fn}{value:Fn}{state:Fn}(r:c9 h):ba2 (ak false 7 2 (qM h pick value state)) (F1 o) jG 30 w n b s p Z A:=λg l z st J B E c W M ok y pc hd O=>by
 obtain⟨j,rfl⟩:=ok;have main:ni (ak false 7 2 (qM h pick value state) [.aA w,bJ j o] g) λq=>jG q.1/\Hd q.2 n (B+30)/\p0 n g q.2:=by
  refine NV rfl ?_;refine fS (r n 2 g B (by lia) (by decide) (by decide) hd) λx g1 u Q R a C=>?_;have H:ax (ag oEq (ag ao bg dV) fy) [some (.aA w),some (bJ j o),some (.ref n),none,none,none,none] g=some (false,g):=rfl;have ex:ax (ag bf (ag ao bg dV) ft) [some (.aA w),some (bJ j o),some (.ref n),none,none,none,none] g=some (true,g):=rfl;have e:aj h (ae cO (ae eh af)) [some (.aA w),some (bJ j o),some (.ref n),none,none,none,none] g=some (.int x,g1):=by simp[u]
  refine gO (d:=.ref n) (g1:=g) (by simp[W.hw,fH,m7]) (cj (g1:=g) ((cX (g1:=g) H).trans rfl) ?_);refine⟨_,gM ex e,?_⟩;simp;exact⟨C.1,⟨x,rfl⟩,a.mono (by lia),C⟩
 obtain⟨⟨d,v⟩,e,I,i,f⟩:=main;exact⟨d,v,e,I,i,f⟩
def Ia {key:D}(V:Wv n p w o b s Z Y A st j i g)(C:Dm n p key)(E:typ n p key v)(h:flat v=true)(sz:st.length<=900)(H:j.length<=900):
  ∃B,ak false 3 3 setB [.aA w,key,v] g=some (.aB,B)/\Wv n p w o b s Z Y A (st ++ [.tup [.str "write",key,v]]) (j ++ [.aB]) i B/\cq [w,o,b,s,Z] g B:=by
 obtain⟨l,bx,lq,W,r,q,u,nb⟩:=V.W;have a:=C.k;have ex:=(fu key a).1;obtain⟨c,hc,_⟩:=u _ C;refine rB (Fx (key:=key) (v:=v) W a q (by lia) (by lia)) λB e y f=>?_;have nd:=tU W.nd;have fr:cq [w,o,b,s,Z] g B:=⟨f.1,λI d=>f.2 I (by simp only[nQ,vV,or_false,not_or]at d ⊢;exact⟨d.2.2.1,d.2.2.2.1,d.2.2.2.2⟩)⟩
 have z:Hd B o i:=by obtain⟨J,M,O,Q,R⟩:=V.hd;exact⟨J,M,O,by rw[f.2 o (by simp[nd.2.1.1,nd.2.1.2.1,nd.2.1.2.2])];exact Q,R⟩
 exact⟨B,e,V.step lq y (jC a r) (by rw[m8 hc];exact q) (u.upd (gw a r) E λk hk x=>kG a hk (om x) r) (iC (bQ _ ex) (bQ _ h) nb) z (eK V.ju (by simp[aF,bU,bQ (n:=0) key ex,bQ (n:=0) v h])) (eK V.jv rfl) fr,fr⟩
def RE {y:Option D}{z:Option D}:gX (ax (ag oEq (ag ao de jc) cT)) (ax (ag bf fe ee)) (oD q T R (aV n p s b Z) n p o J H w (some (.int Y)) E e y z) g=some (decide (b=1/\Y≠o),g):=by
 have i:((b:Int)=1)=(b=1):=propext (by lia);have c:((Y:Int)≠(o:Int))=(Y≠o):=propext (by lia);have a:ax (ag bf fe ee) (oD q T R (aV n p s b Z) n p o J H w (some (.int Y)) E e y z) g=some (decide ((Y:Int)≠(o:Int)),g):=by rw[cw,cx (d:=.int Y) (d':=.int o) (g1:=g) (g2:=g) rfl rfl,PQ];rfl
 have r:ax (ag oEq (ag ao de jc) cT) (oD q T R (aV n p s b Z) n p o J H w (some (.int Y)) E e y z) g=some (decide ((b:Int)=1),g):=by rw[cw,cx (d:=.int b) (d':=.int 1) (g1:=g) (g2:=g) rfl rfl,baM];rfl
 rw[pT,r];simp only[nv,a,i,c];by_cases h:b=1<;>simp[h]
structure Op (n p o sh w h b s r kq:Nat)(ex st rd:List D)(B:Int)(g0:G)(j:Nat)(g:G)(ks:List Int):Prop where
 kl:ks.length=(au j o sh).length
 V:Wv n p w h b s r kq ex (st++((au j o sh).zip ks).flatMap (l4 o)) (rd++cg (bI ks)) (B+j*31) g
 fr:cq [w,h,b,s,r] g0 g
theorem kJ:∀{l:List (Nat×Int)},(l.flatMap (l4 o)).length=2*l.length
 | []=>rfl|x::l=>by rw[VJ,nh,kJ];simp[l4];lia
def Ib (C:j5 n see (F1 o) jG 31 w Z b s Y c A f)(V:Wv n p w Z b s Y c A st j i g)(u:i+31<2 ^ 40)(h:o<n)(E:O<n)(sz:st.length<=800)(q:j.length<=800):
  ∃(k:Int) (v:G),see [.aA w,bJ O o] g=some (.int k,v)/\Wv n p w Z b s Y c A (st ++ [.tup [.str "read",bJ O o]]) (j ++ [.int k]) (i+31) v/\cq [w,Z,b,s,Y] g v:=by
 obtain⟨l,v,e,⟨k,rfl⟩,a,ex⟩:=HR C V u ⟨O,rfl⟩ (.inr (.inr (.inl ⟨O,o,E,h,rfl⟩))) rfl (λr d=>by obtain⟨x,rfl⟩:=d;rfl) sz q;exact⟨k,v,e,a,ex⟩
def Op.step {tg:Nat}{sh:Nat}{mo:Nat}{a0:Option D}{a1:Option D}{a2:Option D}{a7:Option D}{a8:Option D}{a11:Option D}{x:Option D}{y:Option D}{z:Option D}(J:j5 n see (F1 o) jG 31 w Z b s Y c A f)(H:h=ak false 3 3 setB)(I:Op n p o sh w Z b s Y c A st j i a O g r)(C:o<n)(E:O<n)(K:n<=5)(L:i+200<2 ^ 40)(sz:st.length<=700)(Q:j.length<=700):
   ∃g' X qN,JU see h (oD a0 a1 a2 (aV n p tg sh mo) n p o a7 a8 w (some (.int O)) a11 x y z) g=some (.nx,oD a0 a1 a2 (aV n p tg sh mo) n p o a7 a8 w (some (.int O)) qN x y z,g')/\Op n p o sh w Z b s Y c A st j i a (O+1) g' X:=by
 by_cases hc:sh=1/\O≠o
 . have B:au (O+1) o sh=au O o sh ++ [O]:=by rw[jF,if_pos hc]
   have sl:=eZ (n:=O) (o:=o) (sh:=sh);have M:=I.kl;have ex:((au O o sh).zip r).length=(au O o sh).length:=by rw[zk,M];lia
   have u:(bI r).length=r.length:=by simp[bI]
   have L1:(((au O o sh).zip r).flatMap (l4 o)).length<=10:=by rw[kJ,ex];lia
   have R:(cg (bI r)).length<=10:=by rw[e_,u,M];lia
   refine Cw (Ib J I.V (by lia) C E (by rw[nh];exact qJ (afr sz L1) (by decide)) (by rw[nh];exact qJ (afr Q R) (by decide))) λk g1 e1 rd f1=>?_;refine rB (Ia (key:=cZ o O) (v:=.int (1-k)) rd (.inr (.inr (.inr ⟨o,O,C,E,rfl⟩))) ⟨_,rfl⟩ rfl (by rw[nh,nh];exact qJ (ag6 (afr sz L1) 1) (by decide)) (by rw[nh,nh];exact qJ (ag6 (afr Q R) 1) (by decide))) λU e3 d q=>?_;have l:(au (O+1) o sh).zip (r ++ [k])=(au O o sh).zip r ++ [(O,k)]:=by rw[B,agx M.symm];rfl
   refine⟨U,r ++ [k],some (.int k),(lz (g1:=g) (by rw[RE,decide_eq_true hc])).trans (cL (σ1:=oD a0 a1 a2 (aV n p tg sh mo) n p o a7 a8 w (some (.int O)) (some (.int k)) x y z) (g1:=g1) ?_ ?_),?_,?_,?_⟩
   . have ec:aj see (ae eW (ae (aH ay (ae gk (ae fe (ae ee af)))) af)) (oD a0 a1 a2 (aV n p tg sh mo) n p o a7 a8 w (some (.int O)) a11 x y z) g=some (.int k,g1):=e1
     exact jP ec
   . have ec:aj h (ae eW (ae (aH ay (ae fw (ae ee (ae fe af)))) (ae (ag (bX dJ (· - ·)) cT eP) af))) (oD a0 a1 a2 (aV n p tg sh mo) n p o a7 a8 w (some (.int O)) (some (.int k)) x y z) g1=some (.aB,U):=by rw[H];exact e3
     rw[xo,ec];rfl
   . rw[B];simp[M]
   . have e:st++((au (O+1) o sh).zip (r ++ [k])).flatMap (l4 o)=st++((au O o sh).zip r).flatMap (l4 o) ++ [.tup [.str "read",bJ O o]] ++ [.tup [.str "write",cZ o O,.int (1-k)]]:=by
      rw[l,afh];simp[l4]
     have z2:j++cg (bI (r ++ [k]))=j++cg (bI r) ++ [.int k] ++ [.aB]:=by rw[show bI (r ++ [k])=bI r ++ [.int k] by simp[bI],yK];simp
     rw[e,z2,show i+((O+1:Nat):Int)*31=i+(O:Int)*31+31 by lia];exact d
   . exact I.fr.trans (f1.trans q)
 . have B:au (O+1) o sh=au O o sh:=by rw[jF,if_neg hc,wQ]
   refine⟨g,r,a11,?_,by rw[B];exact I.kl,?_,I.fr⟩
   . unfold JU
     rw[cX (g1:=g) (by rw[RE,decide_eq_false hc])];rfl
   . rw[B];exact I.V.mono (by lia)
def MC {tg:Nat}{sh:Nat}{mo:Nat}{mv:List D}{set:Fn}{a0:Option D}{a1:Option D}{a2:Option D}{a7:Option D}{a8:Option D}{a10:Option D}{a11:Option D}{x:Option D}{y:Option D}{z:Option D}(J:j5 n see (F1 o) jG 31 w Z b s Y c A mv)(C:set=ak false 3 3 setB)(V:Wv n p w Z b s Y c A st j i a)(H:o<n)(E:n<=5)(K:i+400<2 ^ 40)(sz:st.length<=700)(h:j.length<=700):
   ni (dB (dR (ae ef af)) (gN 10) (JU see set) (oD a0 a1 a2 (aV n p tg sh mo) n p o a7 a8 w a10 a11 x y z) a) λu=>u.1 = .nx/\(∃M v,u.2.1=oD a0 a1 a2 (aV n p tg sh mo) n p o a7 a8 w M v x y z) /\ ∃B,Op n p o sh w Z b s Y c A st j i a n u.2.2 B:=by
 rw[gG,bav];refine qd ⟨([.int n],a),rfl,n,rfl,by lia,by lia,?_⟩;refine(fG (λO Q g=>(∃M v,Q=oD a0 a1 a2 (aV n p tg sh mo) n p o a7 a8 w M v x y z) /\ ∃B,Op n p o sh w Z b s Y c A st j i a O g B) _ 0 _ _ ⟨⟨a10,a11,rfl⟩,[],?_⟩ ?_ ?_)
 . have e:au 0 o sh = []:=by unfold au b_;split<;>rfl
   exact⟨by rw[e];rfl,by rw[e];simpa[bI,cg]using V,.refl⟩
 . rintro O d Q g ex ⟨⟨M,v,rfl⟩,B,I⟩
   obtain⟨r,rfl⟩:=dj ex;simp only[uB]at I ⊢;refine⟨(oD a0 a1 a2 (aV n p tg sh mo) n p o a7 a8 w (some (.int O)) v x y z,g),rfl,?_⟩;dsimp only;obtain⟨q,f,R,e,l⟩:=I.step (tg:=tg) (mo:=mo) (a0:=a0) (a1:=a1) (a2:=a2) (a7:=a7) (a8:=a8) (a11:=v) (x:=x) (y:=y) (z:=z) J C H r E (by lia) sz h;exact⟨_,e,⟨_,_,rfl⟩,f,l⟩
 . rintro Q g ⟨⟨M,v,rfl⟩,B,I⟩
   simp only[uB,cA,Im]at I;exact⟨rfl,⟨_,_,rfl⟩,B,I⟩
def baZ:FE:=bC bD (da d4) [none,none,some 1] (gN 1) cC (aH ay (ae gk (ae bg (ae cO af))))
def RF:FE:=bC bD (da d4) [none,none,some 1] (gN 1) cC (aH ay (ae fw (ae cO (ae bg af))))
def RG (a:Fn):FS:=av (aD baZ (gN 7)) (av (aD RF (gN 8)) (aM (aj a (ae fb (ae fc (ae (fC (.fn "turned" [])) (ae ef af)))))))
def YM (a:Fn):FS:=av (aD (aH dI (ae (aH ay (ae j0 (ae (aH ay (ae fy (ae bg af))) (ae (ag ao (ag ao fe dV) cT) af)))) (ae (aH ay (ae j0 (ae (aH ay (ae ft (ae (ag ao cO cT) af))) (ae eP af)))) af))) (gN 12)) (aM (aj a (ae jo (ae (dC eW (bG (ag ao fe cT)) eH) af))))
def Ic (a b:Fn):FS:=av (b9 (ax (ag bf (ag ao (ag ao fe dV) dV) hF)) (aM (ag ao fe dV)) aR) (av (aD (aH ay (ae (ag ao cO eh) (ae bg (ae (aj a (ae b0 (ae cO (ae de af)))) af)))) (gN 11)) (YM b))
def t6 (c b g a d:Fn):FS:=av (aD (aj c (ae b0 (ae bg af))) (gN 5)) (av (aD (ag cP eh (aj bL (ae d4 af))) (gN 6)) (av (b9 (ax (ag oLt (aj bL (ae ef af)) ee)) (RG b) aR) (av (aD (dC ef (bG ee) eH) (gN 9)) (av (aD (aj g (ae b0 (ae bg (ae eW af)))) (gN 10)) (Ic a d)))))
structure zh (m:D)(o k:Nat)(v ah:D)(l:List Nat)(t:Int)(aC cS ij gz:Fn)(g:G):Prop where
 hs:aC [m,.int o] g=some (.lst (dN l),g)
 ll:l.length<=5
 he:∀p src ou rd d,rd.length=2*p->src[p]? = some d->cS [.lst src,.lst ou,.fn "turned" [],.tup rd] g=some (.tup [.str "read",d],g)
 hd:∀p src ou rd (c:Int) d,(rd ++ [D.int c]).length=2*p+1->ou[p]? = some d->cS [.lst src,.lst ou,.fn "turned" [],.tup (rd ++ [.int c])] g=some (.tup [.str "write",d,.int (1-c)],g)
 ht:ij [m,.tup [.str "put",.int k,v],ah] g=some (.int t,g)
 hw:∀a b rd,gz [.lst [a,b],.tup rd] g=some (if rd.length=0 then a else if rd.length=1 then b else .tup [.str "told",.aB],g)
def gA (m:D)(o:Nat)(deed ah:D)(i:List D)(l:List Nat)(a b c d g h:Option D):Sg:=[some m,some (.int o),some deed,some ah,some (.tup i),some (.lst (dN l)),some (.int (2*l.length:Nat)),a,b,c,d,g,h]
def JV (u:I.length<=5):baZ (gA m o v ah A I q T R J H E) g=some (.lst (I.map λj=>bJ j o),g)/\RF (gA m o v ah A I q T R J H E) g=some (.lst (I.map λj=>cZ o j),g):=by
 have f:az 3=true:=rfl;have b:az I.length=true:=aI (by lia);have i:=d5 (t:=gN 1) (c:=cC) (e:=aH ay (ae gk (ae bg (ae cO af)))) (h:=λd=>D.tup [.str "sign",d,.int o]) (λp=>∃a,p = [none,a,some (.int o)]) (dN I) [none,none,some (.int o)] g ⟨_,rfl⟩ (by rintro t hm p ⟨a,rfl⟩;exact⟨[none,some t,some (.int o)],by simp,by simp,by simp[f],_,rfl⟩)
 have n:=d5 (t:=gN 1) (c:=cC) (e:=aH ay (ae fw (ae cO (ae bg af)))) (h:=λd=>D.tup [.str "call",.int o,d]) (λp=>∃a,p = [none,a,some (.int o)]) (dN I) [none,none,some (.int o)] g ⟨_,rfl⟩ (by rintro t hm p ⟨a,rfl⟩;exact⟨[none,some t,some (.int o)],by simp,by simp,by simp[f],_,rfl⟩)
 have r:da d4 (gA m o v ah A I q T R J H E) g=some (dN I,g):=rfl;have sub:cu [none,none,some 1] (gA m o v ah A I q T R J H E)= [none,none,some (.int o)]:=rfl;constructor
 . unfold baZ
   rw[gp,r];simp only[nv,cG,b,if_true,sub,i];simp[bD,dN,bJ,Ru,b]
 . unfold RF
   rw[gp,r];simp only[nv,cG,b,if_true,sub,n];simp[bD,dN,cZ,Ru,b]
def zi (F:zh m o n v ah I i h X z u g){deed:D}:
  t6 h X Q z u ([m,.int o,deed,ah,.tup A].map some++nW (13-5) none) g=(av (b9 (ax (ag oLt (aj bL (ae ef af)) ee)) (RG X) aR) (av (aD (dC ef (bG ee) eH) (gN 9)) (av (aD (aj Q (ae b0 (ae bg (ae eW af)))) (gN 10)) (Ic z u)))) (gA m o deed ah A I none none none none none none) g:=by
 have a:c_ 2 (I.length:Int)=true:=iI (by have:=F.ll;lia) (by have:=F.ll;lia);refine cD F.hs (cD (d:=.int (2*I.length:Nat)) (g1:=g) ?_ rfl);simp[cG,a]
def Ul (d:p<r.length):(cg (bI r))[2*p]? = some (.int r[p]):=qg (a:=λc=>c) (b:=λ_=>D.aB) (l:=bI r) (p:=p) (x:=.int r[p]) (by simp[bI,d])
def MD {look:Fn}(F:zh m o p v ah I i h X Q z g)(C:r.length=I.length)(A:n<2*I.length):
   ∃x,((I.zip r).flatMap (l4 o))[n]? = some x/\ak false 13 5 (t6 h X look Q z) [m,.int o,.tup [.str "put",.int p,v],ah,.tup ((cg (bI r)).take n)] g=some (x,g):=by
 have wl:(cg (bI r)).length=2*I.length:=by rw[e_];simp[bI,C]
 have c:((cg (bI r)).take n).length=n:=by rw[Aq,wl];lia
 obtain⟨t,b,y,rfl⟩:∃t b,b<2/\n=2*t+b:=⟨n / 2,n % 2,ah8 _ (by decide),by lia⟩
 have d:t<I.length:=by lia
 have f:t<r.length:=by lia
 have k:(I.zip r)[t]? = some (I[t],r[t]):=by rw[Qy];exact⟨nP d,nP f⟩
 have u:((2*t+b:Nat):Int)<((2*I.length:Nat):Int):=by lia
 have go:∀x:D,X [.lst (I.map λj=>bJ j o),.lst (I.map λj=>cZ o j),.fn "turned" [],.tup ((cg (bI r)).take (2*t+b))] g=some (x,g)->ak false 13 5 (t6 h X look Q z) [m,.int o,.tup [.str "put",.int p,v],ah,.tup ((cg (bI r)).take (2*t+b))] g=some (x,g):=λx s=>by
   generalize (cg (bI r)).take (2*t+b)=B at *;have l:aj X (ae fb (ae fc (ae (fC (.fn "turned" [])) (ae ef af)))) (gA m o (.tup [.str "put",.int p,v]) ah B I (some (.lst (I.map λj=>bJ j o))) (some (.lst (I.map λj=>cZ o j))) none none none none) g=some (x,g):=s;have tt:ax (ag oLt (aj bL (ae ef af)) ee) (gA m o (.tup [.str "put",.int p,v]) ah B I none none none none none none) g=some (true,g):=by simp[gA,c,u,fg];lia
   refine bp (σ':=gA m o (.tup [.str "put",.int p,v]) ah B I (some (.lst (I.map λj=>bJ j o))) (some (.lst (I.map λj=>cZ o j))) none none none none) rfl ((zi F).trans ?_) rfl;refine tO ((lz tt).trans ?_);exact cD (JV F.ll).1 (cD (JV F.ll).2 (dE l))
 have E:b=0\/b=1:=by lia
 rcases E with rfl|rfl
 . refine⟨_,qg (a:=λq:Nat×Int=>D.tup [.str "read",bJ q.1 o]) (b:=λq=>D.tup [.str "write",cZ o q.1,.int (1-q.2)]) k,go _ ?_⟩
   exact F.he t _ _ _ _ c (by simp[d])
 . refine⟨_,yF (a:=λq:Nat×Int=>D.tup [.str "read",bJ q.1 o]) (b:=λq=>D.tup [.str "write",cZ o q.1,.int (1-q.2)]) k,go _ ?_⟩
   have e:(cg (bI r)).take (2*t+1)=(cg (bI r)).take (2*t) ++ [.int r[t]]:=by rw[afq,Ul f];rfl
   rw[e]at c ⊢;exact F.hd t _ _ _ _ _ c (by simp[d])
def Bu (F:zh m o n v ah I i h X z u g){deed d:D}(wl:A.length=2*I.length)(W:Q [m,.int o,.tup j] g=some (d,g)):
  t6 h X Q z u ([m,.int o,deed,ah,.tup (A++j)].map some++nW (13-5) none) g=Ic z u (gA m o deed ah (A++j) I none none (some (.tup j)) (some d) none none) g:=by
 have cut:tf (A++j) (some ((2*I.length:Nat):Int)) none=j:=by unfold tf;rw[ny,jx (by rw[nh];lia),Jt (by simp),<- wl,Z7]
 have f:¬(((A++j).length:Int)<((2*I.length:Nat):Int)):=by rw[nh];lia
 generalize A++j=a at *;have b:ax (ag oLt (aj bL (ae ef af)) ee) (gA m o deed ah a I none none none none none none) g=some (false,g):=by simp[gA,fg];lia
 have e:dC ef (bG ee) eH (gA m o deed ah a I none none none none none none) g=some (.tup j,g):=by have p:ef (gA m o deed ah a I none none none none none none) g=some (.tup a,g):=rfl;have q:bG ee (gA m o deed ah a I none none none none none none) g=some (some ((2*I.length:Nat):Int),g):=rfl;simp only[Lp,p,q,nv,Lf,i5,cut]
 have c:aj Q (ae b0 (ae bg (ae eW af))) (gA m o deed ah a I none none (some (.tup j)) none none none) g=some (d,g):=W;exact(zi F).trans (cL ((cX b).trans rfl) (cD e (cD c rfl)))
def ME (F:zh m o p v ah I i h X z u g){W:D}(wl:A.length=2*I.length)(hw:¬(x=th "told"))(d:Q [m,.int o,.tup j] g=some (.tup [.tup (.str x::f),W],g)):
   ak false 13 5 (t6 h X Q z u) [m,.int o,.tup [.str "put",.int p,v],ah,.tup (A++j)] g=some (.tup (.str x::f),g):=by
 have c:∀a b:D,cJ [a,b] 0=some a:=λ_ _=>rfl;have q:∀(a:D) (b:List D),cJ (a::b) 0=some a:=λ_ _=>Fg (n:=0) rfl;refine bp rfl ((Bu F wl d).trans (gM (g1:=g) ?_ ?_)) rfl
 . simp[gA,fj,bb,c,q,fg,bq,flat,dep,hw]
 . simp[gA,fj,bb,c]
def uK {t:Int}(F:zh m o n v ah I t h X z u g){d:D}(wl:A.length=2*I.length)(q:Q [m,.int o,.tup j] g=some (.tup [.tup [.str "told",d],.int i],g))(p:tf j (some i) none=f):
   ak false 13 5 (t6 h X Q z u) [m,.int o,.tup [.str "put",.int n,v],ah,.tup (A++j)] g=some (if f.length=0 then .tup [.str "write",own "view" o,d]else if f.length=1 then .tup [.str "write",own "box" n,.tup [v,.int o,.int t]]else .tup [.str "told",.aB],g):=by
 have k:∀a b:D,cJ [a,b] 0=some a:=λ_ _=>rfl;have r:∀a b:D,cJ [a,b] 1=some b:=λ_ _=>rfl;have U:∀a b c:D,cJ [a,b,c] 1=some b:=λ_ _ _=>rfl;have W:∀a b c:D,cJ [a,b,c] 2=some c:=λ_ _ _=>rfl;have R:az 2=true:=rfl;have e:az 3=true:=rfl;have hd:=Bu F (deed:=.tup [.str "put",.int n,v]) wl q;generalize A++j=rest at *;refine bp rfl (hd.trans (cL (σ1:=gA m o (.tup [.str "put",.int n,v]) ah rest I none none (some (.tup j)) (some (.tup [.tup [.str "told",d],.int i])) none none) (g1:=g) ((cX (g1:=g) ?_).trans rfl) (cD (d:=.tup [v,.int o,.int t]) (g1:=g) ?_ (cD (d:=.lst [.tup [.str "write",own "view" o,d],.tup [.str "write",own "box" n,.tup [v,.int o,.int t]]]) (g1:=g) ?_ (dE (g1:=g) ?_))))) rfl
 . simp[gA,fj,bb,k,fg,bq,flat,dep]
 . simp[gA,fj,bb,W,F.ht,e]
 . simp[gA,fj,bb,k,r,U,R,e,own]
 . simp[gA,fj,bb,r,i5,p,F.hw]
def Ie {look:Fn}{d:D}(F:zh m o n v ah I i X Q z u g)(p:r.length=I.length)(B:∀E x,ak false 13 5 (t6 X Q look z u) [m,.int o,.tup [.str "put",.int n,v],ah,.tup E] g=some (x,g)->h [m,.int o,.tup [.str "put",.int n,v],ah,.tup E] g=some (x,g))(tq:A.length=j.length)(s:∀y,y<j.length->∃x k,A[y]? = some x/\look [m,.int o,.tup (j.take y)] g=some (.tup [x,k],g))(l:∀x∈A,∃C H,x = .tup (.str C::H) /\ ¬(C=th "told"))(q:∀rest:List D,(∀x∈rest,flat x=true)->look [m,.int o,.tup (j++rest)] g=some (.tup [.tup [.str "told",d],.int (j.length:Nat)],g)):
   yx h m (.int o) (.tup [.str "put",.int n,v]) ah ((I.zip r).flatMap (l4 o)++(A ++ [.tup [.str "write",own "view" o,d],.tup [.str "write",own "box" n,.tup [v,.int o,.int i]]])) (cg (bI r)++(j ++ [.aB,.aB])) .aB g:=by
 have wl:(cg (bI r)).length=2*I.length:=by rw[e_];simp[bI,p]
 have f:((I.zip r).flatMap (l4 o)).length=2*I.length:=by rw[kJ,zk,p];lia
 have cut:∀rest:List D,tf (j++rest) (some ((j.length:Nat):Int)) none=rest:=λrest=>by unfold tf;rw[ny,jx (by rw[nh];lia),Jt (by simp),Z7]
 have c:∀y,(cg (bI r)++(j ++ [D.aB,.aB])).take (2*I.length+y)=cg (bI r)++(j ++ [D.aB,.aB]).take y:=λy=>by rw[aeU,wl,W3,Jt (by lia)]
 have st:∀y (T:List D),((I.zip r).flatMap (l4 o)++T)[2*I.length+y]? = T[y]?:=λy T=>by rw[CY (by lia),f,W3]
 refine⟨λt b=>?_,?_⟩
 . rw[nh,nh,wl]at b
   by_cases h1:t<2*I.length
   . obtain⟨x,a,e⟩:=MD (look:=look) F p h1
     refine⟨x,?_,B _ _ ?_⟩
     . rw[r_ (by lia)];exact a
     . rw[ac9 (by lia)];exact e
   . obtain⟨y,rfl⟩:∃y,t=2*I.length+y:=⟨t-2*I.length,by lia⟩
     rw[st,c];simp only[xk,ae8]at b;by_cases h2:y<j.length
     . obtain⟨x,k,a,e⟩:=s y h2
       obtain⟨C,H,rfl,hw⟩:=l x (ta a);refine⟨_,(r_ (by lia)).trans a,B _ _ ?_⟩;rw[ac9 (by lia)];exact ME F wl hw e
     . obtain⟨e,rfl⟩:∃e,y=A.length+e:=⟨y-A.length,by lia⟩
       rw[CY (by lia),W3,tq,aeU,W3,Jt (by lia)];have he:e=0\/e=1:=by lia
       rcases he with rfl|rfl
       . exact⟨_,rfl,B _ _ (uK F wl (q _ (by simp)) (cut _))⟩
       . exact⟨_,rfl,B _ _ (uK F wl (q [.aB] (by simp[flat])) (cut _))⟩
 . exact B _ _ (uK F wl (q [.aB,.aB] (by simp[flat])) (cut _))
def Ig (a:v∈eX n p o s M++lZ y):∃c g,v = .tup (.str c::g) /\ ¬(c=th "told"):=by
 rcases nY.mp a with a|a
 . obtain⟨q,_,a⟩:=adD.mp a
   unfold wZ at a;rcases nY.mp a with a|a
   . obtain⟨h,_,a⟩:=adD.mp a
     simp only[nQ,vV,or_false]at a;rcases a with rfl|rfl<;>exact⟨_,_,rfl,by decide⟩
   . obtain⟨k,_,rfl⟩:=oa.mp a
     exact⟨_,_,rfl,by decide⟩
 . cases y with
   |none=>cases a
   |some j =>
     simp only[lZ,nQ,vV,or_false]at a;subst a;exact⟨_,_,rfl,by decide⟩
end
section
open PyProof.Rows
def RH (T:Nat->Fn):FS:=b9 (w6 (gW (aj (T 27) (ae de (ae ee (ae (aH ay (ae (fC (.str "put")) (ae fc (ae gb af)))) (ae fb (ae eW (ae fk af))))))))) (aM (fC (.bl false))) aR
def RJ (T:Nat->Fn):FS:=av (cQ (aj (T 25) (ae eW (ae (aH ay (ae ft (ae fc af))) (ae (aH ay (ae gb (ae ee (ae f7 af)))) af))))) (RH T)
def Wj (T:Nat->Fn):FS:=av (mf 13 14 (ae (aj iZ (ae (ip (ag oEq (ag ao de fh) cT) (ag oEq (ag (bX cR (· % ·)) (ag ao fb fc) eh) dV)) af)) (ae (aj (T 22) (ae cO af)) af))) (RJ T)
def Wk (T:Nat->Fn):FS:=av (cQ (aj (T 25) (ae eW (ae (aH ay (ae fy (ae ee af))) (ae jo af))))) (Wj T)
def Wn (T:Nat->Fn):FS:=av (aD (aj (T 33) (ae eW (ae ee (ae de af)))) (gN 12)) (Wk T)
def Wo (T:Nat->Fn):FS:=av (dB (dR (ae ef af)) (gN 10) (JU (T 24) (T 25))) (Wn T)
def Wq (T:Nat->Fn):FS:=av (aD (aj (T 34) (ae cO (ae de (ae ee af)))) (gN 9)) (Wo T)
def Wr (T:Nat->Fn):FS:=av (mf 7 8 (ae (aj (T 28) (ae cO (ae d4 af))) (ae (aj (T 20) (ae cO (ae d4 af))) af))) (Wq T)
def Wt (T:Nat->Fn):FS:=av (sR 4 5 6 (ae (ag ao de cT) (ae (ag ao de eh) (ae (aj (T 20) (ae cO (ae (ag ao de cT) af))) af)))) (Wr T)
def Wu (T:Nat->Fn):FS:=av (aD (aj (T 35) (ae cO af)) (gN 3)) (Wt T)
def JW (T:Nat->Fn):FS:=av (aD (aj (T 19) (ae b0 (ae bg af))) (gN 2)) (Wu T)
def rs (T:Nat->Fn):Str->Option Fn:=λy=>match(lS 0 ds).lookup y with|some q=>some (T q.1)|none=>((lT 0 ds).lookup y).map λi=>dw (T i)
def b_0 (T:Nat->Fn):FS:=aM (ag ao b0 (ag bo cT (BZ mq (ag ao b0 dV) bg)))
def Ww (T:Nat->Fn):FS:=aM (aj (T 0) (ae b0 (ae kn af)))
def Wx (T:Nat->Fn):FS:=av (b9 (ax (ag oEq (ag ao b0 dV) lU)) (aM (aj (T 0) (ae b0 (ae ku af)))) aR) (aM (aj (T 1) (ae b0 af)))
def Wy (T:Nat->Fn):FS:=av (aD (uc (ax (ag oEq (ag ao b0 dV) lU)) ft iF) (gN 1)) (aM (aj gZ (ae (bC bD (dR (ae (aj (T 2) (ae b0 af)) af)) [none,none,some 1] (gN 1) cC (aH ay (ae cO (ae bg af)))) af)))
def b_4 (T:Nat->Fn):FS:=iq (rs T)
def Wz (T:Nat->Fn):FS:=av (b9 (ax (ag oLt (aj bL (ae bg af)) (aj bL (ae b0 af)))) (aM (ag ao b0 (aj bL (ae bg af)))) aR) (aM (aH ay (ae hF (ae fk af))))
def JX (T:Nat->Fn):FS:=av (b9 (ax (ag oEq (aj (T 0) (ae b0 (ae jd af))) dV)) (aM dV) aR) (aM (ag (bX cR (· % ·)) (ag bo (ag ao cO (ag ao bg cT)) cT) eh))
def WA (T:Nat->Fn):FS:=aM (bC bD (dR (ae (aj (T 1) (ae b0 af)) af)) [none,none,some 1] (gN 1) (ax (ag bf bg cO)) bg)
def WB (T:Nat->Fn):FS:=aM (uc (ax (ag oEq (aj (T 0) (ae b0 (ae l8 af))) cT)) (aj (T 7) (ae b0 (ae bg af))) (aH dI af))
def b_9 (T:Nat->Fn):FS:=oq (rs T)
def RK (T:Nat->Fn):FS:=aM (ag (bX dJ (· - ·)) cT b0)
noncomputable def YN (T:Nat->Fn):FS:=vC (T 0) (T 2) (T 8) (T 4) (T 12) (T 13) "shared_look.lambda" vH
noncomputable def YO (T:Nat->Fn):FS:=vt (T 8) (T 3) (T 9) "round_step_shared.lambda"
noncomputable def YQ (T:Nat->Fn):FS:=ke (T 2) (T 8)
noncomputable def YR (T:Nat->Fn):FS:=QB (T 0) (T 2) (T 7) (T 8) (T 13) (T 15)
noncomputable def YS (T:Nat->Fn):FS:=qL (T 0)
noncomputable def YT (T:Nat->Fn):FS:=t6 (T 8) (T 9) (T 11) (T 6) (T 5)
def RL (T:Nat->Fn):FS:=av (b9 (ax (ag oEq (ag ao b0 dV) (fC (.str "tables")))) (aM bN) aR) (av (b9 (ax (ag oEq (ag ao cO dV) (fC (.str "look")))) (aM bN) aR) (aM (aj (T 18) (ae b0 (ae bg (ae cO (ae de (ae ef af))))))))
def RM (T:Nat->Fn):FS:=av (aD (ag ao b0 dV) (gN 5)) (av (b9 (ax (ag oEq d4 (fC (.str "once")))) (aM (aj (T 5) (ae (aH dI (ae (aH ay (ae j0 (ae (aH ay (ae iF (ae bg af))) (ae (ag ao cO eh) af)))) af)) (ae ef af)))) aR) (av (b9 (ax (ag oEq d4 (fC (.str "twice")))) (aM bN) aR) (av (b9 (ax (ag oEq d4 (fC (.str "handed")))) (aM bN) aR) (av (b9 (ax (ag oEq d4 (fC (.str "signs")))) (aM bN) aR) (aM (aj (T 16) (ae b0 (ae bg (ae cO (ae de (ae ef af)))))))))))
noncomputable def YU (T:Nat->Fn):FS:=wq
noncomputable def YV (T:Nat->Fn):FS:=wt
noncomputable def YW (T:Nat->Fn):FS:=Cy (T 20)
noncomputable def YX (T:Nat->Fn):FS:=wu (T 20) (T 21)
noncomputable def YY (T:Nat->Fn):FS:=yw
noncomputable def YZ (T:Nat->Fn):FS:=Cz (T 20) (T 31)
noncomputable def Y0 (T:Nat->Fn):FS:=setB
noncomputable def Y1 (T:Nat->Fn):FS:=lA (T 24)
noncomputable def Y2 (T:Nat->Fn):FS:=rC (T 17)
noncomputable def Y3 (T:Nat->Fn):FS:=tP (T 21)
noncomputable def Y4 (T:Nat->Fn):FS:=tR (T 20) (T 21)
noncomputable def Y5 (T:Nat->Fn):FS:=tY (T 22)
noncomputable def Y6 (T:Nat->Fn):FS:=qM (T 20) (T 21) (T 22) (T 30)
noncomputable def Y7 (T:Nat->Fn):FS:=JL (T 24) (T 25) (T 26)
noncomputable def Y8 (T:Nat->Fn):FS:=JM (T 32) (T 24)
noncomputable def Y9 (T:Nat->Fn):FS:=RA (T 20) (T 22) (T 23) (T 30)
noncomputable def Y_ (T:Nat->Fn):FS:=JR (T 20) (T 21) (T 29)
def Ih (T:Nat->Fn):FS:=av (dB (dR (ae (ag bo fh (aj ((kB me i0)) (ae (fC (.int 6)) (ae (aj bL (ae b0 af)) af)))) af)) (gN 1) (JW T)) (aM j3)
def Za (T:Nat->Fn):FE:=aj (T 14) (ae b0 (ae bg (ae cO af)))
def Zb (T:Nat->Fn):FE:=b0
def tab:Nat->Nat->Fn
 | 0,_=>λ_ _=>none|k+1,0=>(ak false 2 2 (b_0 (tab k)))|k+1,1=>(ak false 1 1 (Ww (tab k)))|k+1,2=>(ak false 1 1 (Wx (tab k)))|k+1,3=>(ak false 2 1 (Wy (tab k)))|k+1,4=>(ak false 10 5 (b_4 (tab k)))|k+1,5=>(ak false 2 2 (Wz (tab k)))|k+1,6=>(ak false 3 3 (JX (tab k)))|k+1,7=>(ak false 2 2 (WA (tab k)))|k+1,8=>(ak false 2 2 (WB (tab k)))|k+1,9=>(ak false 5 4 (b_9 (tab k)))|k+1,10=>(ak false 1 1 (RK (tab k)))|k+1,11=>(ak false 6 3 (YN (tab k)))|k+1,12=>(ak false 6 3 (YO (tab k)))|k+1,13=>(ak false 4 3 (YQ (tab k)))|k+1,14=>(ak false 12 3 (YR (tab k)))|k+1,15=>(ak false 3 3 (YS (tab k)))|k+1,16=>(ak false 13 5 (YT (tab k)))|k+1,17=>(ak false 5 5 (RL (tab k)))|k+1,18=>(ak false 6 5 (RM (tab k)))|k+1,19=>(ak true 3 2 (YU (tab k)))|k+1,20=>(ak false 6 2 (YV (tab k)))|k+1,21=>(ak false 2 2 (YW (tab k)))|k+1,22=>(ak false 2 1 (YX (tab k)))|k+1,23=>(ak true 3 3 (YY (tab k)))|k+1,24=>(ak false 2 2 (YZ (tab k)))|k+1,25=>(ak false 3 3 (Y0 (tab k)))|k+1,26=>(ak false 5 3 (Y1 (tab k)))|k+1,27=>(ak false 10 6 (Y2 (tab k)))|k+1,28=>(ak false 2 2 (Y3 (tab k)))|k+1,29=>(ak false 1 1 (Y4 (tab k)))|k+1,30=>(ak false 2 2 (Y5 (tab k)))|k+1,31=>(ak false 7 2 (Y6 (tab k)))|k+1,32=>(ak false 18 3 (Y7 (tab k)))|k+1,33=>(ak false 7 3 (Y8 (tab k)))|k+1,34=>(ak true 10 3 (Y9 (tab k)))|k+1,35=>(ak false 2 1 (Y_ (tab k)))|k+1,36=>(ak false 15 1 (Ih (tab k)))|k+1,37=>cy 2 1 (Za (tab k))|k+1,38=>cy 0 1 (Zb (tab k))|_+1,_=>λ_ _=>none
def rws (k:Nat):yn mo (tab k) (tab (k+1)) k 0 mo.ds:=by repeat (first|exact .nil| (refine .cons ?_ ?_;· kernel_rfl))
def good:UI mo tab:=L9 (λ_ _ _=>rfl) rws (by decide +kernel) (by decide +kernel)
end
section
variable {b Z Y c d:Nat}{g:G}{X:Option Nat}{w x:D}{q:R4}{R:List R4}{Q O M J I H:Option D}
def fX {c:FA}{x:Option (D×G)}(k:h A a=x)(F:c l g=some (A,a)):aj h c l g=x:=by rw[gm,F];exact k
def MF (k:Nat)(g:G):tab (k+2) 1 [aV n p o s b] g=some (.int n,g):=by show ak false 1 1 (Ww (tab (k+1))) _ g=_;refine bp rfl (dE ?_) rfl;show tab (k+1) 0 [aV n p o s b,.str "hands"] g=_;exact bp rfl (dE rfl) rfl
def RN (k:Nat)(g:G):tab (k+3) 2 [aV n p o s b] g=some (.int p,g):=by show ak false 1 1 (Wx (tab (k+2))) _ g=_;refine bp rfl (gM (g1:=g) rfl ?_) rfl;show tab (k+2) 0 [aV n p o s b,.str "places"] g=_;exact bp rfl (dE rfl) rfl
def Um (j:p<=4)(k:Nat)(g:G):tab (k+4) 3 [aV n p o s b] g=some (.tup (cU p),g):=by
 show ak false 2 1 (Wy (tab (k+3))) _ g=_;have f:az 2=true:=rfl;have q:az p=true:=aI (by lia);generalize hm:aV n p o s b=m;have c:=d5 (t:=gN 1) (c:=cC) (e:=aH ay (ae cO (ae bg af))) (h:=λd=>D.tup [.str "box",d]) (λσ=>∃a,σ = [none,a,some (.str "box")]) (fT 0 p) [none,none,some (.str "box")] g ⟨_,rfl⟩ (by rintro t hm σ ⟨a,rfl⟩;exact⟨[none,some t,some (.str "box")],by simp,by simp,by simp[f],_,rfl⟩)
 have r:=iu (fr:=ae (aj (tab (k+3) 2) (ae b0 af)) af) (σ:=[some m,some (.str "box")]) (g:=g) (g1:=g) (n:=p) (by
  have e:aj (tab (k+3) 2) (ae b0 af) [some m,some (.str "box")] g=some (.int p,g):=by rw[<- hm];exact RN k g
  simp only[bV,e,cF,nv]) (by lia)
 have i:bC bD (dR (ae (aj (tab (k+3) 2) (ae b0 af)) af)) [none,none,some 1] (gN 1) cC (aH ay (ae cO (ae bg af))) [some m,some (.str "box")] g=some (.lst (cU p),g):=by rw[gp,r];simp only[nv,cA,q,if_true];rw[show cu [none,none,some 1] [some m,some (.str "box")]= [none,none,some (.str "box")] from rfl,c];simp[bD,fT,cU,own,Ru,q]
 refine bp rfl (cD (d:=.str "box") (g1:=g) (by rw[<- hm];rfl) (dE ?_)) rfl;show aj gZ (ae (bC bD _ _ _ _ _) af) [some m,some (.str "box")] g=_;simp only[gm,bV,i,cF,nv,Ad,bb];rw[if_pos (by simpa[cU]using q)]
def JY (c:n<=5)(k:Nat)(g:G):tab (k+3) 7 [aV n p s b Z,.int o] g=some (.lst (dN (b_ n o)),g):=by
 show ak false 2 2 (WA (tab (k+2))) _ g=_;generalize hm:aV n p s b Z=m;have r:=iu (fr:=ae (aj (tab (k+2) 1) (ae b0 af)) af) (σ:=[some m,some (.int o)]) (g:=g) (g1:=g) (n:=n) (by
  have e:aj (tab (k+2) 1) (ae b0 af) [some m,some (.int o)] g=some (.int n,g):=by rw[<- hm];exact MF k g
  simp only[bV,e,cF,nv]) (by lia)
 have h:az n=true:=aI (by lia);have i:az (dN (b_ n o)).length=true:=aI (by rw[cG];have:=uG (n:=n) (o:=o);lia);obtain⟨_,e,rfl⟩:=Bi (n:=n) (o:=o) (g:=g) (f:=λ(j:Nat)=>D.int (j:Int)) (e:=bg) (λj g=>rfl);have a:((sv n).filter λj=>!(j == o)).map (λ(j:Nat)=>D.int (j:Int))=dN (b_ n o):=rfl;rw[a]at e;refine bp rfl (dE ?_) rfl;show bC bD _ _ _ _ _ [some m,some (.int o)] g=_;rw[gp,r];simp only[nv,cA,h,if_true];rw[show cu [none,none,some 1] [some m,some (.int o)]= [none,none,some (.int o)] from rfl,e];simp[bD,i]
def JZ (c:n<=5)(k:Nat)(g:G):tab (k+4) 8 [aV n p s b Z,.int o] g=some (.lst (dN (au n o b)),g):=by
 show ak false 2 2 (WB (tab (k+3))) _ g=_;refine bp rfl (dE ?_) rfl;have t:ax (ag oEq (aj (tab (k+3) 0) (ae b0 (ae l8 af))) cT) [some (aV n p s b Z),some (.int o)] g=some (decide ((b:Int)=1),g):=by have i:tab (k+3) 0 [aV n p s b Z,.str "shakes"] g=some (.int b,g):=bp rfl (dE rfl) rfl;have a:aj (tab (k+3) 0) (ae b0 (ae l8 af)) [some (aV n p s b Z),some (.int o)] g=some (.int b,g):=fX i rfl;rw[cw,cx (d':=.int 1) (g2:=g) a rfl,baM];rfl
 show uc _ _ _ [some (aV n p s b Z),some (.int o)] g=_;rw[Lc,t];simp only[nv];unfold au;by_cases h:b=1
 . rw[if_pos (by simp[h]),if_pos h]
   exact JY c k g
 . rw[if_neg (by simp;lia),if_neg h]
   rfl
def WC (k:Nat)(h:o<n)(a:n<=5)(d:1<=p)(c:p<=4):iK (aV n p s b Z) n p o s b Z (tab (k+8) 0) (tab (k+8) 2) (tab (k+8) 7) (tab (k+8) 8):=
 ⟨λg=>RN (k+5) g,λg=>bp rfl (dE rfl) rfl,λg=>bp rfl (dE rfl) rfl,λg=>JY a (k+5) g,λg=>JZ a (k+4) g,h,a,d,c,rfl⟩
def RO (k:Nat):rs (tab (k+7)) "shared_look.lambda" = some (dw (cy 2 1 (pG (ng (tab (k+8) 0) (tab (k+8) 2) (tab (k+8) 7) (tab (k+8) 8))))):=rfl
def Uo (k:Nat):rs (tab (k+6)) "round_step_shared.lambda" = some (dw (cy 0 1 b0)):=rfl
def RP (k:Nat):tab (k+9) 11=Rt (tab (k+8) 0) (tab (k+8) 2) (tab (k+8) 8) (tab (k+8) 3) (rs (tab (k+7))) (rs (tab (k+6))) "shared_look.lambda" "round_step_shared.lambda":=rfl
def RQ (k:Nat)(v:Int)(g:G):tab (k+1) 10 [.int v] g=some (.int (1-v),g):=by show ak false 1 1 (RK (tab k)) _ g=_;exact bp rfl (dE rfl) rfl
def MG (k:Nat)(a b:D)(c:List D):tab (k+1) 5 [.lst [a,b],.tup c] g=some (if c.length=0 then a else if c.length=1 then b else .tup [.str "told",.aB],g):=by
 show ak false 2 2 (Wz (tab k)) _ g=_;match c with
 | []=>exact bp rfl (gM (g1:=g) rfl rfl) rfl| [_]=>exact bp rfl (gM (g1:=g) rfl rfl) rfl
 |x::y::l =>
  have t:ax (ag oLt (aj bL (ae bg af)) (aj bL (ae b0 af))) [some (.lst [a,b]),some (.tup (x::y::l))] g=some (false,g):=by simp[fg];lia
  exact bp rfl (cL (g1:=g) ((cX t).trans rfl) (dE rfl)) rfl
noncomputable def qO (c:Nat)(a:Int):Int:=if c=0 then 0 else(a+1) % 2
def Up (k j:Nat)(e:cJ A (j:Int)=some (.int i)):tab (k+2) 6 [aV n p o s b,.tup [.str "put",.int j,v],.tup A] g=some (.int (qO o i),g):=by
 show ak false 3 3 (JX (tab (k+1))) _ g=_;have d:cR (i+1) 2=true:=gv (by lia);have r:∀i a c:D,cJ [i,a,c] 1=some a:=λ_ _ _=>rfl;have q:tab (k+1) 0 [aV n p o s b,.str "toggles"] g=some (.int o,g):=bp rfl (dE rfl) rfl;refine bp (σ':=[some (aV n p o s b),some (.tup [.str "put",.int j,v]),some (.tup A)]) rfl ?_ rfl;by_cases h:o=0
 . subst h
   simp[JX,q,qO]
 . simp[JX,q,qO,h,r,fj,bb,e,d]
def hpF {sh:Nat}(k j:Nat)(h:n<=5)(q:cJ A (j:Int)=some (.int i)):zh (aV n p s sh b) o j v (.tup A) (au n o sh) (qO s i) (tab (k+9) 8) (tab (k+9) 9) (tab (k+9) 6) (tab (k+9) 5) g :=
 ⟨JZ h (k+5) g,by have:=eZ (n:=n) (o:=o) (sh:=sh);lia,λ_ _ _ _ _ d e=>tW (R:=rs (tab (k+8))) d e,λ_ _ _ _ c _ d e=>vB (R:=rs (tab (k+8))) (fn:=tab (k+8) 10) (nm:="turned") (cap:=[]) rfl (RQ (k+7) c g) d e,Up (k+7) j q,λi a f=>MG (k+8) i a f⟩
def RR (k j:Nat)(h:ak false 13 5 (t6 (tab (k+9) 8) (tab (k+9) 9) (tab (k+9) 11) (tab (k+9) 6) (tab (k+9) 5)) [aV n p s b Z,.int o,.tup [.str "put",.int j,v],w,.tup A] g=some (x,g)):tab (k+12) 17 [aV n p s b Z,.int o,.tup [.str "put",.int j,v],w,.tup A] g=some (x,g):=by
 have c:tab (k+10) 16 [aV n p s b Z,.int o,.tup [.str "put",.int j,v],w,.tup A] g=some (x,g):=h;have a:tab (k+11) 18 [aV n p s b Z,.int o,.tup [.str "put",.int j,v],w,.tup A] g=some (x,g):=by show ak false 6 5 (RM (tab (k+10))) _ g=_;exact bp rfl (cD (d:=.str "shared") (g1:=g) rfl (cL ((cX (g1:=g) rfl).trans rfl) (cL ((cX (g1:=g) rfl).trans rfl) (cL ((cX (g1:=g) rfl).trans rfl) (cL ((cX (g1:=g) rfl).trans rfl) (dE (fX c rfl))))))) rfl
 show ak false 5 5 (RL (tab (k+11))) _ g=_;exact bp rfl (cL ((cX (g1:=g) rfl).trans rfl) (cL ((cX (g1:=g) rfl).trans rfl) (dE (fX a rfl)))) rfl
def RS {tg:Nat}(k j:Nat)(C:o<n)(O:n<=5)(E:1<=p)(B:p<=4){a:Int}(I:cJ A (j:Int)=some (.int a))(J:r.length=(au n o s).length)(all:∀en∈R,fI n p o s en)(y:fI n p o s q)(cH:R.length<=15)(H:∀k,k<R.length->cM (.int b) ((R ++ [q]).map (dA n o tg s)) k)(z:gP (.int b) ((R ++ [q]).map (dA n o tg s)) R.length X)(K:X≠none->flat v=true):
   yx (tab (k+12) 17) (aV n p tg s b) (.int o) (.tup [.str "put",.int j,w]) (.tup A) (((au n o s).zip r).flatMap (l4 o)++(eX n p o s (R ++ [q])++lZ X ++ [.tup [.str "write",own "view" o,pM q.2.2.1 v X],.tup [.str "write",own "box" j,.tup [w,.int o,.int (qO tg a)]]])) (cg (bI r)++(eN (R ++ [q])++jf v X ++ [.aB,.aB])) .aB g:=by
 have d:∀en∈R ++ [q],fI n p o s en:=λen M=>by
   rcases nY.mp M with M|M
   . exact all en M
   . simp at M;subst M;exact y
 have l:(lZ X).length=(jf v X).length:=by cases X<;>rfl
 refine Ie (look:=tab (k+9) 11) (hpF k j O I) J (λQ x h=>RR k j h) (by rw[nh,nh,kI d,jI d,l]) (λi f=>?_) (λx c=>Ig c) λrest M=>?_
 . obtain⟨x,u,c,e⟩:=HY (g:=g) (RO k) (Uo k) (WC k C O E B) (λg=>Um B (k+4) g) all y cH H z i f
   rw[<- RP]at e;exact⟨x,u,c,e⟩
 . have e:=My (g:=g) (rest:=rest) (colF:=tab (k+8) 3) (R':=rs (tab (k+6))) (nm2:="round_step_shared.lambda") (RO k) (WC k C O E B) K M all y cH H z
   rw[<- RP]at e;exact e
def pN (k:Nat):c9 (tab (k+1) 20):=Md
def F3 (k:Nat):ie (tab (k+2) 21):=Me (pN k)
def J0 (k:Nat):jZ (tab (k+3) 22):=Mj (pN (k+1)) (F3 k)
def RT (k:Nat):jE (tab (k+4) 30):=Fy (J0 k)
def RU (k:Nat)(w:n<=5)(h:p<=4):mr n p o (tab (k+6) 24) (tab (k+7) 26) Z Y b s c d (oC n p o d) A :=
 MB (pN (k+4)) (pN (k+3)) (F3 (k+2)) (J0 (k+1)) (RT k) rfl rfl rfl w (by lia) rfl rfl
def sA (k:Nat)(a:n<=5)(w:p<=4):mr n p o (tab (k+7) 24) (tab (k+7) 26) Z Y b s c d (oC n p o d) A :=
 ⟨(RU (k+1) a w).Rc,(RU (k+1) a w).VZ,(RU k a w).col⟩
def sG (k:Nat):j5 n (tab (k+6) 24) (F1 o) jG 31 p Z b s Y c A j :=
 wy (pN (k+4)) (by decide) λ_=>F2 (pick:=tab (k+4) 21) (value:=tab (k+4) 22) (state:=tab (k+4) 30) (pN (k+3))
def Uq {q:List D}{u:Int}(V:Wv n p o Z b s Y c A j q i g)(h:Hd a Z u)(f:p0 Z g a):Wv n p o Z b s Y c A j q u a:=by obtain⟨l,r,w,W,e,v,d,nb⟩:=V.W;exact⟨⟨l,r,w,W.fr f,e,v,d,nb⟩,h,by rw[f.1];exact V.lW,V.ez,V.ju,V.jv,V.bd.fr f h⟩
def Ur {g1:G}{g2:G}{a c:FE}{y z:D}{g3:G}(e:K l g=some (x,g1))(i:a l g1=some (y,g2))(f:c l g2=some (z,g3)):sR n p o (ae K (ae a (ae c af))) l g=some (.nx,((l.set n (some x)).set p (some y)).set o (some z),g3):=by simp[e,i,f]
def Zc {tg:Nat}(q:l[3]? = some (some (aV n p tg o s)))(u:l[8]? = some (some (.int Z)))(x:l[7]? = some (some (.tup A)))(y:tg<=1)(v:cJ A (Z:Int)=some (.int b)):aj iZ (ae (ip (ag oEq (ag ao de fh) cT) (ag oEq (ag (bX cR (· % ·)) (ag ao fb fc) eh) dV)) af) l g=some (.int (qO tg b),g):=by
 have mo:∀a r c d e f:D,cJ [a,r,c,d,e,f] 3=some d:=λ_ _ _ _ _ _=>rfl;have j:cR (b:Int) 2=true:=gv (by lia);have B:ag oEq (ag ao de fh) cT l g=some (.bl (decide ((tg:Int)=1)),g):=by simp[q,fj,bb,mo];rfl
 have i:ag oEq (ag (bX cR (· % ·)) (ag ao fb fc) eh) dV l g=some (.bl (decide ((b:Int) % 2=0)),g):=by simp[x,u,fj,bb,v,j];rfl
 rw[gm,bV,GU,B];unfold qO;by_cases h:tg=0
 . subst h;rfl
 . obtain rfl:tg=1:=by lia
   rw[show decide (((1:Nat):Int)=1)=true from rfl];simp only[fg,nv,if_true,i];by_cases h2:(b:Int) % 2=0
   . rw[show((b:Int)+1) % 2=1 by lia,decide_eq_true h2];rfl
   . rw[show((b:Int)+1) % 2=0 by lia,decide_eq_false h2];rfl
def J2 (h:K l g=some (v,a)):cQ K l g=some (.nx,l,a):=by rw[xo,h];rfl
def Zd (h:K l g=some (.bl true,a)):w6 (gW K) l g=some (false,a):=by rw[Lb,Ab,h];rfl
def Us (L:fI n p o s q)(d:∀j,X=some j->j<n/\lX p v):lX p (pM q.2.2.1 v X):=by
 cases X with
 |none =>
  refine⟨_,rfl,by rw[ro];exact L.sl,λw hw=>?_⟩;obtain⟨x,c,rfl⟩:=oa.mp hw;obtain⟨v,a,t,rfl,b⟩:=L.sa x c;exact b
 |some j=>exact(d j rfl).2
def J3 (a:flat w=true)(b:flat v=true)(c:dep w<=50)(d:dep v<=50):flat (.tup [.str "write",w,v])=true/\dep (.tup [.str "write",w,v])<=60:=⟨by simp[flat,aO,a,b],by simp[dep,bF];omega⟩
def baP {ns:List Int}{j:Nat}(R:j<=50)(E:Bd g){o5 o6 o7 o8 o9 K N:Option D}:
  ni (JW (tab 59) [some (.lst (ns.map .int)),some (.int j),Q,O,I,o5,o6,o7,o8,o9,H,M,J,K,N] g) λr=>r.1 = .nx/\(∃o1 Q O I o5 o6 o7 o8 o9 J4 lY J5 Bc Be,r.2.1 = [some (.lst (ns.map .int)),o1,Q,O,I,o5,o6,o7,o8,o9,J4,lY,J5,Bc,Be])/\Bd r.2.2:=by
 generalize hL:D.lst (ns.map .int)=L;generalize hP:ni _ _=P;have ar:Ff (tab 59 19):=Mf;obtain⟨xs,e1,d_⟩:=ar ns j g (by lia);rw[hL]at e1;refine Uc (Uk (hands:=tab 58 29) (pN 57) (F3 56) (HF (pN 56) (F3 55)) (h:=g.length) (B:=0) (by decide) d_) λn p tg sh mo g2 e2 n1 f p1 u JS m1 m4 U f2=>?_;change tab 59 35 _ _=_ at e2;refine fS (pN 58 g.length n g2 _ (by decide) (by lia) (by lia) U) λoi g3 e3 o0 o1 j_ f3=>?_;obtain⟨o,rfl⟩:∃k:Nat,oi=k:=⟨oi.toNat,(Wg o0).symm⟩
 have ho:o<n:=by lia
 have ah:AY (tab 59 28):=HG (F3 56);obtain⟨is,g4,e4,il,JT,f4⟩:=ah g.length p g3 _ (by lia) (by lia) j_;refine fS (pN 58 g.length p g4 _ (by lia) (by lia) (by lia) JT) λki g5 e5 k0 k1 Z f5=>?_;obtain⟨e,rfl⟩:∃k:Nat,ki=k:=⟨ki.toNat,(Wg k0).symm⟩
 have hk:e<p:=by lia
 have b5:Bd g5:=((((E.hand d_).fr f2 U).fr f3 j_).fr f4 JT).fr f5 Z
 replace Z:=Z.mono (B':=20) (by lia)
 refine rB (MA (world:=tab 58 23) (tg:=tg) (sh:=sh) (mo:=mo) (o:=o) (pN 57) (J0 55) (RT 54) HC n1 f p1 u Z (by decide) b5) λg6 e6 V6 l6=>?_;change tab 59 34 _ _=_ at e6;have lp:=MC (tg:=tg) (sh:=sh) (mo:=mo) (mv:=[]) (a0:=some L) (a1:=some (.int j)) (a2:=some (.ref g.length)) (a7:=some (.tup (is.map λ(i:Nat)=>D.int i))) (a8:=some (.int e)) (a10:=H) (a11:=M) (x:=J) (y:=K) (z:=N) (see:=tab 59 24) (set:=tab 59 25) (sG 53) rfl V6 ho f (by decide) (by simp) (by simp);obtain⟨⟨y7,σ7,g7⟩,e7,j9,⟨Br,qN,X⟩,ks,C⟩:=lp;dsimp only at j9 X C;subst j9 X;have sl:(au n o sh).length<=5:=by have:=eZ (n:=n) (o:=o) (sh:=sh);lia
 have zl:((au n o sh).zip ks).length=(au n o sh).length:=by rw[zk,C.kl];lia
 have V7:=C.V.mono (B':=1000) (by lia);rw[QX,QX]at V7;obtain⟨rs,q,en,v,g8,e8,c⟩:=Mx (tg:=tg) (sh:=sh) (mv:=[]) (CS (mv:=[]) (sA 50 f u) rfl ho f (by lia)) (sA 51 f u) f u m1 m4 (by decide) V7 (by rw[kJ,zl];lia) (by rw[e_];simp[bI,C.kl];lia);change tab 59 33 _ _=_ at e8;obtain⟨ff,dd⟩:=Bq c.last.sa c.en;have pv:=Us c.last c.en;obtain⟨iR,rl⟩:=c.len f u;have s:=c.V;rw[zU,zU]at s;generalize hT:eX n p o sh (rs ++ [q])++lZ en=T at s iR;generalize hQ:eN (rs ++ [q])++jf v en=o4 at s iR rl;generalize hS:((au n o sh).zip ks).flatMap (l4 o)=S at s;generalize hW:cg (bI ks)=W0 at s;have zS:S.length<=10:=by rw[<- hS,kJ,zl];lia
 have zW:W0.length=S.length:=by rw[<- hS,<- hW,kJ,zl,e_];simp[bI,C.kl]
 refine rB (Ia s (.inr (.inl ⟨o,ho,rfl⟩)) (by rw[rR];exact pv) ff (by rw[nh];lia) (by rw[nh];lia)) λg9 e9 V9 f9=>?_;change tab 59 25 _ _=_ at e9;refine pC (J0 56 g.length g9 _ (by decide) V9.hd) λval aS vF hv Ze aC=>?_;change tab 59 22 _ _=_ at vF;have aq:=Uq V9 Ze aC;obtain⟨A,ha⟩:∃A:Nat,cJ (is.map λ(i:Nat)=>D.int i) (e:Int)=some (.int A):=⟨_,Fg (by simp[nP (show e<is.length by lia)];rfl)⟩
 refine rB (Ia (key:=own "box" e) (v:=.tup [val,.int o,.int (qO tg A)]) aq (.inl ⟨e,hk,rfl⟩) (by rw[qj];exact⟨val,o,qO tg A,rfl,hv,by lia,by lia⟩) (by simp[flat,aO,hv.1]) (by simp only[nh,F4];lia) (by simp only[nh,F4];lia)) λY yH ab aW=>?_;change tab 59 25 _ _=_ at yH;obtain⟨l,bx,_,W,_⟩:=ab.W;have sf:∀x∈S++(T ++ [.tup [.str "write",own "view" o,pM q.2.2.1 v en],.tup [.str "write",own "box" e,.tup [val,.int o,.int (qO tg A)]]]),flat x=true/\dep x<=60:=λx b=>by
  rcases nY.mp b with b|b
  . subst hS
    obtain⟨y,_,b⟩:=adD.mp b;simp only[l4,nQ,vV,or_false]at b;rcases b with rfl|rfl<;>exact⟨rfl,NC rfl⟩
  . rcases nY.mp b with b|b
    . subst hT;exact H_ b
    . have h3:=hv.1
      have h4:=hv.2;simp only[nQ,vV,or_false]at b;rcases b with rfl|rfl
      . exact J3 rfl ff (NC rfl) dd
      . exact J3 rfl (by simp[flat,aO,h3]) (NC rfl) (by simp[dep,bF];lia)
 have nx:=RS (tg:=tg) (v:=v) (w:=val) (g:=Y) 46 e ho f p1 u (a:=(A:Int)) ha C.kl c.all c.last c.cH c.go c.ends λh=>by
  cases en with
  |none=>exact absurd rfl h|some j=>exact ff
 rw[hT,hQ,hS,hW]at nx;have JF:tab 59 27 [aV n p tg sh mo,.int o,.tup [.str "put",.int e,val],.tup (is.map λ(i:Nat)=>D.int i),.aA (g5.length+1),.aB] Y=some (.bl true,Y):=by simp only[zU,ad6,QX]at W;exact CO W (by simp only[nh,xk,ae8];lia) (by simp only[nh,xk,ae8];lia) sf rfl (by decide) nx
 subst hP;unfold JW;refine gO (d:=.ref g.length) (g1:=g ++ [xs]) (fX e1 rfl) ?_;unfold Wu;refine gO (d:=aV n p tg sh mo) (g1:=g2) (fX e2 rfl) ?_;unfold Wt;refine cj (Ur (x:=.int n) (y:=.int p) (z:=.int o) (g1:=g2) (g2:=g2) (g3:=g3) rfl rfl (fX e3 rfl)) ?_;unfold Wr;refine cj (CF (fX e4 rfl) (fX e5 rfl)) ?_;unfold Wq;refine gO (d:=.aA (g5.length+1)) (g1:=g6) (fX e6 rfl) ?_;unfold Wo;refine cj e7 ?_;unfold Wn;refine gO (d:=pM q.2.2.1 v en) (g1:=g8) (fX e8 rfl) ?_;unfold Wk;refine cj (σ1:=_) (g1:=g9) (J2 (fX e9 rfl)) ?_;unfold Wj;refine cj (CF (Zc (tg:=tg) rfl rfl rfl JS ha) (fX vF rfl)) ?_;unfold RJ;refine cj (σ1:=_) (g1:=Y) (J2 (fX yH rfl)) ?_;unfold RH;exact⟨_,(cX (g1:=Y) (Zd (fX JF rfl))).trans rfl,rfl,⟨_,_,_,_,_,_,_,_,_,_,_,_,_,_,rfl⟩,ab.bd⟩
def Ii (ns:List Int)(A:ns.length<=63):∃B,tab 60 36 [.lst (ns.map .int)] []=some (.bl true,B):=by
 have C:ni (tab 60 36 [.lst (ns.map .int)] []) λq=>q.1 = .bl true:=by
  show ni (ak false 15 1 (Ih (tab 59)) _ _) _;refine mO rfl ?_;have J:Ih (tab 59)=av (dB (dR (ae (ag bo fh (aj ((kB me i0)) (ae (fC (.int 6)) (ae (aj bL (ae b0 af)) af)))) af)) (gN 1) (JW (tab 59))) (aM j3):=rfl;rw[J];have p:∀a b:Int,∀g:G,kB me i0 [.int a,.int b] g=some (.int (if b<a then b else a),g):=λa b g=>rfl;simp[p];refine qd ?_;simp[p];have hc:(if(ns.length:Int)<6 then(ns.length:Int)else 6)<=6/\0<=(if(ns.length:Int)<6 then(ns.length:Int)else 6):=by split<;>omega
  refine⟨by omega,by omega,fG (λj E g=>(∃n h u s c z o H v x I l y f,E = [some (.lst (ns.map .int)),n,h,u,s,c,z,o,H,v,x,I,l,y,f])/\Bd g) _ 0 _ _ ⟨⟨_,_,_,_,_,_,_,_,_,_,_,_,_,_,rfl⟩,λi R e=>by simp at e⟩ ?_ ?_⟩
  . rintro j d E g M ⟨⟨n,h,u,s,c,z,o,H,v,x,I,l,y,f,rfl⟩,O⟩
    obtain⟨U,rfl⟩:=dj M;simp;refine NT (baP (ns:=ns) (j:=j) (by omega) O) λr hr=>?_;obtain⟨h1,h2,Q⟩:=hr;rw[h1];exact⟨h2,Q⟩
  . rintro E g _
    simp[bU]
 obtain⟨⟨d,B⟩,e,rfl⟩:=C;exact⟨B,e⟩
end
section
open PyProof.Rows
variable {I Z M J H:Array (Option Value)}{h b d e c:Addr}
def walk {l:ad2}{a:List Str}{e:(Str->Option Value)->Heap->Prop}{c:World->Heap->Prop}{d:DefRec}{K:Params->o3}(o:l.most=some 63)(j:d.params.defaults = [])(p:d.name = "law")(n:∀(w:World) (h:Heap),c w h->(K w.params).In h /\ ∀P∈O,h.get? P=some (VG #[]))(F:∀(w:World) (mg:Str->Option Value) (h:Heap),(K w.params).In h->h.Ns uP mg->At (K w.params) O w mg mo):
  ag_ q a e c l.row.toRowW d [] (λf g=>agZ f g):=
 L_ (i:=36) (R:=60) (x:="_law_script") o ⟨rfl,by decide,by decide,rfl⟩ j p n F rfl rfl rfl rfl good (by decide +kernel) Ii
def zy {K:o3}{mg:Str->Option Value}{i:Addr}{aW:_}{W:_}{P:_}{p:_}{N:_}{ar:_}{C:_}{x:_}{Q:_}{g:_}{L:Array (Option Value)}{B:_}{z:_}{s:_}{aB:_}{aS:_}{E:_}{w:_}{n:_}{y:_}{aC:_}{U:_}{l:_}{j:_}{o:_}{A:_}{r:_}{S:_}{O:_}{v:_}{q:_}(a4:Rv K uP "NUMBERS" = some (some (.ref i)))(a0:K.lookup i=some ⟨.type "dict",none,.dict #[⟨ad0 u.params "once",.str "once" W,.ref f⟩,⟨ad0 u.params "twice",.str "twice" N,.ref h⟩,⟨ad0 u.params "handed",.str "handed" Q,.ref b⟩,⟨ad0 u.params "signs",.str "signs" aB,.ref d⟩,⟨ad0 u.params "shared",.str "shared" aC,.ref e⟩,⟨ad0 u.params "tables",.str "tables" S,.ref c⟩] aW,#[]⟩)(X:K.lookup f=some ⟨.type "tuple",none,.seq #[(.str "hands" p)] P,Z⟩)(ab:K.lookup h=some ⟨.type "tuple",none,.seq #[(.str "hands" C),(.str "turn" x)] ar,I⟩)(Y:K.lookup b=some ⟨.type "tuple",none,.seq #[(.str "hands" B),(.str "turn" z),(.str "moves" s)] g,L⟩)(T:K.lookup d=some ⟨.type "tuple",none,.seq #[(.str "hands" E),(.str "toggles" w),(.str "shakes" n),(.str "moves" y)] aS,M⟩)(R:K.lookup e=some ⟨.type "tuple",none,.seq #[(.str "hands" l),(.str "places" j),(.str "toggles" o),(.str "shakes" A),(.str "moves" r)] U,J⟩)(aq:K.lookup c=some ⟨.type "tuple",none,.seq #[(.str "hands" v),(.str "boxes" q)] O,H⟩)(a3:(i == O2)=false):∃a,Rv K uP "NUMBERS" = some (some (.ref a)) /\ ∀lx,jM u ⟨K,u,mg,lx⟩ a mq:=⟨_,a4,λlx=>⟨⟨_,_,_,a0,⟨rfl,rfl,rfl⟩,rfl,⟨_,_,_,rfl,⟨_,rfl⟩,rfl,⟨.ref f,rfl,.inr ⟨_,_,_,_,_,rfl,by rfl,rfl,X,rfl,rfl,rfl,(show 1<=nE by decide),.cons ⟨_,rfl⟩ (.nil)⟩⟩,⟨_,_,_,rfl,⟨_,rfl⟩,rfl,⟨.ref h,rfl,.inr ⟨_,_,_,_,_,rfl,by rfl,rfl,ab,rfl,rfl,rfl,(show 2<=nE by decide),.cons ⟨_,rfl⟩ (.cons ⟨_,rfl⟩ (.nil))⟩⟩,⟨_,_,_,rfl,⟨_,rfl⟩,rfl,⟨.ref b,rfl,.inr ⟨_,_,_,_,_,rfl,by rfl,rfl,Y,rfl,rfl,rfl,(show 3<=nE by decide),.cons ⟨_,rfl⟩ (.cons ⟨_,rfl⟩ (.cons ⟨_,rfl⟩ (.nil)))⟩⟩,⟨_,_,_,rfl,⟨_,rfl⟩,rfl,⟨.ref d,rfl,.inr ⟨_,_,_,_,_,rfl,by rfl,rfl,T,rfl,rfl,rfl,(show 4<=nE by decide),.cons ⟨_,rfl⟩ (.cons ⟨_,rfl⟩ (.cons ⟨_,rfl⟩ (.cons ⟨_,rfl⟩ (.nil))))⟩⟩,⟨_,_,_,rfl,⟨_,rfl⟩,rfl,⟨.ref e,rfl,.inr ⟨_,_,_,_,_,rfl,by rfl,rfl,R,rfl,rfl,rfl,(show 5<=nE by decide),.cons ⟨_,rfl⟩ (.cons ⟨_,rfl⟩ (.cons ⟨_,rfl⟩ (.cons ⟨_,rfl⟩ (.cons ⟨_,rfl⟩ (.nil)))))⟩⟩,⟨_,_,_,rfl,⟨_,rfl⟩,rfl,⟨.ref c,rfl,.inr ⟨_,_,_,_,_,rfl,by rfl,rfl,aq,rfl,rfl,rfl,(show 2<=nE by decide),.cons ⟨_,rfl⟩ (.cons ⟨_,rfl⟩ (.nil))⟩⟩,rfl⟩⟩⟩⟩⟩⟩⟩,a3⟩⟩
end
open PySem.W PyProof.Rows
namespace PySem.W.Fast
theorem te16204720897082640376:1=1:=rfl
theorem tw13885246841772331811:1=1:=rfl
theorem tw9501638162523136124:1=1:=rfl
theorem tw11444089946964306397:1=1:=rfl
theorem tw15480142353761201348:1=1:=rfl
theorem tw9941621176179930361:1=1:=rfl
theorem tw5804297278590596058:1=1:=rfl
theorem tw15359046915235782818:1=1:=rfl
theorem tw8482144816933762573:1=1:=rfl
theorem tw5990200230751633736:1=1:=rfl
theorem tw6333444749255673498:1=1:=rfl
theorem tw6380991997211370596:1=1:=rfl
theorem tw3843901351240358113:1=1:=rfl
theorem tw8211479710859546726:1=1:=rfl
theorem tw1147231944371651969:1=1:=rfl
theorem tw4230700109547287201:1=1:=rfl
theorem tw10412905051726949426:1=1:=rfl
theorem tw17233433838842789300:1=1:=rfl
theorem tw14720491630520694005:1=1:=rfl
theorem tw9222034719635822071:1=1:=rfl
theorem tw1308679210767760596:1=1:=rfl
theorem tw1574262803442087492:1=1:=rfl
theorem tw5124507758094287758:1=1:=rfl
theorem tw17057659088451772431:1=1:=rfl
theorem tw18262084768474021272:1=1:=rfl
theorem tw202426571060142902:1=1:=rfl
theorem tw6273234317716363035:1=1:=rfl
theorem tw8240376509698797843:1=1:=rfl
theorem tw18403311216103243416:1=1:=rfl
theorem tw4883717736281548156:1=1:=rfl
theorem tw11000014755276373490:1=1:=rfl
theorem tw16956335270281755903:1=1:=rfl
theorem tw9084032489989871755:1=1:=rfl
theorem tw9824370022138851083:1=1:=rfl
theorem tw18045014234684814369:1=1:=rfl
theorem tw3714755997731504:1=1:=rfl
theorem tw11908797500115956447:1=1:=rfl
theorem tw13488775158419733652:1=1:=rfl
theorem tw2437881772570987380:1=1:=rfl
theorem tw5507871805199297055:1=1:=rfl
theorem tw2080774124999828283:1=1:=rfl
theorem tw14840024034222475658:1=1:=rfl
theorem tw5433575774460054754:1=1:=rfl
theorem tw2357371794477432162:1=1:=rfl
theorem tw10904103518332711373:1=1:=rfl
theorem tw8681335043750479677:1=1:=rfl
theorem tw6599342847286551603:1=1:=rfl
theorem tw1984143644313132267:1=1:=rfl
theorem tw1169722497682985345:1=1:=rfl
theorem tw16313723576220531052:1=1:=rfl
theorem tw9920722993279623180:1=1:=rfl
theorem tw2097358581547048140:1=1:=rfl
theorem tw7369305546661450367:1=1:=rfl
theorem tw1910279584432775862:1=1:=rfl
theorem tw4276048909440811212:1=1:=rfl
theorem tw17369045076410795210:1=1:=rfl
theorem tw12717449204077839944:1=1:=rfl
theorem tw7966499570330168308:1=1:=rfl
theorem tw7548154597535966221:1=1:=rfl
theorem tw18147294893056489596:1=1:=rfl
theorem tw10121004357567612226:1=1:=rfl
theorem tw161984706056930212:1=1:=rfl
theorem tw6778527006438815259:1=1:=rfl
theorem tw6286882105401042310:1=1:=rfl
theorem tw4841986052480209904:1=1:=rfl
theorem tw7661834113302110189:1=1:=rfl
theorem tw9422642807178569129:1=1:=rfl
theorem tw337473162674969318:1=1:=rfl
theorem tw12056316955644166697:1=1:=rfl
theorem tw7114914085420156939:1=1:=rfl
theorem tw5391659942022944967:1=1:=rfl
theorem tw13284222898650590396:1=1:=rfl
theorem tw8391679257701442081:1=1:=rfl
theorem tw7528613740292190042:1=1:=rfl
theorem tw13799335204111020644:1=1:=rfl
theorem tw14818692289973912436:1=1:=rfl
theorem tw16296422938872059957:1=1:=rfl
theorem tw18368377527585966571:1=1:=rfl
theorem tw10846244246489089297:1=1:=rfl
theorem tw17416820233600417825:1=1:=rfl
theorem tw9410964262042881063:1=1:=rfl
theorem tw16501944672784236699:1=1:=rfl
theorem tw1769469704143569569:1=1:=rfl
theorem tw10201162706336139535:1=1:=rfl
theorem tw6323377226901120241:1=1:=rfl
theorem tw18009565704801718188:1=1:=rfl
theorem tw13936361295032645485:1=1:=rfl
theorem tw18259370193428675117:1=1:=rfl
theorem tw3703124886872757952:1=1:=rfl
theorem tw17878379745883419612:1=1:=rfl
theorem tw11920048636450773950:1=1:=rfl
theorem tw3624377416016921830:1=1:=rfl
theorem tw16273095237870490783:1=1:=rfl
theorem tw13402829544086161652:1=1:=rfl
theorem tw17077854184427071381:1=1:=rfl
theorem tw4466494915535447853:1=1:=rfl
theorem tw16315084279888538656:1=1:=rfl
theorem tw13438557034646072124:1=1:=rfl
theorem tw10351852755805450323:1=1:=rfl
theorem tw17541637954280604960:1=1:=rfl
theorem tw14652630148256158770:1=1:=rfl
theorem tw9147252205845470916:1=1:=rfl
theorem tw13662627343219362352:1=1:=rfl
theorem tw4139655973531608656:1=1:=rfl
theorem tw6152783114237818421:1=1:=rfl
theorem tw7067096156885358712:1=1:=rfl
theorem tw827077041669013947:1=1:=rfl
theorem tw5611923817887824861:1=1:=rfl
theorem tw3305673000594513802:1=1:=rfl
theorem tw5953114493341133121:1=1:=rfl
theorem tw16426018631557324411:1=1:=rfl
theorem tw7852448379323960626:1=1:=rfl
theorem tw18246265073361683130:1=1:=rfl
theorem tw6387415720700189584:1=1:=rfl
theorem tw6649152952291773841:1=1:=rfl
theorem tw9674091242302633004:1=1:=rfl
theorem tw6631558242884825144:1=1:=rfl
theorem tw18119545900993226330:1=1:=rfl
theorem tw4150281342890825999:1=1:=rfl
theorem tw10579800321162613346:1=1:=rfl
theorem tw11725474267889954476:1=1:=rfl
theorem tw17277679663238232095:1=1:=rfl
theorem tw3813881338638326413:1=1:=rfl
theorem tw8061219146534812094:1=1:=rfl
theorem tw14480208562163889136:1=1:=rfl
theorem tw372422853366872077:1=1:=rfl
theorem tw5667484544429983320:1=1:=rfl
theorem tw130632860689923022:1=1:=rfl
theorem tw12031050574057933258:1=1:=rfl
theorem tw4073044920997580374:1=1:=rfl
theorem tw6005584174476468818:1=1:=rfl
theorem tw4049038560343927841:1=1:=rfl
theorem tw2684770909221486325:1=1:=rfl
theorem tw3457122302678096863:1=1:=rfl
theorem tw4341619372490093893:1=1:=rfl
theorem tw3478761737991652222:1=1:=rfl
theorem tw17499185831622185723:1=1:=rfl
theorem tw9115964077105261065:1=1:=rfl
theorem tw12111976472628445837:1=1:=rfl
theorem tw2735921220900158686:1=1:=rfl
theorem tw12035398262106161704:1=1:=rfl
theorem tw1057621596637051380:1=1:=rfl
theorem tw9597916881625133541:1=1:=rfl
theorem tw15011105567722110946:1=1:=rfl
theorem tw79816324190586836:1=1:=rfl
theorem tw14370784576762628342:1=1:=rfl
theorem tw16271590056947349313:1=1:=rfl
theorem tw7949605856607208494:1=1:=rfl
theorem tw2007500576316485733:1=1:=rfl
theorem tw12255649203497516141:1=1:=rfl
theorem tw15384979297803127698:1=1:=rfl
theorem tw15448642361742676375:1=1:=rfl
theorem tw18082379457882591366:1=1:=rfl
theorem tw4611482490100560043:1=1:=rfl
theorem tw13393085669179258027:1=1:=rfl
theorem tw15029708181821938221:1=1:=rfl
theorem tw12945357408359427995:1=1:=rfl
theorem tw2625093813290941568:1=1:=rfl
theorem tw13824834613218377076:1=1:=rfl
theorem tw18364512167996152871:1=1:=rfl
theorem tw11419352109512613779:1=1:=rfl
theorem tw11303332525898034727:1=1:=rfl
theorem tw3198656466203852372:1=1:=rfl
theorem tw18422563936441081235:1=1:=rfl
theorem tw7102498398696920438:1=1:=rfl
theorem tw1012376233448589932:1=1:=rfl
theorem tw15496706461805145013:1=1:=rfl
theorem tw4660500307225700438:1=1:=rfl
theorem tw7123471605783470094:1=1:=rfl
theorem tw17549725627604840722:1=1:=rfl
theorem tw13782332201133524423:1=1:=rfl
theorem tw4951616727809079606:1=1:=rfl
theorem tw5398216561234511900:1=1:=rfl
theorem tw2755611446093251242:1=1:=rfl
theorem tw10548125276494721:1=1:=rfl
theorem tw18261303036924149493:1=1:=rfl
theorem tw5659385520948867903:1=1:=rfl
theorem tw1192542929619816959:1=1:=rfl
theorem tw15447722293124381976:1=1:=rfl
theorem tw16406098015569319475:1=1:=rfl
theorem tw12487172598301518766:1=1:=rfl
theorem tw12771000120759927817:1=1:=rfl
theorem tw13945851001713330373:1=1:=rfl
theorem tw13596266415151127242:1=1:=rfl
theorem tw11124300827560051708:1=1:=rfl
theorem tw12272773038031801763:1=1:=rfl
theorem tw6121711439364844799:1=1:=rfl
theorem tw17818721763760434576:1=1:=rfl
theorem tw12344748264386190802:1=1:=rfl
theorem tw13771014612788613292:1=1:=rfl
theorem tw10806892532691096369:1=1:=rfl
theorem tw11572990024930027181:1=1:=rfl
theorem tw16104902954226714591:1=1:=rfl
theorem tw1943394763059090317:1=1:=rfl
theorem tw1891171595216589371:1=1:=rfl
theorem tw568734749458410985:1=1:=rfl
theorem tw113836072946818721:1=1:=rfl
theorem tw16784697036472160640:1=1:=rfl
theorem tw10509250229901262971:1=1:=rfl
theorem tw8246997040177866692:1=1:=rfl
theorem tw8700431297321743660:1=1:=rfl
theorem tw5944119256605390304:1=1:=rfl
theorem tw17650261936528722240:1=1:=rfl
theorem tw15919753849905313587:1=1:=rfl
theorem tw17376346494609553336:1=1:=rfl
theorem tw9122552406863535393:1=1:=rfl
theorem tw12187865378648965973:1=1:=rfl
theorem tw15470527896671879012:1=1:=rfl
theorem tw13694538874131111884:1=1:=rfl
theorem tw2839917044025008276:1=1:=rfl
theorem tw1805346153420329152:1=1:=rfl
theorem tw11006336952996384587:1=1:=rfl
theorem tw16976542864783978745:1=1:=rfl
theorem tw10407896101635072494:1=1:=rfl
theorem tw15401995793907542520:1=1:=rfl
theorem tw3879250032517341570:1=1:=rfl
theorem tw2812264342961191324:1=1:=rfl
theorem tw8927357282652287093:1=1:=rfl
theorem tw12424218402759996844:1=1:=rfl
theorem tw13897345775105753789:1=1:=rfl
theorem tw14507454582135333533:1=1:=rfl
theorem tw9568809293436351086:1=1:=rfl
end PySem.W.Fast

set_option maxRecDepth 100000 in
set_option maxHeartbeats 0 in
theorem PySem.Challenge.cw_wholeglance_k23_puts_of_shared_holds : PySem.Challenge.rw_wholeglance_k23_puts_of_shared.Holds := by
  w_on; o_law; k_head; (case hw => w_witness2)
  k_fill
  refine walk (l := PySem.Challenge.rw_wholeglance_k23_puts_of_shared) rfl rfl rfl (fun w h Y => by exact ⟨PySem.W.km_in_of Y, PySem.W.km_tabs_of Y⟩) ?F
  case F =>
    intro w mg h KX G
    refine' ⟨_, _, _, (bu.cons ?_ ?_ ?_ ?_ (oo fun _ _=>rfl)
 (bu.cons ?_ ?_ ?_ ?_ (oj fun _=>rfl)
 (bu.cons ?_ ?_ ?_ ?_ (oj fun _=>rfl)
 (bu.cons ?_ ?_ ?_ ?_ (oj fun _=>rfl)
 (bu.cons ?_ ?_ ?_ ?_ (EO fun _ _ _ _ _=>rfl)
 (bu.cons ?_ ?_ ?_ ?_ (oo fun _ _=>rfl)
 (bu.cons ?_ ?_ ?_ ?_ (mY fun _ _ _=>rfl)
 (bu.cons ?_ ?_ ?_ ?_ (oo fun _ _=>rfl)
 (bu.cons ?_ ?_ ?_ ?_ (oo fun _ _=>rfl)
 (bu.cons ?_ ?_ ?_ ?_ (Vy fun _ _ _ _=>rfl)
 (bu.cons ?_ ?_ ?_ ?_ (oj fun _=>rfl)
 (bu.maker ?_ ?_ ?_ ?_ ?_ ?_ ?_ ?_ ?_ (mY fun _ _ _=>rfl)
 (bu.maker ?_ ?_ ?_ ?_ ?_ ?_ ?_ ?_ ?_ (mY fun _ _ _=>rfl)
 (bu.cons ?_ ?_ ?_ ?_ (mY fun _ _ _=>rfl)
 (bu.cons ?_ ?_ ?_ ?_ (mY fun _ _ _=>rfl)
 (bu.cons ?_ ?_ ?_ ?_ (mY fun _ _ _=>rfl)
 (bu.cons ?_ ?_ ?_ ?_ (EO fun _ _ _ _ _=>rfl)
 (bu.cons ?_ ?_ ?_ ?_ (EO fun _ _ _ _ _=>rfl)
 (bu.cons ?_ ?_ ?_ ?_ (EO fun _ _ _ _ _=>rfl)
 (bu.cons ?_ ?_ ?_ ?_ (oo fun _ _=>rfl)
 (bu.cons ?_ ?_ ?_ ?_ (oo fun _ _=>rfl)
 (bu.cons ?_ ?_ ?_ ?_ (oo fun _ _=>rfl)
 (bu.cons ?_ ?_ ?_ ?_ (oj fun _=>rfl)
 (bu.cons ?_ ?_ ?_ ?_ (mY fun _ _ _=>rfl)
 (bu.cons ?_ ?_ ?_ ?_ (oo fun _ _=>rfl)
 (bu.cons ?_ ?_ ?_ ?_ (mY fun _ _ _=>rfl)
 (bu.cons ?_ ?_ ?_ ?_ (mY fun _ _ _=>rfl)
 (bu.cons ?_ ?_ ?_ ?_ (us6 fun _ _ _ _ _ _=>rfl)
 (bu.cons ?_ ?_ ?_ ?_ (oo fun _ _=>rfl)
 (bu.cons ?_ ?_ ?_ ?_ (oj fun _=>rfl)
 (bu.cons ?_ ?_ ?_ ?_ (oo fun _ _=>rfl)
 (bu.cons ?_ ?_ ?_ ?_ (oo fun _ _=>rfl)
 (bu.cons ?_ ?_ ?_ ?_ (mY fun _ _ _=>rfl)
 (bu.cons ?_ ?_ ?_ ?_ (mY fun _ _ _=>rfl)
 (bu.cons ?_ ?_ ?_ ?_ (mY fun _ _ _=>rfl)
 (bu.cons ?_ ?_ ?_ ?_ (oj fun _=>rfl)
 (bu.cons ?_ ?_ ?_ ?_ (oj fun _=>rfl)
 (bu.lam (fun _ _ _ _ => (oj fun _=>rfl)) (bu.lam (fun _ _ _ _ => (oj fun _=>rfl)) bu.nil))))))))))))))))))))))))))))))))))))))), ?_,
 (bc ?z_len (bc ?z_min (bc ?z_int (bc ?z_tuple (bc ?z_sorted (bc ?z_set (bc ?z_range (bc ?z_zip (bc ?z_isinstance bn))))))))),
    VA, (cc (zy ?qn_NUMBERS ?ql_NUMBERS ?qv_NUMBERS_0 ?qv_NUMBERS_1 ?qv_NUMBERS_2 ?qv_NUMBERS_3 ?qv_NUMBERS_4 ?qv_NUMBERS_5 ?qs_NUMBERS) VA)⟩
    all_goals try first | k_is | rfl | kernel_rfl | k_mem
