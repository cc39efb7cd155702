import PyProof.Rows.All
import Wide.All
import OpenK.AllK
import Wide.FinOn
import Lean
import PyProof.EqAt
import PyProof.EqKinds
import PyProof.TupleCall
import PySem.Challenge.RW_wholeglance_k26_whole_steps_at_most
set_option backward.eqns.nonrecursive false
noncomputable section
open PySem renaming wpAny_bind->jg,Shared->j0,wpAny_pure->kn,sizeLine->lX,starEach->lY,Program->p9,Around->nc,mem_of_lookup->vD,mainGlobals->qr,wpAny_holding->sZ,wpAny_newObj_type->x3,DictEntry->qb,wpAny_call_entry->xx,foldedSetIterable->y3,wpAny_callSpecial?_slot->Nc,compareOp->ra,wpAny_ite_split->zX,binaryOp->qC,placesWithHash->z_,FuncData->u9,cellsFrom->tc,wpAny_Call_Name_kw->OT,Builtin->sk,assignEach->xW,wpAny_field->yS,wpAny_rule->yn,backTo->su,NameKind->v7,sizeLine_eq->Hy,codeAny_builtin->Sl,wpAny_truthy_bool->Te,bootBuiltins->Nu,wpAny_passesOwn->SI,Comprehension->YC,holding->zk,wpAny_seqItems->Uo,rawInt->xy,IsPart->wa,wpAny_typeOf->RY,wpAny_askSetting->Vu,wpAny_forIn_list->YK,swappedStores->TF,sysModules->NV,call_meets->Of,wpAny_dictEpoch->Xp,wpAny_sequenceKey->YZ,wpAny_setState_of->adi,codeAny_mono->SR,builtinLookup_eq_fast->adm,Arguments->Qt,swapsWith->NM,assign->AR,swapsWithSole->Yz,plainId_quiet->YD,intKind->GD,codeAny->F2,sliceBounds->TC,wpAny_ite_false->Z3,Operator->SW,pyNext->Bv,SetTable->Rr,pickOrder->R9,wpAny_setField_rec->adR,getItem->Mi,setNext->MS,wpAny_setField->ad0,wpAny_pyIter_list->ad5,slot_dict_getitem->ad7,behindInMarks->Y2,attributeBase->Zg,wpAny_isInstance->aei,seqSlot_of->ael,wpAny_mono->Yq,wpAny_Name->Wd,wpAny_loadName_local->aex,wpAny_execs_nil->aey,typeLookup_type->aeD,wpAny_loadName_cell->aeI,wpAny_setEntries_of->aeK,bindArgs->Th,Keyword->Po,callerA->Qj,firstArgMember->aeP,PassesOwn->Ut,slot_dict_contains->ae6,wpAny_standAt->afb,wpAny_dictEntries->afi,builtinsNs->Y6,typeIs_int->afo,closureFor->Y7,fillsNumberSlot_seq->afr,relabel->Up,dictGet->T6,GenState->afx,pyIter->Pp,concat_meets->afA,noFill_tuple_add->afB,checkBuiltinCall->afF,beq_builtin_none->afH,letOwnedTupleGo->afO,wpAny_specialOf->afQ,wpAny_updateSeq->afR,eqIsQuiet->afS,wpAny_pyNext_list_item->afU,wpAny_Call_method_late->afW,standAt->Yj,wpAny_pyNext_list_end->af8,argsOk->TL,wpAny_nextOf_list_end->agd,wpAny_notOrdered_dict->agf,wpAny_call->agh,call->agk,setsByText->agl,seqRepeat?->agm,numAt_eq->Z0,assignInOrder->agr,seq_tuple_add->ags,wpAny_attempt->agw,wpAny_loadName_free->agy,hashInt->Zb,setItem->agU,BindsTo->agV,seqIndex_of->ag9,keywordEach->ag_,wpAny_of_eq->aha,wpAny_alloc->ahb
open List renaming getElem?_eq_getElem->lC,getElem?_eq_some_iff->l8,length_append->lN,getElem?_append_left->m5,getD_eq_getElem?_getD->nK,replicate->l6,mem_cons->l2,mem_append->mF,mem_cons_of_mem->nW,size_toArray->m3,getElem?_map->m2,mem_map->mM,getElem?_append_right->th,mem_of_getElem?->qt,length_map->oY,mem_cons_self->qc,getElem_mem->p6,getElem?_set_self->ua,append_assoc->sP,range->nN,mem_filter->ro,lookup_cons->vb,length_cons->vq,append_nil->tA,drop_eq_getElem_cons->MP,take_of_length_le->Gw,any_cons->vy,mem_append_right->Gk,filterMap_cons->Bu,mem_map_of_mem->Cm,length_take->yX,set_getElem_self->L6,length_filter_le->LW,map_cons->wh,flatten_cons->Dx,mem_of_mem_take->M3,not_mem_nil->A9,getElem?_eq_none->OF,set_append_right->N1,getElem?_set_ne->Oc,nodup_cons->DK,mem_iff_getElem->NX,length_zip->BU,set_append_left->OU,all_eq_true->EN,filter_sublist->Nx,mem_range->Cn,map_append->Gn,mem_filterMap->OW,getElem?_take_of_lt->XH,map_map->Dd,eq_of_mem_replicate->XW,getElem?_of_mem->TJ,nodup_append->Qs,nil_append->OQ,replicate_succ->TM,flatMap_cons->SJ,elem_iff->OZ,length_eq_zero_iff->YL,getElem?_range->Xw,nodup_nil->Sm,range'->KY,of_mem_zip->TB,getElem?_eq_none_iff->acR,drop_eq_nil_iff->ZZ,drop_left->T2,set_set->PL,filter_cons->X3,getElem?_cons_zero->ac7,eq_nil_of_length_eq_zero->adf,take_append_of_le_length->adg,ext_getElem?->Zy,take_left->W0,length_pos_iff->adH,getElem?_zip_eq_some->adJ,drop_zero->ad2,findIdx?_eq_some_iff_getElem->aea,all_cons->Z4,length_drop->aeh,mem_reverse->aej,any_eq_true->aek,nodup_range->aem,isEmpty_iff->aeo,mem_iff_getElem?->aes,mem_append_left->aeu,forIn_cons->aeF,take_succ->aeQ,length->aeS,mem_singleton->ae2,set_cons_zero->ae3,set_cons_succ->ae4,filter_append->ae_,take_sublist->aff,getElem?_inj->afj,getElem_inj->afy,range'_succ->afG,flatten_nil->afJ,getElem?_replicate->afL,length_set->afP,find?_some->afT,range_succ_eq_map->afY,drop_eq_nil_of_le->af3,map_id->af4,length_pos_of_mem->af5,pairwise_lt_range->af6,length_singleton->af9,singleton_append->aga,min?_eq_some_iff->age,getElem?_zipIdx->ago,take_succ_cons->agA,filterMap_map->agJ,map_nil->agL,any_nil->agQ,getElem_take->ag2,pairwise_map->ag7,length_range->ag8,mem_flatMap->ahq,mem_flatten->ahr,getElem_zip->ahu,foldl->ahx,length_nil->ahz,find?_cons->ahE,filter_nil->ahH,forIn_nil->ahY
open Option renaming bind_some->k9,map_eq_some_iff->nP,map_some->F1,isSome_iff_exists->adM,isSome_none->agO,getD_none->ahh,getD_some->ahl
open Bool renaming and_eq_true->la,false_eq_true->pA,not_eq_true'->vR,or_eq_true->uG,or_eq_false_iff->El,false_ne_true->Nb,not_eq_true->Pn,not_true->XI,or_false->Zf,and_self->aeg,or_eq_true_iff->aeL,not_eq_false'->ae7,true_and->afc,not_eq_false->afk,not_false->agc,false_and->ahL
open PySem.Heap renaming get?_push_of_some->mn,get?_push_size->n3,lt_size->mA,get?_update_self->HT,size_push->GG,get?_update_other->Yg,SameBut->L1,ExtBut->afX,get?_push_ne->ag3
open Nat renaming le_refl->lb,le_trans->n7,lt_of_lt_of_le->sY,ne_of_lt->oZ,add_mul->ql,zero_le->rb,lt_irrefl->Ac,lt_succ_of_lt->H9,le_of_ble_eq_true->RI,zero_add->Ds,ble_eq_true_of_le->Us,mul_le_mul->Nz,mul_le_mul_right->Yf,le_add_right->TX,le_of_lt->Sx,lt_succ_self->UY,not_lt_zero->Yh,mul_comm->TR,beq->Bx,sub_self->Xy,zero_mul->W2,add_sub_cancel->adW,ble->L5,le_of_succ_le->ad6,ne_of_gt->YP,le_of_eq->Y1,lt_trans->afD,mod_eq_of_lt->afK,le_mul_of_pos_right->afN,le_succ->af1,add_zero->agS,succ_ne_self->ahk,div_eq_of_lt->ahs,mul_add_div->ahI
open PySem.W renaming Frag->mW,keepIn->KR,fnOf->Hg,nsIn->HX,sortI->N5,tabObj->Pd,OpenLaw->XC,codeHdIn->adw,sortI_perm->adT,codeIn->adX,kla_obj->aeE,envX->aeG,callWith_K->aeZ,mg_of->afd,methodObj->afe,eq_sortI->afI,cellsFrom_some->afV,kla_fn->agg,WalkO->agv,codeHd_of_K->agz,pyHash_slot->agC,CodeHd->ah0
open PySem.SetTable renaming below->oW,insertAt->PU,has->afE,turns->agb,fill->agx,fits->aik,bits->ail
open PyProof.Rows renaming slot_tuple_getitem->MO,callWith_type1->XP,IntsAre->xo,subscriptTail_builtinR->ade,AllBare->OY,envOfC->MT,callWith_builtin1->aeB,entry_tuple_getitem->aeJ,assignInOrder_cons->aeV,args_tuple_getitem->ae0,seqObj->Nf,sortedHeap->agq,tupleItemsOf_->agt,subscriptTail->agu
open Array renaming getElem?_eq_getElem->F7,getElem?_eq_some_iff->acP,getElem?_toList->adn,length_toList->adG,getElem?_eq_none->ad_,mem_of_getElem?->aer,getElem_mem->afg,toList_append->agD,forIn_toList->agP
open Option.some renaming inj->wi,injEq->afh
open PySem.AutoSeq1 renaming wpAny_loadPart'->L2,sub_tuple_tuple->ac3,idx_int->Z6,sub_list_list->afZ
open PySem.NameKind renaming free->vt,cell->v5
open PySem.Value renaming type->rn,none->xa,ref->yE,isStrOf->Y5,isInt->aeR,int->VE,bool->Y0,notImplemented->agn
open PySem.Builtin.Slice renaming sliceAdjust->Sf,slicePlaces->Tz,sliceApplied->acN,sliceFields->afn
open PySem.Builtin.Tuple renaming tupleExact->PK,tupleItemsOf->acO,tupleHashOf->afp,tupleTooMany->af0
open PySem.Builtin.SmallTypes renaming nextOf->Tn,ownedTupleHandOut->adS,ownedTupleIsFree->ad3
open PySem.Heap.SameBut renaming update->OL
open Int renaming toNat_natCast->L3,toNat_of_nonneg->V5,emod_lt_of_pos->adU,toNat->Tj,emod_nonneg->aeH,natCast_nonneg->ae5,natCast_ediv->aht,natCast_mul->ahD
open Function renaming comp_def->MZ
open Classical renaming choose_spec->R8,choose->aen,byContradiction->afs
open False renaming elim->vT
open Ne renaming symm->ta
open PySem.Str renaming ofString->Ck
open PySem.Around renaming under_plainId->TZ,frames_deeper->agi
open PySem.Obj renaming mapSeq->EI,data_mapFields->agN,mapDictKeys->ahF
open ForInStep renaming yield->T1
open PySem.Builtin.List renaming listTooLong->ac0,listFitsIndex->adC,listExtendWith->ae1,listSameRef->afC
open PySem.SetTable.below renaming go->adk
open PySem.PyData renaming keyHash->W3
open PySem.F renaming args_tuple_add_2->adN,entry_tuple_add->ad4,slot_tuple_add->ad8,slot_dict_get->aet,entry_dict_get->af2
open PySem.Calls renaming callWith_builtin->ad9,spliced_cons->aeY,Name_function_global->afa,evalArgs_plain->agj,Constant_str->agH,spliced_nil->agY
open PySem.Shared renaming heap->aeT,TypeIs->aiz
open PySem.Data renaming cell->X1,dict->ah7
open PySem.ScopeKind renaming function->ae8
open Sum renaming inl->Tx,inr->TY
open PySem.Builtin.Dict renaming updateFrom->afM
open Std.Legacy.Range renaming forIn_eq_forIn_range'->agB,size->aj7
open PySem.SeqAt.EqAt renaming int_str->agE,str_int->agF
open PySem.Heap.IsSliceOf renaming new->agK
open PySem.pickOrder renaming go->agM
open List.Pairwise renaming nil->ag0
open PySem.Setting renaming params->ahS
open List.Perm renaming swap->ahV,refl->ahX
open PySem.Builtin.Frozenset renaming updateFrom->ah3,newClass->ain,addrOf->aiT,sizeOf->aiU,slot0->aje
open PyProof.Rows.IntsAre renaming int_at->ah_
set_option bootstrap.genMatcherCode false
set_option bootstrap.genMatcherCode false
set_option genInjectivity false
set_option genSizeOf false
set_option Elab.async false
set_option linter.all false
set_option maxRecDepth 100000
open PySem PySem.Spec
variable {i o j K:Nat}{b:List (Addr×Obj)}{e J:Expr}{E Q:Value->j0->Prop}{q:Pos}{B:List Expr}{f:Addr}{s:j0}{x:Str}{k:p9}{u:World}{A:Heap}{y:List Int}{z:List (Option Nat)}{I:Int}{M:Scope}{O:nc}{T:List Addr}{U:List Str}{Y:List Value}{Z:Value}
section
open PyProof.Rows
variable {X:Value->Value->Sem Value}{a:List Stmt}{R:Heap}{K:List Addr}{z pos:Pos}{H:mW}{C:Str->Option Value}{y:Unit->j0->Prop}{c:Obj}{w:u9}{v:Model}{n:String}{r:Array Value}{g:Int->Int->Int}{p:Addr}{j:j0}{h:CmpOp}{d:Stmt}{op:SW}{a8:List (Addr×Obj)}
noncomputable abbrev Key:=Sum Int Str
noncomputable def uC:Key->Value->Bool
 |.inl k,v=>aeR k v|.inr x,v=>Y5 x v
noncomputable def Ur (w:World):Key->Int
 |.inl k=>Zb k|.inr x=>hashStr w x
def dF:∀{k:Key} {v:Value},uC k v=true->(∃i t,k=Tx i/\v=VE i t)\/(∃x t,k=TY x/\v=Value.str x t)
 |.inl i,v,h=>by obtain⟨t,e⟩:=Value.isInt_shape (k:=i) (v:=v) h;exact .inl ⟨i,t,rfl,e⟩
 |.inr x,v,h=>by obtain⟨t,e⟩:=Value.isStrOf_shape (x:=x) (v:=v) h;exact .inr ⟨x,t,rfl,e⟩
def Bq (x:Str)(t:Tok):uC (.inr x) (.str x t)=true:=by simp[uC,Y5]
def KJ (a b:Int):decide ((Tx a:Key)=Tx b)=(a == b):=by
 by_cases e:a=b
 . subst e;simp
 . have h:¬(Tx a:Key)=Tx b:=λq=>e (Sum.inl.inj q)
   rw[decide_eq_false h];exact(beq_eq_false_iff_ne.mpr e).symm
def KL (a b:Str):decide ((TY a:Key)=TY b)=decide (a=b):=by
 by_cases e:a=b
 . subst e;simp
 . have h:¬(TY a:Key)=TY b:=λq=>e (Sum.inr.inj q)
   rw[decide_eq_false h,decide_eq_false e]
def KN (a:Int)(b:Str):decide ((Tx a:Key)=TY b)=false:=decide_eq_false (λq=>nomatch q)
def KO (a:Str)(b:Int):decide ((TY a:Key)=Tx b)=false:=decide_eq_false (λq=>nomatch q)
noncomputable def eV (prog:p9)(w:World):PySem.KeyKind prog w Key where
 is:=uC
 hash:=Ur w
 inj:=λv a b l f=>by
  rcases dF l with⟨i,t,rfl,rfl⟩|⟨x,t,rfl,rfl⟩
  . rcases dF f with⟨j,u,rfl,e⟩|⟨y,u,rfl,e⟩
    . injection e with e1 _;rw[e1]
    . exact nomatch e
  . rcases dF f with⟨j,u,rfl,e⟩|⟨y,u,rfl,e⟩
    . exact nomatch e
    . injection e with e1 _;rw[e1]
 byValue:=λk v h=>by rcases dF h with⟨i,t,rfl,rfl⟩|⟨x,t,rfl,rfl⟩<;>rfl
 pyHash:=λc h=>by
  rcases dF c with⟨i,t,rfl,rfl⟩|⟨x,t,rfl,rfl⟩
  . exact wpAny_pyHash_int h
  . exact wpAny_pyHash_str h
 eqBool:=λhu c h=>by
  rcases dF hu with⟨i,t,rfl,rfl⟩|⟨x,t,rfl,rfl⟩
  . rcases dF c with⟨j,u,rfl,rfl⟩|⟨y,u,rfl,rfl⟩
    . rw[KJ]at h;exact wpAny_eqBool_int h
    . rw[KN]at h;exact agE i t y u _ _ _ _ h
  . rcases dF c with⟨j,u,rfl,rfl⟩|⟨y,u,rfl,rfl⟩
    . rw[KO]at h;exact agF x t j u _ _ _ _ h
    . rw[KL]at h;exact wpAny_eqBool_str h
 «strs»:=λk x t v h=>by
  rcases dF h with⟨i,u,rfl,e⟩|⟨y,u,rfl,e⟩
  . exact nomatch e
  . injection e with e1 _
    subst e1;cases v<;>rfl
def oT (prog:p9)(w:World)(x:Str)(t:Tok):(eV prog w).is (.inr x) (.str x t)=true:=Bq x t
set_option genInjectivity true in
inductive V where
 |ay|bl (b:Bool)|int (i:Int)|str (x:Str)|Br (b:Array UInt8)|hJ (b:UInt64)|ref (a:Addr)|ty (n:String)
 deriving DecidableEq
noncomputable def kr:V->Value->Prop
 |.ay,u=>u=xa|.bl b,u=>u=Y0 b|.int i,u=>∃t,u=VE i t|.str x,u=>∃t,u=Value.str x t|.Br b,u=>∃t,u=Value.bytes b t|.hJ b,u=>∃t,u=Value.float b t|.ref a,u=>u=yE a|.ty n,u=>u=rn n
noncomputable abbrev Vals:List V->List Value->Prop:=Paired kr
theorem Vals.length {c:List V}(r:Vals c Y):c.length=Y.length:=Paired.length r
theorem Vals.get:∀{c:List V} {g:List Value} {i:Nat} {x:V},Vals c g->c[i]? = some x->∃u,g[i]? = some u/\kr x u
 |_,_,_,_,.nil,e=>by simp at e|_,_,0,_,.cons r _,e=>by simp at e;subst e;exact⟨_,rfl,r⟩|_,_,i+1,x,.cons _ t,e=>by obtain⟨u,b,a⟩:=Vals.get (i:=i) (x:=x) t (by simpa using e);exact⟨u,by simpa using b,a⟩
theorem Vals.set {x:V}{u:Value}(r:kr x u):∀{c:List V} {g:List Value} (i:Nat),Vals c g->Vals (c.set i x) (g.set i u)
 |_,_,_,.nil=>.nil|_,_,0,.cons _ t=>.cons r t|_,_,i+1,.cons q t=>.cons q (Vals.set r i t)
def Vals.append {c g:List V}{a:List Value}(h:Vals c Y)(s:Vals g a):Vals (c++g) (Y++a):=by
 induction h with
 |nil=>exact s|cons r _ i=>exact .cons r i
theorem Vals.take:∀{c:List V} {g:List Value} (n:Nat),Vals c g->Vals (c.take n) (g.take n)
 |_,_,0,_=>.nil|_,_,_+1,.nil=>.nil|_,_,n+1,.cons r t=>.cons r (Vals.take n t)
theorem Vals.drop:∀{c:List V} {g:List Value} (n:Nat),Vals c g->Vals (c.drop n) (g.drop n)
 |_,_,0,r=>r|_,_,_+1,.nil=>.nil|_,_,n+1,.cons _ t=>Vals.drop n t
noncomputable def KP:Option V->Option Value->Prop
 |some v,some u=>kr v u|none,none=>True|_,_=>False
noncomputable def KV {a:Type}:List (a×V)->List (a×Value)->Prop:=Paired λ(p:a×V) (q:a×Value)=>p.1=q.1/\kr p.2 q.2
noncomputable def kV:Key->V
 |.inl i=>.int i|.inr x=>.str x
noncomputable def fA (h:Heap)(a:Addr)(c:Array Value):Prop:=∃o,h.get? a=some o/\o.cls = .type "tuple" /\ (∃n,o.data = .seq c n)/\o.dict=none
def fA.t (p:fA A f r):IsTup A f r:=by obtain⟨o,e,c,b,_⟩:=p;exact⟨o,e,c,b⟩
def fA.new (h:Heap)(c:Array Value):fA (h.push { cls:=.type "tuple",data:=.seq c }) h.objs.size c:=⟨_,n3 _ rfl,rfl,⟨_,rfl⟩,rfl⟩
inductive HO where
 |lst (xs:List V)
 |tup (xs:List V)
 |dK (eB:List (Key×V))|dT (eB:List (List Key×V))
 |set (S:Int->Bool) (n:Nat)
 |ins (C dx:Addr) (fs:List (Str×V))
 |own (x:Addr)
 |xd (fs:List (Str×V))
 |met (f x:Addr)
 |fB (lo hi:Int)
 |mO (o:Obj) (u:HO)
 |cE (p:Pos) (q:Str)
 |iq (q:Str)
 |ext (φ:Heap->Prop)
noncomputable abbrev Hp:=Addr->Option HO
noncomputable def upd (H:Hp)(a:Addr)(o:HO):Hp:=λb=>if b=a then some o else H b
def aQ {H:Hp}{o:HO}:upd H f o f=some o:=by unfold upd;rw[if_pos rfl]
def aF {H:Hp}{o:HO}(h:p≠f):upd H f o p=H p:=by unfold upd;rw[if_neg h]
def qd {H:Hp}{o u:HO}(h:H f=some o)(c:H p=some u)(d:o≠u):f≠p:=by intro e;subst e;rw[h]at c;exact d (wi c)
def aM {H:Hp}{o:HO}(h:H f=some o)(c:H p=none):f≠p:=by intro e;subst e;rw[h]at c;cases c
section
variable (P:p9)(w:World)
noncomputable def eA (H:Hp)(h:Heap)(a:Addr):HO->Prop
 |.lst g=>g.length<=lX /\ ∃(r:List Value) (n:Nat),Vals g r/\h.get? a=some { cls:=.type "list",data:=.seq r.toArray n }|.tup g=>g.length<=lX /\ ∃r:List Value,Vals g r/\fA h a r.toArray|.dK y=>y.length<=lX/\(a == NV)=false /\ ∃I,KV y I/\h.DictOf (eV P w) a I
 |.dT y=>y.length<=lX/\(a == NV)=false /\ ∃g:List (List Key×Addr×Value),
  Paired (λ(p:List Key×V) (q:List Key×Addr×Value)=>p.1=q.1/\H q.2.1=some (.tup (p.1.map kV))/\kr p.2 q.2.2) y g /\
  ∃o J O,h.get? a=some o/\o.ExactDict/\o.data = .dict J O/\J.toList=g.map (entryOfKey (tupleKind (eV P w)))/\(g.map (·.1)).Nodup
 |.set S n=>h.SetOf (GD P w) a S n
 |.ins C B fs=>H B=some (.own a)/\fs.length<=1000/\B≠a/\h.get? a=some (PySem.W.instObj C B) /\
  ∃i,h.Ns1 B i/\(∀f,KP (fs.lookup f) (i f))/\PySem.Within i (fs.map (·.1))
 |.own _=>∃o,h.get? a=some o|.xd fs=>∃i,h.Ns1 a i /\ ∀f,KP (fs.lookup f) (i f)|.fB Q R=>∃t u v,h.get? a=some { cls:=.type "range",data:=.fields #[.int Q t,.int R u,.int 1 v] }|.mO o u=>h.get? a=some o/\eA H h a u|.cE p q=>∃ps:Array Value,h.get? a=some (Pd ps)/\TriplesOk ps.toList/\(codeAmong p ps.toList=none \/ ∃c,codeAmong p ps.toList=some (.ref c)/\H c=some (.iq q))|.iq q=>h.CodeRec (.ref a) q|.met f x=>h.get? a=some (afe (.ref f) (.ref x))|.ext E=>E h/\(∃o,h.get? a=some o) /\ ∀h1 h2:Heap,E h1->(∀o,h1.get? a=some o->h2.get? a=some o)->E h2
noncomputable def eC (H:Hp)(h:Heap):Prop:=∀a o,H a=some o->eA P w H h a o
end
section
variable {H:Hp}{o:HO}
theorem eA.lt (x:eA k u H A f o):f<A.objs.size:=by
 cases o with
 |lst c=>obtain⟨_,_,_,_,e⟩:=x;exact mA e
 |tup c=>obtain⟨_,_,_,p⟩:=x;exact p.t.lt
 |dK g=>obtain⟨_,_,_,_,o,_,_,e,_⟩:=x;exact mA e
 |dT g=>obtain⟨_,_,_,_,o,_,_,e,_⟩:=x;exact mA e
 |set S n=>obtain⟨o,_,_,_,e,_⟩:=x;exact mA e
 |ins C h fs=>obtain⟨_,_,_,e,_⟩:=x;exact mA e
 |own y=>obtain⟨_,e⟩:=x;exact mA e
 |xd fs=>obtain⟨_,⟨_,_,_,e,_⟩,_⟩:=x;exact mA e
 |fB i r=>obtain⟨_,_,_,e⟩:=x;exact mA e
 |mO v w=>obtain⟨e,_⟩:=x;exact mA e
 |cE p q=>obtain⟨_,e,_⟩:=x;exact mA e
 |iq q=>obtain⟨_,_,_,_,b,e,_⟩:=x;cases b;exact mA e
 |met P y=>exact mA (show A.get? f=some _ from x)|ext B=>obtain⟨_,⟨_,e⟩,_⟩:=x;exact mA e
end
theorem Paired.KQ {c e:Type}{F G:c->e->Prop}:∀{l₁:List c} {l₂:List e},Paired F l₁ l₂->(∀a b,F a b->G a b)->Paired G l₁ l₂
 |_,_,.nil,_=>.nil|_,_,.cons r t,f=>.cons (f _ _ r) (Paired.KQ t f)
def eA.dn {H:Hp}{I:Hp}{o:HO}(x:eA k u H A f o)(P:∀b w,(b=f\/H b=some (.own f))->A.get? b=some w->R.get? b=some w)(Z:∀b,H b=some (.own f)->I b=some (.own f))(B:∀b g,H b=some (.tup g)->I b=some (.tup g))(E:∀b q,H b=some (.iq q)->I b=some (.iq q)):eA k u I R f o:=by
 induction o with
 |lst g=>obtain⟨z,J,n,r,e⟩:=x;exact⟨z,J,n,r,P _ _ (.inl rfl) e⟩
 |tup g=>obtain⟨z,J,r,i,e,c⟩:=x;exact⟨z,J,r,i,P _ _ (.inl rfl) e,c⟩
 |dK eB=>obtain⟨z,y,s,r,i,j,l,e,c⟩:=x;exact⟨z,y,s,r,i,j,l,P _ _ (.inl rfl) e,c⟩
 |dT eB =>
  obtain⟨z,y,g,r,i,j,l,e,c⟩:=x;exact⟨z,y,g,Paired.KQ r λp q z=>⟨z.1,B _ _ z.2.1,z.2.2⟩,i,j,l,P _ _ (.inl rfl) e,c⟩
 |set S n=>obtain⟨i,j,l,t,e,c⟩:=x;exact⟨i,j,l,t,P _ _ (.inl rfl) e,c⟩
 |ins C dx fs =>
  obtain⟨d,z,ne,e,O,⟨Q,j,l,U,c⟩,r⟩:=x;exact⟨Z _ d,z,ne,P _ _ (.inl rfl) e,O,⟨Q,j,l,P _ _ (.inr d) U,c⟩,r⟩
 |own y=>obtain⟨i,e⟩:=x;exact⟨i,P _ _ (.inl rfl) e⟩
 |xd fs=>obtain⟨O,⟨Q,j,l,e,c⟩,r⟩:=x;exact⟨O,⟨Q,j,l,P _ _ (.inl rfl) e,c⟩,r⟩
 |fB lo hi=>obtain⟨t,w,v,e⟩:=x;exact⟨t,w,v,P _ _ (.inl rfl) e⟩
 |mO i w ih=>obtain⟨e,q⟩:=x;exact⟨P _ _ (.inl rfl) e,ih q⟩
 |cE p q=>obtain⟨ps,e,t,r⟩:=x;exact⟨ps,P _ _ (.inl rfl) e,t,r.imp id λ⟨c,Y,U⟩=>⟨c,Y,E _ _ U⟩⟩
 |iq q=>obtain⟨c,i,s,t,Y,e,r⟩:=x;cases Y;exact⟨_,i,s,t,rfl,P _ _ (.inl rfl) e,r⟩
 |met h y =>
  have e:A.get? f=some (afe (.ref h) (.ref y)):=x;show R.get? f=some (afe (.ref h) (.ref y));exact P f _ (.inl rfl) e
 |ext φ=>obtain⟨p,⟨o,e⟩,st⟩:=x;exact⟨st _ _ p λo q=>P _ _ (.inl rfl) q,⟨o,P _ _ (.inl rfl) e⟩,st⟩
theorem eC.lt {H:Hp}{o:HO}(x:eC k u H A)(e:H f=some o):f<A.objs.size:=(x f o e).lt
def eC.fresh {H:Hp}(x:eC k u H A)(e:A.objs.size<=f):H f=none:=by
 cases q:H f with
 |none=>rfl|some P=>exact absurd (sY (x.lt q) e) (Ac _)
def eC.kept {H:Hp}{h':Heap}(x:eC k u H A)(P:∀b w,A.get? b=some w->h'.get? b=some w):eC k u H h':=λa o e =>
 (x a o e).dn (λb w _ q=>P b w q) (λ_ q=>q) (λ_ _ q=>q) λ_ _ q=>q
def eC.laid {H:Hp}{o:HO}(x:eC k u H A)(P:∀b w,A.get? b=some w->R.get? b=some w)(i:A.objs.size<=f)(new:eA k u (upd H f o) R f o):eC k u (upd H f o) R:=λb w e=>by
 have h:=x.fresh i;by_cases hb:b=f
 . subst hb;rw[aQ]at e;cases e;exact new
 . rw[aF hb]at e
   exact(x b w e).dn (λc v _ q=>P c v q) (λc q=>by rw[aF (aM q h)];exact q) (λc g q=>by rw[aF (aM q h)];exact q) λc g q=>by rw[aF (aM q h)];exact q
noncomputable def Rd (H:Hp)(a:Addr)(u:HO):Prop:=H a=some u \/ ∃o,H a=some (.mO o u)
def Rd.ok {H:Hp}{P:HO}(r:Rd H f P)(x:eC k u H A):eA k u H A f P:=by
 rcases r with r|⟨o,r⟩
 . exact x f P r
 . obtain⟨_,q⟩:=x f _ r
   exact q
noncomputable def Gi:Option HO->Prop
 |some (.lst _)=>True|some (.dK _)=>True|some (.dT _)=>True|some (.set _ _)=>True|some (.ins _ _ _)=>True|some (.ext _)=>True|_=>False
def eC.write {H:Hp}{x:Addr}{e:Addr}{p:HO}(ok:eC k u H A)(s:Gi (H x))(w:e=x\/H e=some (.own x))(P:∀b h,b≠e->A.get? b=some h->R.get? b=some h)(B:∃h,R.get? e=some h)(new:eA k u (upd H x p) R x p):eC k u (upd H x p) R:=λb h q=>by
 have i:∀c y,H c=some (.own y)->c≠x:=λc y r z=>by subst z;rw[r]at s;exact s
 have j:∀c g,H c=some (.tup g)->c≠x:=λc g r z=>by subst z;rw[r]at s;exact s
 have o:∀c q,H c=some (.iq q)->c≠x:=λc g r z=>by subst z;rw[r]at s;exact s
 by_cases hb:b=x
 . subst hb;rw[aQ]at q;cases q;exact new
 . rw[aF hb]at q
   by_cases n:b=e
   . have f:H b=some (.own x):=by
       rcases w with z|z
       . exact absurd (n.trans z) hb
       . rw[n];exact z
     rw[q]at f;cases f;obtain⟨v,l⟩:=B;exact⟨v,by rw[n];exact l⟩
   . refine(ok b h q).dn (λc v a r=>P c v ?_ r) (λc r=>by rw[aF (i c b r)];exact r) (λc g r=>by rw[aF (j c g r)];exact r) λc q r=>by rw[aF (o c q r)];exact r
     rcases a with rfl|a
     . exact n
     . rintro rfl
       rcases w with z|z
       . exact i c b a z
       . rw[a]at z;cases z;exact hb rfl
noncomputable def KS:HO->Bool
 |.cE _ _=>true|.iq _=>true|_=>false
structure Un (fs ex:List Addr)(H H':Hp)(h h':Heap):Prop where
 keep:∀b o,h.get? b=some o->H b=none->b ∉ fs->b ∉ ex->h'.get? b=some o
 slot:∀b o,h.get? b=some o->H b=none->b∈fs->b ∉ ex->∃sl,h'.get? b=some { o with slots:=sl }
 free:∀b o,h.get? b=some o->H b=none->b ∉ ex->H' b=none
 there:∀b o,h.get? b=some o->b ∉ ex->∃o',h'.get? b=some o'
 kN:∀b xs,H b=some (.tup xs)->H' b=some (.tup xs)
 jQ:∀b o u,H b=some (.mO o u)->H' b=some (.mO o u)
 jR:∀b u,KS u=true->H b=some u->H' b=some u
def Un.any {H:Hp}{g:Hp}(u:Un T K H g A R)(q:A.get? f=some c)(n:H f=none)(b:f ∉ K):∃sl,R.get? f=some { c with slots:=sl }:=by
 by_cases hb:f∈T
 . exact u.slot f c q n hb b
 . exact⟨c.slots,u.keep f c q n hb b⟩
def Un.kept {H:Hp}{h':Heap}(k:∀b u,A.get? b=some u->h'.get? b=some u):Un T K H H A h' :=
 ⟨λb a q _ _ _=>k b a q,λb a q _ _ _=>⟨a.slots,k b a q⟩,λ_ _ _ n _=>n,λb a q _=>⟨a,k b a q⟩,λ_ _ q=>q,λ_ _ _ q=>q,λ_ _ _ q=>q⟩
def Un.refl {H:Hp}:Un T K H H A A:=Un.kept λ_ _ q=>q
def Un.laid {H:Hp}{o:HO}(k:∀b u,A.get? b=some u->R.get? b=some u)(fs:A.objs.size<=f)(c:H f=none):Un T K H (upd H f o) A R where
 keep:=λb u q _ _ _=>k b u q
 slot:=λb u q _ _ _=>⟨u.slots,k b u q⟩
 free:=λb u q n _=>by rw[aF (oZ (sY (mA q) fs))];exact n
 there:=λb u q _=>⟨u,k b u q⟩
 kN:=λb xs q=>by rw[aF (aM q c)];exact q
 jQ:=λb u xs q=>by rw[aF (aM q c)];exact q
 jR:=λb u _ q=>by rw[aF (aM q c)];exact q
def Un.write {H:Hp}{x:Addr}{e:Addr}{o:HO}(f:Gi (H x))(j:e=x\/H e=some (.own x))(k:∀b u,b≠e->A.get? b=some u->R.get? b=some u)(i:∃u,R.get? e=some u):Un T K H (upd H x o) A R:=by
 have c:∀b,H b=none->b≠x:=λb n z=>by subst z;rw[n]at f;exact f
 have a:∀b,H b=none->b≠e:=λb n z=>by
   subst z;rcases j with r|r
   . exact c b n r
   . rw[n]at r;cases r
 have hm:∀b u,H b=some u->¬Gi (some u)->b≠x:=λb u q nm z=>by subst z;rw[q]at f;exact nm f
 refine⟨λb u q n _ _=>k b u (a b n) q,λb u q n _ _=>⟨u.slots,k b u (a b n) q⟩,λb u q n _=>by rw[aF (c b n)];exact n,λb u q _=>?_,
   λb h q=>by rw[aF (hm b _ q λz=>z)];exact q,λb u h q=>by rw[aF (hm b _ q λz=>z)];exact q,λb v t q=>by rw[aF (hm b _ q λz=>by cases v<;>first|exact z|cases t)];exact q⟩
 by_cases g:b=e
 . subst g;exact i
 . exact⟨u,k b u g q⟩
noncomputable def ky (h:Heap)(H:Hp):List Addr:=(nN h.objs.size).filter λa=>(H a).isSome
noncomputable def lQ (h:Heap)(H:Hp):Heap:=PySem.W.hideAll h (ky h H)
def Bs (h:Heap)(H:Hp):(lQ h H).objs.size=h.objs.size:=PySem.W.hideAll_size _ _
def Em {H:Hp}(e:A.get? f=some c)(n:H f=none):(lQ A H).get? f=some c :=
 PySem.W.hideAll_get _ e λhm=>by have q:(H f).isSome=true:=(ro.mp hm).2;rw[n]at q;simp at q
def Ir {H:Hp}(e:(lQ A H).get? f=some c):A.get? f=some c/\H f=none:=by
 have a:A.get? f=some c:=PySem.W.of_hideAll (ky A H) e;refine⟨a,?_⟩;cases q:H f with
 |none=>rfl
 |some x =>
  have hm:f∈ky A H:=ro.mpr ⟨Cn.mpr (mA a),by simp[q]⟩;have z:(lQ A H).get? f=none:=PySem.W.hideAll_none (ky A H) hm;rw[z]at e;cases e
noncomputable def Iu (g h:Heap)(L:Addr):List (Addr×Obj):=(nN h.objs.size).filterMap λa=>if a=L\/(g.get? a).isSome=true then none else(h.get? a).map λo=>(a,o)
noncomputable def rest (g h:Heap)(L d:Addr):List (Addr×Obj):=(Iu g h L).filter λp=>decide (p.1≠d)
structure bab (K:mW)(mg:Str->Option Value)(base:Heap):Prop where
 kW:K.In base
 glob:base.Ns qr mg
 blt:∃mb,base.Ns Y6 mb /\ ∀x:Str,x ≠ "__name__"->mb x=Nu x
 nolimit:base.NoLimit
 bm:∃bm ob,BMod base qr mg bm ob
structure d9 where
 ar:Qt
 bd:Expr
 sc:Scope
 qual:Str
 fv:List Str
 ps:List Str
structure Lx where
 tb:List (Addr×Pos×Str)
 lm:Str->Option d9
structure Cx where
 prog:p9
 w:World
 K:mW
 mg:Str->Option Value
 base:Heap
 A:nc
 N:List Str
 s₀:j0
 H₀:Hp
 env:Env
 outer:List Env
 stack:List Env
 ex:List Addr
 fn:Str->Bool
 calm:Bool
 pn:List (Addr×Obj)
 xe:Value->j0->Prop
 lx:Lx
noncomputable def kz (l:List Env):List Addr:=l.filterMap (·.frame)
noncomputable abbrev Cx.fs (X:Cx):List Addr:=kz X.outer
noncomputable def Bt (sc:Scope)(x:Str):Prop:=sc.names.lookup x=some .local\/sc.names.lookup x=some .cell\/sc.names.lookup x=some .free
noncomputable def Ea (sc:Scope)(x:Str):Prop:=sc.names.lookup x=some .local\/sc.names.lookup x=some .cell
noncomputable def bae (env:Env)(h:Heap)(m:Str->Option Value)(x:Str)(u:Value):Prop :=
 (env.kindOf x=some .local/\m x=some u)\/((env.kindOf x=some .cell\/env.kindOf x=some .free) /\ ∃c,env.cells.lookup x=some c/\h.IsCell c (some u))
structure Cx.Ok (X:Cx):Prop where
 mod:bab X.K X.mg X.base
 kind:X.env.scope.kind = .function
 glob:X.env.globals=qr
 blt:X.env.builtins=Y6
 above:X.s₀.heap.objs.size<=X.env.locals
 inj:∀x y c,X.env.cells.lookup x=some c->X.env.cells.lookup y=some c->x=y
 has:∀x,(X.env.kindOf x=some .cell\/X.env.kindOf x=some .free)->∃c,X.env.cells.lookup x=some c
 xX:∀x c,X.fn x=true->X.env.cells.lookup x=some c->X.s₀.heap.objs.size<=c
 hd:X.calm=true->X.A.handled=none
 frames:X.A.frames=some X.stack
 u_:X.stack=X.outer\/(X.stack=X.env::X.outer/\X.env.frame=some X.env.locals)
 KU:∀b∈X.ex,b≠X.env.locals /\ ∀x c,X.env.cells.lookup x=some c->c≠b
 bs:∀b o,X.base.get? b=some o->X.s₀.heap.get? b=some o/\X.H₀ b=none
 nq:X.base.objs.size<=X.s₀.heap.objs.size
 pH:∀b o,X.base.get? b=some o->b ∉ X.ex
 va:∀b∈X.ex,b ∉ X.fs
 hU:X.s₀.heap.FunFrames X.base X.outer
 qf:∀b∈X.fs,X.H₀ b=none
structure jo (X:Cx)(a8:List (Addr×Obj))(σ:List (Option V))(H:Hp)(s:j0):Prop where
 ok:X.Ok
 os:s.os=X.s₀.os
 bare:OY s.gens
 base:Un X.fs X.ex X.H₀ H X.s₀.heap s.heap
 loc:∃m,s.heap.Ns X.env.locals m /\ ∀(i:Nat) (x:Str) (v:V),X.N[i]? = some x->σ[i]? = some (some v)->Bt X.env.scope x->∃u,kr v u/\bae X.env s.heap m x u
 cell:∀x c,X.env.cells.lookup x=some c->∃v,s.heap.IsCell c v
 free:H X.env.locals=none
 gH:∀x c,X.env.cells.lookup x=some c->H c=none
 pin:∀p∈X.pn++a8,s.heap.get? p.1=some p.2/\H p.1=none/\p.1≠X.env.locals/\p.1 ∉ X.fs /\ ∀v,p.2.data ≠ .cell v
 aV:eC X.prog X.w H s.heap
 len:σ.length=X.N.length
def Cx.Ok.Uu {X:Cx}(ok:X.Ok)(e:X.base.get? f=some c):f ∉ X.fs:=λa=>by have:=(ok.hU.mem a).1;rw[e]at this;cases this
theorem jo.bs {X:Cx}{c:List (Option V)}{H:Hp}(I:jo X a8 c H s):∀b o,X.base.get? b=some o->s.heap.get? b=some o/\H b=none:=λb o e =>
 ⟨I.base.keep b o (I.ok.bs b o e).1 (I.ok.bs b o e).2 (I.ok.Uu e) (I.ok.pH b o e),I.base.free b o (I.ok.bs b o e).1 (I.ok.bs b o e).2 (I.ok.pH b o e)⟩
def jo.bk {X:Cx}{c:List (Option V)}{H:Hp}(I:jo X a8 c H s):∀b o,X.base.get? b=some o->s.heap.get? b=some o:=λb o e=>(I.bs b o e).1
theorem jo.mod {X:Cx}{c:List (Option V)}{H:Hp}(I:jo X a8 c H s):bab X.K X.mg X.base:=I.ok.mod
def jo.mP {X:Cx}{c:List (Option V)}{H:Hp}(I:jo X a8 c H s):X.K.In s.heap:=I.ok.mod.kW.keeps I.bk
theorem jo.lt {X:Cx}{c:List (Option V)}{H:Hp}(I:jo X a8 c H s):X.env.locals<s.heap.objs.size:=by obtain⟨_,a,_⟩:=I.loc;exact a.lt
def jo.sz {X:Cx}{c:List (Option V)}{H:Hp}(I:jo X a8 c H s):X.s₀.heap.objs.size<=s.heap.objs.size:=n7 I.ok.above (Sx I.lt)
def jo.Uv {X:Cx}{g:List (Option V)}{H:Hp}(I:jo X a8 g H s)(h:s.heap.objs.size<=f):f ∉ X.fs:=λb=>by obtain⟨_,o,c,_⟩:=I.ok.hU.mem b;exact absurd (sY (mA c) (n7 I.sz h)) (Ac _)
def jo.sJ {X:Cx}{g:List (Option V)}{H:Hp}(I:jo X a8 g H s):∀x c,X.env.cells.lookup x=some c->c≠X.env.locals:=λx c e z=>by obtain⟨v,o,a,hd⟩:=I.cell x c e;obtain⟨m,⟨i,h,j,f,b,_⟩,_⟩:=I.loc;rw[z,f]at a;cases a;rw[b]at hd;cases hd
theorem jo.hU {X:Cx}{g:List (Option V)}{H:Hp}(I:jo X a8 g H s):s.heap.FunFrames X.base X.outer:=by
 have all:∀(l:List Env),(∀b∈kz l,b∈X.fs)->X.s₀.heap.FunFrames X.base l->s.heap.FunFrames X.base l:=by
  intro l;induction l with
  |nil=>intro _ _;trivial
  |cons env r n =>
   intro f h;obtain⟨k,⟨L,o,hf,i,j,hd⟩,q⟩:=h;have a:L∈X.fs:=f L (by unfold kz;rw[Bu,hf];exact qc);obtain⟨u,e⟩:=I.base.slot L o j (I.ok.qf L a) a λz=>I.ok.va L z a;exact⟨k,⟨L,_,hf,i,e,hd⟩,n (λb c=>f b (by unfold kz;rw[Bu,hf];exact nW _ c)) q⟩
 exact all X.outer (λ_ c=>c) I.ok.hU
theorem jo.stack {X:Cx}{c:List (Option V)}{H:Hp}(I:jo X a8 c H s):s.heap.FunFrames X.base X.stack:=by
 rcases I.ok.u_ with e|⟨e,hf⟩
 . rw[e];exact I.hU
 . rw[e]
   obtain⟨m,a,_⟩:=I.loc;refine .cons (by rw[I.ok.kind];decide) hf a ?_ I.hU;exact Heap.get?_none_of_le (n7 I.ok.nq I.ok.above)
def jo.qg {X:Cx}{c:List (Option V)}{H:Hp}(I:jo X a8 c H s):∀b∈kz X.stack,b∈X.env.locals::X.fs:=λb a=>by
 rcases I.ok.u_ with e|⟨e,hf⟩
 . rw[e]at a;exact nW _ a
 . rw[e]at a
   unfold kz at a;rw[Bu,hf]at a;exact a
def jo.xY {X:Cx}{g:List (Option V)}{H:Hp}(I:jo X a8 g H s):∀b∈kz X.stack,H b=none:=λb a=>by
 rcases l2.mp (I.qg b a)with e|a
 . rw[e];exact I.free
 . obtain⟨_,o,c,_⟩:=I.ok.hU.mem a
   exact I.base.free b o c (I.ok.qf b a) λz=>I.ok.va b z a
def jo.step {X:Cx}{Z:List (Option V)}{H:Hp}{O:Hp}{g':Array afx}{d':Drawn}{ch:List Addr}(I:jo X a8 Z H s)(E:∀b∈ch,(b∈X.ex\/X.s₀.heap.objs.size<=b)/\b≠X.env.locals/\(∀x c,X.env.cells.lookup x=some c->c≠b) /\ ∀p∈X.pn++a8,p.1≠b)(B:∀b o,b≠X.env.locals->b ∉ X.fs->b ∉ ch->s.heap.get? b=some o->H b=none->A.get? b=some o)(slot:∀b o,b≠X.env.locals->b∈X.fs->b ∉ ch->s.heap.get? b=some o->H b=none->∃sl,A.get? b=some { o with slots:=sl })(R:∀b o,b ∉ ch->s.heap.get? b=some o->H b=none->O b=none)(C:∀b o,b ∉ ch->s.heap.get? b=some o->∃Q,A.get? b=some Q)(L:∀b g,H b=some (.tup g)->O b=some (.tup g))(N:∀b o u,H b=some (.mO o u)->O b=some (.mO o u))(J:∀b u,KS u=true->H b=some u->O b=some u)(ns:∀m,s.heap.Ns X.env.locals m->A.Ns X.env.locals m)(K:eC X.prog X.w O A)(M:OY g'):
   jo X a8 Z O { s with heap:=A,gens:=g',drawn:=d',toks:=i }:=by
 have RT:∀b o,X.s₀.heap.get? b=some o->b≠X.env.locals:=λb o e=>oZ (sY (mA e) I.ok.above);have U:∀b o,X.s₀.heap.get? b=some o->b ∉ X.ex->b ∉ ch:=λb o e a f=>by
   rcases (E b f).1 with z|z
   . exact a z
   . exact absurd (sY (mA e) z) (Ac _)
 have cellK:∀x c,X.env.cells.lookup x=some c->∀v,s.heap.IsCell c v->A.IsCell c v:=λx c e v ⟨o,j,hd⟩=>by
   have y:c ∉ ch:=λz=>(E c z).2.2.1 x c e rfl;by_cases hc:c∈X.fs
   . obtain⟨sl,q⟩:=slot c o (I.sJ x c e) hc y j (I.gH x c e)
     exact⟨_,q,hd⟩
   . exact⟨o,B c o (I.sJ x c e) hc y j (I.gH x c e),hd⟩
 refine⟨I.ok,I.os,M,⟨λb o e n f a=>?_,λb o e n f a=>?_,λb o e n a=>?_,λb o e a=>?_,λb g e=>L b g (I.base.kN b g e),λb o g e=>N b o g (I.base.jQ b o g e),λb u t e=>J b u t (I.base.jR b u t e)⟩,?_,λx c e=>?_,?_,λx c e=>?_,λp hp=>?_,K,I.len⟩
 . exact B b o (RT b o e) f (U b o e a) (I.base.keep b o e n f a) (I.base.free b o e n a)
 . obtain⟨sl,h⟩:=I.base.slot b o e n f a
   obtain⟨nt,Y⟩:=slot b _ (RT b o e) f (U b o e a) h (I.base.free b o e n a);exact⟨nt,Y⟩
 . obtain⟨Q,h⟩:=I.base.there b o e a
   exact R b Q (U b o e a) h (I.base.free b o e n a)
 . obtain⟨Q,h⟩:=I.base.there b o e a
   exact C b Q (U b o e a) h
 . obtain⟨m,hn,hl⟩:=I.loc
   refine⟨m,ns m hn,λt' x v h Y e3=>?_⟩;obtain⟨u,r,l⟩:=hl t' x v h Y e3;refine⟨u,r,?_⟩;rcases l with l|⟨k,c,e,z⟩
   . exact .inl l
   . exact .inr ⟨k,c,e,cellK x c e _ z⟩
 . obtain⟨v,z⟩:=I.cell x c e
   exact⟨v,cellK x c e v z⟩
 . obtain⟨m,⟨o,_,_,j,_⟩,_⟩:=I.loc
   exact R _ o (λz=>(E _ z).2.1 rfl) j I.free
 . obtain⟨v,o,j,hd⟩:=I.cell x c e
   exact R c o (λz=>(E c z).2.2.1 x c e rfl) j (I.gH x c e)
 . obtain⟨e,n,ne,nf,d⟩:=I.pin p hp
   have y:p.1 ∉ ch:=λz=>(E p.1 z).2.2.2 p hp rfl;exact⟨B p.1 p.2 ne nf y e n,R p.1 p.2 y e n,ne,nf,d⟩
def jo.un {X:Cx}{p:List (Option V)}{H:Hp}{g:Hp}{h':Heap}{t':Nat}(I:jo X a8 p H s)(u:Un X.fs [] H g s.heap h')(A:eC X.prog X.w g h'):jo X a8 p g { s with heap:=h',toks:=t' }:=by
 obtain⟨m,⟨o,l,v,c,r⟩,_⟩:=id I.loc;obtain⟨y,h⟩:=u.any c I.free (by simp);exact I.step (g':=s.gens) (d':=s.drawn) (ch:=[]) (λ_ z=>nomatch z) (λb o _ a _ e n=>u.keep b o e n a (by simp)) (λb o _ a _ e n=>u.slot b o e n a (by simp)) (λb o _ e n=>u.free b o e n (by simp)) (λb o _ e=>u.there b o e (by simp)) u.kN u.jQ u.jR (λq hm=>by obtain⟨x,i,k,f,j⟩:=hm;rw[c]at f;cases f;exact⟨_,i,k,h,j⟩) A I.bare
def jo.call {X:Cx}{E:List (Option V)}{H:Hp}{g:Hp}{h':Heap}{g':Array afx}{t':Nat}{d':Drawn}{ch:List Addr}(I:jo X a8 E H s)(u:Un (kz X.stack) ch H g s.heap h')(B:eC X.prog X.w g h')(C:OY g')(A:∀b∈ch,(b∈X.ex\/X.s₀.heap.objs.size<=b)/\b≠X.env.locals/\(∀x c,X.env.cells.lookup x=some c->c≠b) /\ ∀p∈X.pn++a8,p.1≠b):
  jo X a8 E g { s with heap:=h',gens:=g',drawn:=d',toks:=t' }:=by
 obtain⟨m,⟨o,v,J,h,r⟩,_⟩:=id I.loc;obtain⟨sl,f⟩:=u.any h I.free λz=>(A _ z).2.1 rfl;exact I.step (ch:=ch) A (λb o f k a e n=>u.keep b o e n (λz=>(l2.mp (I.qg b z)).elim f k) a) (λb o _ _ a e n=>u.any e n a) (λb o a e n=>u.free b o e n a) (λb o a e=>u.there b o e a) u.kN u.jQ u.jR (λy hm=>by obtain⟨O,j,q,i,l⟩:=hm;rw[h]at i;cases i;exact⟨_,j,q,f,l⟩) B C
def jo.turned {X:Cx}{g:List (Option V)}{H:Hp}{t':Nat}(I:jo X a8 g H s)(k:∀b o,b≠f->s.heap.get? b=some o->A.get? b=some o)(B:H f=none)(y:f≠X.env.locals)(E:f∈X.ex\/X.s₀.heap.objs.size<=f)(C:∀x c,X.env.cells.lookup x=some c->c≠f)(J:∀p∈X.pn++a8,p.1≠f):jo X a8 g H { s with heap:=A,toks:=t' }:=by
 have it:∀b u,H b=some u->b≠f:=λb u e z=>by rw[z,B]at e;cases e
 refine I.step (g':=s.gens) (d':=s.drawn) (ch:=[f]) (λb l=>?_) (λb o _ _ a e _=>k b o (λz=>a (by simp[z])) e) (λb o _ _ a e _=>⟨o.slots,k b o (λz=>a (by simp[z])) e⟩) (λ_ _ _ _ n=>n)
   (λb o a e=>⟨o,k b o (λz=>a (by simp[z])) e⟩) (λ_ _ e=>e) (λ_ _ _ e=>e) (λ_ _ _ e=>e) (λm hm=>?_) (λb u e=>?_) I.bare
 . have e:b=f:=by simpa using l
   subst e;exact⟨E,y,C,J⟩
 . obtain⟨o,h,i,j,r⟩:=hm
   exact⟨o,h,i,k _ o (ta y) j,r⟩
 . refine(I.aV b u e).dn (λc v a q=>k c v ?_ q) (λ_ q=>q) (λ_ _ q=>q) λ_ _ q=>q
   rcases a with z|z
   . rw[z];exact it b u e
   . exact it c _ z
def jo.tok {X:Cx}{c:List (Option V)}{H:Hp}(I:jo X a8 c H s)(t:Nat):jo X a8 c H { s with toks:=t }:=I.un (h':=s.heap) (t':=t) Un.refl I.aV
theorem jo.kept {X:Cx}{c:List (Option V)}{H:Hp}{h':Heap}{t':Nat}(I:jo X a8 c H s)(k:∀b u,s.heap.get? b=some u->h'.get? b=some u):jo X a8 c H { s with heap:=h',toks:=t' }:=I.un (Un.kept k) (I.aV.kept k)
theorem jo.laid {X:Cx}{g:List (Option V)}{H:Hp}{o:HO}{t':Nat}(I:jo X a8 g H s)(k:∀b u,s.heap.get? b=some u->A.get? b=some u)(c:s.heap.objs.size<=f)(new:eA X.prog X.w (upd H f o) A f o):
 jo X a8 g (upd H f o) { s with heap:=A,toks:=t' }:=I.un (Un.laid k c (I.aV.fresh c)) (I.aV.laid k c new)
theorem jo.write {X:Cx}{g:List (Option V)}{H:Hp}{x e:Addr}{o:HO}{t':Nat}(I:jo X a8 g H s)(f:Gi (H x))(c:e=x\/H e=some (.own x))(k:∀b u,b≠e->s.heap.get? b=some u->A.get? b=some u)(a:∃u,A.get? e=some u)(new:eA X.prog X.w (upd H x o) A x o):jo X a8 g (upd H x o) { s with heap:=A,toks:=t' }:=I.un (Un.write f c k a) (I.aV.write f c k a new)
def jo.xZ {X:Cx}{c:List (Option V)}{H:Hp}(I:jo X a8 c H s)(h:∀p∈b,s.heap.get? p.1=some p.2/\H p.1=none/\p.1≠X.env.locals/\p.1 ∉ X.fs /\ ∀v,p.2.data ≠ .cell v):jo X b c H s :=
 ⟨I.ok,I.os,I.bare,I.base,I.loc,I.cell,I.free,I.gH,λp a=>(mF.mp a).elim (λz=>I.pin p (aeu _ z)) (h p),I.aV,I.len⟩
def vd (k:U.Nodup)(a:U[i]? = some x)(b:U[o]? = some x):i=o:=by obtain⟨h,c⟩:=l8.mp a;obtain⟨f,e⟩:=l8.mp b;exact(afy k).mp (c.trans e.symm)
def sL {X:Cx}{σ:List (Option V)}{H:Hp}{M:Model}{v:V}(I:jo X a8 σ H s)(J:X.N.Nodup)(C:X.N[i]? = some x)(B:Ea X.env.scope x)(r:kr v Z)(h:∀s',jo X a8 (σ.set i (some v)) H s'->(∃a,L1 a s.heap s'.heap/\(a=X.env.locals\/X.env.cells.lookup x=some a))->y () s')(K:X.fn x=true\/X.env.scope.names.lookup x=some .local):wpAny M O (storeName X.env x Z) y E s:=by
 obtain⟨m,hn,hl⟩:=id I.loc;have Uw:(X.env.scope.kind == .class||(X.env.scope.kind == .module&&X.env.locals != X.env.globals))=false:=by rw[I.ok.kind];rfl
 have ab:i < σ.length:=by rw[I.len];exact(l8.mp C).1
 have sJ:=I.sJ;have tracked:∀{a:Addr} {R:Heap},(∃o,s.heap.get? a=some o/\H a=none)->L1 a s.heap R->eC X.prog X.w H R:=fun {a R} ha f b ob e=>by
   obtain⟨_,_,qh⟩:=ha;refine(I.aV b ob e).dn (λc U g q=>(f.2 c ?_).trans q) (λ_ q=>q) (λ_ _ q=>q) λ_ _ q=>q;rintro rfl;rcases g with rfl|g
   . rw[qh]at e;cases e
   . rw[qh]at g;cases g
 rcases B with hk|hk
 . refine wpAny_storeName_local hk hn (λR Xl f=>?_) Uw
   obtain⟨oL,_,_,Bw,_⟩:=id hn;refine h _ ⟨I.ok,I.os,I.bare,⟨λb o e n hb B=>?_,λb o e n hb B=>?_,I.base.free,λb o e B=>?_,I.base.kN,I.base.jQ,I.base.jR⟩,⟨_,Xl,λj A v' l u e3=>?_⟩,λA c e=>?_,I.free,I.gH,λp hp=>?_,tracked ⟨oL,Bw,I.free⟩ f,by simpa using I.len⟩ ⟨_,f,.inl rfl⟩
   . exact(f.2 b (oZ (sY (mA e) I.ok.above))).trans (I.base.keep b o e n hb B)
   . obtain⟨sl,l⟩:=I.base.slot b o e n hb B
     exact⟨sl,(f.2 b (oZ (sY (mA e) I.ok.above))).trans l⟩
   . obtain⟨o',l⟩:=I.base.there b o e B
     exact⟨o',(f.2 b (oZ (sY (mA e) I.ok.above))).trans l⟩
   . by_cases Q:j=i
     . subst Q
       rw[C]at l;cases l;rw[ua ab]at u;cases u;exact⟨Z,r,.inl ⟨hk,by simp⟩⟩
     . rw[Oc (ta Q)]at u
       obtain⟨u',r',q⟩:=hl j A v' l u e3;refine⟨u',r',?_⟩;rcases q with⟨k,e⟩|⟨k,c,e,z⟩
       . refine .inl ⟨k,?_⟩
         have:A≠x:=λe=>Q (vd J l (e ▸ C));simp[this,e]
       . exact .inr ⟨k,c,e,z.sameBut f (sJ A c e)⟩
   . obtain⟨U,z⟩:=I.cell A c e
     exact⟨U,z.sameBut f (sJ A c e)⟩
   . obtain⟨e,n,ne,nf,d⟩:=I.pin p hp
     exact⟨(f.2 p.1 ne).trans e,n,ne,nf,d⟩
 . have sM:X.fn x=true:=by
     rcases K with z|z
     . exact z
     . rw[z]at hk;cases hk
   obtain⟨c,g⟩:=I.ok.has x (.inl hk);obtain⟨U,z⟩:=I.cell x c g;refine wpAny_storeName_cell I.ok.kind hk g z (λR Gm f=>?_);obtain⟨oc,RU,Ux⟩:=id z;refine h { s with heap:=R } ⟨I.ok,I.os,I.bare,⟨λb o e n hb B=>?_,λb o e n hb B=>?_,I.base.free,λb o e B=>?_,I.base.kN,I.base.jQ,I.base.jR⟩,⟨m,hn.sameBut f (ta (sJ x c g)),λj A v' l u e3=>?_⟩,λA Y e=>?_,I.free,I.gH,λp hp=>?_,tracked ⟨oc,RU,I.gH x c g⟩ f,by simpa using I.len⟩ ⟨c,f,.inr g⟩
   . exact(f.2 b (oZ (sY (mA e) (I.ok.xX x c sM g)))).trans (I.base.keep b o e n hb B)
   . obtain⟨sl,l⟩:=I.base.slot b o e n hb B
     exact⟨sl,(f.2 b (oZ (sY (mA e) (I.ok.xX x c sM g)))).trans l⟩
   . obtain⟨o',l⟩:=I.base.there b o e B
     exact⟨o',(f.2 b (oZ (sY (mA e) (I.ok.xX x c sM g)))).trans l⟩
   . by_cases Q:j=i
     . subst Q
       rw[C]at l;cases l;rw[ua ab]at u;cases u;exact⟨Z,r,.inr ⟨.inl hk,c,g,Gm⟩⟩
     . rw[Oc (ta Q)]at u
       obtain⟨u',r',q⟩:=hl j A v' l u e3;refine⟨u',r',?_⟩;rcases q with q|⟨k,Y,e,z'⟩
       . exact .inl q
       . refine .inr ⟨k,Y,e,z'.sameBut f ?_⟩
         rintro rfl;exact Q (vd J l (I.ok.inj _ _ _ e g ▸ C))
   . by_cases RV:Y=c
     . subst RV;exact⟨_,Gm⟩
     . obtain⟨w2,z2⟩:=I.cell A Y e
       exact⟨w2,z2.sameBut f RV⟩
   . obtain⟨e,n,ne,nf,d⟩:=I.pin p hp
     refine⟨(f.2 p.1 ?_).trans e,n,ne,nf,d⟩;intro q;rw[q,RU]at e;have q':oc=p.2:=wi e;exact d U (by rw[<- q'];exact Ux)
def jS {X:Cx}{n:List (Option V)}{H:Hp}{M:V}(I:jo X a8 n H s)(b:X.N.Nodup)(c:X.N[i]? = some x)(f:Ea X.env.scope x)(r:kr M Z)(h:∀g,jo X a8 (n.set i (some M)) H g->y () g)(e:X.fn x=true\/X.env.scope.names.lookup x=some .local):wpAny v O (storeName X.env x Z) y E s :=
 sL I b c f r (λg a _=>h g a) e
def jo.PV {X:Cx}{n:List (Option V)}{H:Hp}{g:Hp}{ch:List Addr}(I:jo X a8 n H s)(i:j.os=s.os)(u:Un (kz X.stack) ch H g s.heap j.heap)(h:eC X.prog X.w g j.heap)(q:OY j.gens)(k:∀b∈ch,(b∈X.ex\/X.s₀.heap.objs.size<=b)/\b≠X.env.locals/\(∀x c,X.env.cells.lookup x=some c->c≠b) /\ ∀p∈X.pn++a8,p.1≠b):jo X a8 n g j:=by
 obtain⟨f,g',d',t',a⟩:=j;have e:a=s.os:=i;subst e;exact I.call (g':=g') (t':=t') (d':=d') u h q k
noncomputable abbrev XK:=Value->Option Addr->Hp->Prop
noncomputable abbrev ko:=List (Option V)
noncomputable abbrev VK:=V->Hp->Prop
noncomputable abbrev TE:=ko->Hp->VK->Prop
noncomputable abbrev TT:=ko->Hp->(Bool->Hp->Prop)->Prop
noncomputable abbrev TA:=ko->Hp->(List V->Hp->Prop)->Prop
structure Ends where
 nx:ko->Hp->Prop
 rt:VK
 bk:ko->Hp->Prop:=λ_ _=>False
 ct:ko->Hp->Prop:=λ_ _=>False
noncomputable abbrev TS:=Ends->ko->Hp->Prop
noncomputable def EP (X:Cx)(a8:List (Addr×Obj))(g:ko)(Q:VK)(u:Value)(a:j0):Prop:=∃v c,jo X a8 g c a/\kr v u/\Q v c
noncomputable def TP (X:Cx)(a8:List (Addr×Obj))(g:ko)(Q:Bool->Hp->Prop)(b:Bool)(a:j0):Prop:=∃c,jo X a8 g c a/\Q b c
noncomputable def AP (X:Cx)(a8:List (Addr×Obj))(h:ko)(Q:List V->Hp->Prop)(i:List Value)(a:j0):Prop:=∃c g,jo X a8 h g a/\Vals c i/\Q c g
noncomputable def SP (X:Cx)(a8:List (Addr×Obj))(D:Ends)(f:Flow)(a:j0):Prop :=
 match f with
 |.next=>∃c g,jo X a8 c g a/\D.nx c g|.brk=>∃c g,jo X a8 c g a/\D.bk c g|.cont=>∃c g,jo X a8 c g a/\D.ct c g|.ret u=>∃v c g,jo X a8 c g a/\kr v u/\D.rt v g
noncomputable def PE (X:Cx)(e:Expr)(t:TE):Prop :=
 ∀(a8:List (Addr×Obj)) (s:j0) (c:ko) (H:Hp) (Q:VK),jo X a8 c H s->t c H Q->wpAny (model X.prog X.w) X.A (eval e X.env) (EP X a8 c Q) X.xe s
noncomputable def PT (X:Cx)(e:Expr)(t:TT):Prop :=
 ∀(a8:List (Addr×Obj)) (s:j0) (c:ko) (H:Hp) (Q:Bool->Hp->Prop),jo X a8 c H s->t c H Q->wpAny (model X.prog X.w) X.A (isTrue e X.env (eval e X.env)) (TP X a8 c Q) X.xe s
noncomputable def PW (X:Cx)(e:Expr)(t:TT):Prop :=
 ∀(whole:Sem Value) (a8:List (Addr×Obj)) (s:j0) (c:ko) (H:Hp) (Q:Bool->Hp->Prop),jo X a8 c H s->t c H Q->wpAny (model X.prog X.w) X.A (isTrue e X.env whole) (TP X a8 c Q) X.xe s
def PW.pt {X:Cx}{t:TT}(h:PW X e t):PT X e t:=h _
noncomputable def PA (X:Cx)(g:List Expr)(t:TA):Prop :=
 ∀(pos:Pos) (a8:List (Addr×Obj)) (s:j0) (c:ko) (H:Hp) (Q:List V->Hp->Prop),jo X a8 c H s->t c H Q->wpAny (model X.prog X.w) X.A (spliced (su pos (lY g X.env))) (AP X a8 c Q) X.xe s
noncomputable def PS (X:Cx)(a:Stmt)(t:TS):Prop :=
 ∀(a8:List (Addr×Obj)) (s:j0) (c:ko) (H:Hp) (D:Ends),jo X a8 c H s->t D c H->wpAny (model X.prog X.w) X.A (exec a X.env) (SP X a8 D) X.xe s
noncomputable def hX (X:Cx)(a:List Stmt)(t:TS):Prop :=
 ∀(a8:List (Addr×Obj)) (s:j0) (c:ko) (H:Hp) (D:Ends),jo X a8 c H s->t D c H->wpAny (model X.prog X.w) X.A (execs a X.env) (SP X a8 D) X.xe s
def a_ {c:Type}{t:Sem c}{Q b:c->j0->Prop}(h:wpAny v O t Q E s)(e:∀a s,Q a s->b a s):wpAny v O t b E s:=Yq h e λ_ _ x=>x
noncomputable def Uy (i:Nat):TE:=λc H Q=>∃v,c[i]? = some (some v)/\Q v H
noncomputable def tC (v:V):TE:=λ_ H Q=>Q v H
def KZ {X:Cx}(k:X.N[i]? = some x)(o:Bt X.env.scope x)(f:(x == ("__debug__":Str))=false)(j:(x == ("__classdict__":Str))=false):PE X (.Name x q) (Uy i):=by
 intro a8 s g H Q I h;obtain⟨v,e,h⟩:=h;obtain⟨m,b,a⟩:=I.loc;obtain⟨u,r,l⟩:=a i x v k e o;have fin:EP X a8 g Q u s:=⟨v,H,I,r,h⟩
 rcases l with⟨hk,hm⟩|⟨hk,c,hc,gk⟩
 . exact Wd (aex I.ok.kind hk b hm fin) f
 . rcases hk with hk|hk
   . exact Wd (aeI I.ok.kind hk hc gk fin) f
   . exact Wd (agy I.ok.kind hk hc gk fin j) f
def K0 {X:Cx}{i j a}:PE X (.Constant (.int i) j a) (tC (.int i)):=λ_ _ _ H _ I h=>wpAny_Constant_int ⟨.int i,H,I.tok _,⟨_,rfl⟩,h⟩
def PX {X:Cx}{b j a}:PE X (.Constant (.bool b) j a) (tC (.bl b)):=λ_ _ _ H _ I h=>Constant_bool ⟨.bl b,H,I,rfl,h⟩
def K1 {X:Cx}{j a}:PE X (.Constant .none j a) (tC .ay):=λ_ _ _ H _ I h=>Constant_none ⟨.ay,H,I,rfl,h⟩
def K2 {X:Cx}{x j a}:PE X (.Constant (.str x) j a) (tC (.str x)):=λ_ _ _ H _ I h=>agH ⟨.str x,H,I.tok _,⟨_,rfl⟩,h⟩
noncomputable def Gl (X:Cx)(x:Str):Prop:=X.env.kindOf x=some .globalImplicit
def oz {X:Cx}{g:ko}{H:Hp}(I:jo X a8 g H s)(e:Gl X x)(b:X.mg x=some Z)(h:Q Z s)(c:(x == ("__debug__":Str))=false):wpAny (model X.prog X.w) X.A (eval (.Name x q) X.env) Q E s :=
 afa I.ok.kind e (Calls.loadGlobal_global (by rw[I.ok.glob];exact I.mod.glob.keeps I.bk) b h) c
def ja {X:Cx}{g:ko}{H:Hp}{u:Value}(I:jo X a8 g H s)(k:Gl X x)(i:X.mg x=none)(l:Nu x=some u)(h:Q u s)(f:x ≠ "__name__")(j:(x == ("__debug__":Str))=false):wpAny (model X.prog X.w) X.A (eval (.Name x q) X.env) Q E s:=by
 obtain⟨c,b,a⟩:=I.mod.blt;exact afa I.ok.kind k (Calls.loadGlobal_builtin (by rw[I.ok.glob];exact I.mod.glob.keeps I.bk) i (by rw[I.ok.blt];exact b.keeps I.bk) ((a x f).trans l) h) j
def rJ {X:Cx}{v:V}(e:Gl X x)(b:X.mg x=some Z)(r:kr v Z)(c:(x == ("__debug__":Str))=false):PE X (.Name x q) (tC v):=
 λ_ _ _ H _ I h=>oz I e b ⟨v,H,I,r,h⟩ c
noncomputable def tB (t:TE):TT:=λg H Q=>t g H λx h=>∃c,x = .bl c/\Q c h
noncomputable def Uz (t u:TT):TT:=λg H Q=>t g H λc h=>if c=true then u g h Q else Q false h
noncomputable def Xm (t u:TT):TT:=λg H Q=>t g H λc h=>if c=true then Q true h else u g h Q
noncomputable def UA (t:TT):TT:=λg H Q=>t g H λc h=>Q (!c) h
def Iv {X:Cx}{g:TT}(f:PT X e g):PW X (.BoolOp .And [e] pos) g:=by
 intro b a8 s i H Q I h;refine isTrue_and (a_ (f a8 s i H Q I h) λc s1 a=>?_);cases c with
 |true=>exact isTrue_and_nil a|false=>exact a
def K3 {X:Cx}{g:TT}(f:PT X e g):PW X (.BoolOp .Or [e] pos) g:=by
 intro b a8 s i H Q I h;refine isTrue_or (a_ (f a8 s i H Q I h) λc s1 a=>?_);cases c with
 |false=>exact isTrue_or_nil a|true=>exact a
def K4 {X:Cx}{g:TT}{n:TT}(l:PT X e g)(k:PW X (.BoolOp .And (J::B) pos) n):PW X (.BoolOp .And (e::J::B) pos) (Uz g n):=by
 intro i a8 s p H Q I h;refine isTrue_and (a_ (l a8 s p H _ I h) λc s1 j=>?_);obtain⟨q,f,a⟩:=j;cases c with
 |true=>exact k i a8 s1 p q Q f a|false=>exact⟨q,f,a⟩
def PY {X:Cx}{g:TT}{n:TT}(l:PT X e g)(k:PW X (.BoolOp .Or (J::B) pos) n):PW X (.BoolOp .Or (e::J::B) pos) (Xm g n):=by
 intro i a8 s p H Q I h;refine isTrue_or (a_ (l a8 s p H _ I h) λc s1 j=>?_);obtain⟨q,f,a⟩:=j;cases c with
 |true=>exact⟨q,f,a⟩|false=>exact k i a8 s1 p q Q f a
def K5 {X:Cx}{g:TT}(a:PT X e g):PT X (.UnaryOp .Not e pos) (UA g):=by intro a8 s i H Q I h;exact isTrue_not (a a8 s i H (λc n=>Q (!c) n) I h)
noncomputable def PZ (i tb:TE):TE:=λg H Q=>i g H λx h=>∃c,x = .bl c/\if c=true then tb g h Q else Q (.bl false) h
noncomputable def UB (i tb:TE):TE:=λg H Q=>i g H λx h=>∃c,x = .bl c/\if c=true then Q (.bl true) h else tb g h Q
def K6 {X:Cx}{op}{t:TE}(h:PE X e t):PE X (.BoolOp op [e] pos) t:=λa8 s c H Q I hw=>BoolOp_one (h a8 s c H Q I hw)
def K7 {X:Cx}{g:TE}{tb:TE}(l:PE X e g)(k:PE X (.BoolOp .And (J::B) pos) tb):PE X (.BoolOp .And (e::J::B) pos) (PZ g tb):=by
 intro a8 s n H Q I h;refine BoolOp_and (a_ (l a8 s n H _ I h) λv s1 j=>?_);obtain⟨x,p,f,i,a⟩:=j;obtain⟨c,rfl,a⟩:=a;cases i;refine Te ?_;cases c with
 |true=>exact k a8 s1 n p Q f a|false=>exact⟨.bl false,p,f,rfl,a⟩
def P0 {X:Cx}{g:TE}{tb:TE}(l:PE X e g)(k:PE X (.BoolOp .Or (J::B) pos) tb):PE X (.BoolOp .Or (e::J::B) pos) (UB g tb):=by
 intro a8 s n H Q I h;refine BoolOp_or (a_ (l a8 s n H _ I h) λv s1 j=>?_);obtain⟨x,p,f,i,a⟩:=j;obtain⟨c,rfl,a⟩:=a;cases i;refine Te ?_;cases c with
 |false=>exact k a8 s1 n p Q f a|true=>exact⟨.bl true,p,f,rfl,a⟩
noncomputable def Xn (t:TT)(i tb:TE):TE:=λg H Q=>t g H λc h=>if c=true then i g h Q else tb g h Q
def En {X:Cx}{b:Expr}{n:TE}{tb:TE}{p:TT}(l:PT X e p)(k:PE X J n)(j:PE X b tb):PE X (.IfExp e J b pos) (Xn p n tb):=by
 intro a8 s g H Q I h;refine wpAny_IfExp (a_ (l a8 s g H _ I h) λd s1 i=>?_);obtain⟨q,f,c⟩:=i;cases d with
 |true=>exact k a8 s1 g q Q f c|false=>exact j a8 s1 g q Q f c
noncomputable def dD (K:mW)(H:Hp)(a:Addr)(g:List V):Prop :=
 Rd H a (.lst g) \/
  ∃(o:Obj) (c:Array Value) (n:Nat),K.lookup a=some o/\o.cls = .type "list" /\ o.dict=none/\o.data = .seq c n/\c.size<=lX/\Vals g c.toList
noncomputable def fg (K:mW)(H:Hp)(a:Addr)(g:List V):Prop :=
 Rd H a (.tup g) \/
  ∃(o:Obj) (c:Array Value) (n:Nat),K.lookup a=some o/\o.cls = .type "tuple" /\ o.dict=none/\o.data = .seq c n/\c.size<=lX/\Vals g c.toList
noncomputable def UC:Value->Option V
 |.none=>some .ay|.bool b=>some (.bl b)|.int i _=>some (.int i)|.str x _=>some (.str x)|.bytes b _=>some (.Br b)|.float b _=>some (.hJ b)|.ref a=>some (.ref a)|.type n=>some (.ty n)|_=>none
def kr.abs {x:V}(r:kr x Z):UC Z=some x:=by
 cases x with
 |ay=>cases r;rfl|bl _=>cases r;rfl|int _=>obtain⟨t,rfl⟩:=r;rfl
 |str _=>obtain⟨t,rfl⟩:=r;rfl
 |Br _=>obtain⟨t,rfl⟩:=r;rfl
 |hJ _=>obtain⟨t,rfl⟩:=r;rfl
 |ref _=>cases r;rfl|ty _=>cases r;rfl
def kr.inj {x y:V}(r:kr x Z)(q:kr y Z):x=y:=wi (r.abs.symm.trans q.abs)
theorem Vals.inj {g c:List V}{i:List Value}(h:Vals g i)(n:Vals c i):g=c:=by
 induction h generalizing c with
 |nil=>cases n;rfl
 |cons r _ p=>cases n with
  |cons q u=>rw[r.inj q,p u]
def dD.of {K:Hp}{c:List V}(h:K f=some (.lst c)):dD H K f c:=.inl (.inl h)
def jo.list {X:Cx}{i:ko}{H:Hp}{g:List V}(I:jo X a8 i H s)(h:dD X.K H f g):∃c:List Value,Vals g c/\PlainL s.heap f c.toArray/\g.length<=lX:=by
 rcases h with h|⟨o,c,n,hk,hc,hd,hs,hz,r⟩
 . obtain⟨z,c,n,r,e⟩:=h.ok I.aV
   exact⟨c,r,⟨_,n,e,rfl,rfl,rfl⟩,z⟩
 . refine⟨c.toList,r,⟨o,n,I.mP f o hk,hc,hd,by simpa using hs⟩,?_⟩
   have e:=r.length;simp only[adG]at e;lia
def jo.K8 {X:Cx}{i:ko}{H:Hp}{g:List V}(I:jo X a8 i H s)(h:fg X.K H f g):∃c:List Value,Vals g c/\fA s.heap f c.toArray/\g.length<=lX:=by
 rcases h with h|⟨o,c,n,hk,hc,hd,hs,hz,r⟩
 . obtain⟨z,c,r,p⟩:=h.ok I.aV
   exact⟨c,r,p,z⟩
 . refine⟨c.toList,r,⟨o,I.mP f o hk,hc,⟨n,by simpa using hs⟩,hd⟩,?_⟩
   have e:=r.length;simp only[adG]at e;lia
def jo.tuple {X:Cx}{i:ko}{H:Hp}{g:List V}(I:jo X a8 i H s)(h:fg X.K H f g):∃c:List Value,Vals g c/\IsTup s.heap f c.toArray/\g.length<=lX :=
 let⟨c,r,p,z⟩:=I.K8 h
 ⟨c,r,p.t,z⟩
def jo.lR {X:Cx}{q:ko}{H:Hp}{g:List V}{p:List V}(I:jo X a8 q H s)(h:dD X.K H f g)(u:dD X.K H f p):g=p:=by
 obtain⟨i,r,⟨o,n,e,_,_,d⟩,_⟩:=I.list h;obtain⟨its',a,⟨j,k,b,_,_,c⟩,_⟩:=I.list u;rw[e]at b;cases b;rw[d]at c;injection c with d1 _
 have:i=its':=by simpa using congrArg Array.toList d1
 subst this;exact r.inj a
def jo.nu {X:Cx}{q:ko}{H:Hp}{g:List V}{p:List V}(I:jo X a8 q H s)(h:fg X.K H f g)(u:fg X.K H f p):g=p:=by
 obtain⟨i,r,⟨o,e,_,n,d⟩,_⟩:=I.tuple h;obtain⟨its',a,⟨j,b,_,k,c⟩,_⟩:=I.tuple u;rw[e]at b;cases b;rw[d]at c;injection c with d1 _
 have:i=its':=by simpa using congrArg Array.toList d1
 subst this;exact r.inj a
noncomputable abbrev Cx.kO (X:Cx)(E:Value->j0->Prop):Cx:={ X with xe:=E }
noncomputable abbrev Cx.ve (X:Cx):Cx:=X.kO λ_ _=>False
theorem Cx.Ok.kO {X:Cx}(ok:X.Ok)(E:Value->j0->Prop):(X.kO E).Ok :=
 ⟨ok.mod,ok.kind,ok.glob,ok.blt,ok.above,ok.inj,ok.has,ok.xX,ok.hd,ok.frames,ok.u_,ok.KU,ok.bs,ok.nq,ok.pH,ok.va,ok.hU,ok.qf⟩
def Cx.Ok.jf {X:Cx}(ok:(X.kO E).Ok):X.Ok :=
 ⟨ok.mod,ok.kind,ok.glob,ok.blt,ok.above,ok.inj,ok.has,ok.xX,ok.hd,ok.frames,ok.u_,ok.KU,ok.bs,ok.nq,ok.pH,ok.va,ok.hU,ok.qf⟩
theorem jo.kO {X:Cx}{c:ko}{H:Hp}(I:jo X a8 c H s)(E:Value->j0->Prop):jo (X.kO E) a8 c H s:=⟨I.ok.kO E,I.os,I.bare,I.base,I.loc,I.cell,I.free,I.gH,I.pin,I.aV,I.len⟩
theorem jo.jf {X:Cx}{c:ko}{H:Hp}(I:jo (X.kO E) a8 c H s):jo X a8 c H s:=⟨I.ok.jf,I.os,I.bare,I.base,I.loc,I.cell,I.free,I.gH,I.pin,I.aV,I.len⟩
section
variable {X:Cx}
theorem SP.jf {D:Ends}{f:Flow}{c:j0}(h:SP (X.kO E) a8 D f c):SP X a8 D f c:=by
 cases f with
 |next=>obtain⟨b,a,I,q⟩:=h;exact⟨b,a,I.jf,q⟩
 |brk=>obtain⟨b,a,I,q⟩:=h;exact⟨b,a,I.jf,q⟩
 |cont=>obtain⟨b,a,I,q⟩:=h;exact⟨b,a,I.jf,q⟩
 |ret u=>obtain⟨v,b,a,I,r,q⟩:=h;exact⟨v,b,a,I.jf,r,q⟩
end
theorem hX.ve {X:Cx}{t:TS}(h:hX X.ve a t):hX X a t:=λa8 s c H D I hw =>
 Yq (h a8 s c H D (I.kO _) hw) (λ_ _ q=>q.jf) λ_ _ z=>vT z
noncomputable def zQ:TS:=λD c H=>D.nx c H
noncomputable def UD (t u:TS):TS:=λD c H=>t { D with nx:=u D } c H
def Iw {X:Cx}:hX X [] zQ:=λ_ _ c H _ I h=>aey ⟨c,H,I,h⟩
def Eo {X:Cx}{t:TS}{u:TS}(j:PS X d t)(i:hX X a u):hX X (d::a) (UD t u):=by
 intro a8 s g H D I h;refine wpAny_execs_cons (a_ (j a8 s g H { D with nx:=u D } I h) λf s1 q=>?_);cases f with
 |next =>
  obtain⟨c,b,st,q⟩:=q;exact i a8 s1 c b D st q
 |ret v=>exact q|brk=>exact q|cont=>exact q
def Iy {X:Cx}{t:TS}(a:PS X d t):hX X [d] t:=by
 intro a8 s c H D I h;refine wpAny_execs_cons (a_ (a a8 s c H D I h) λf s1 q=>?_);cases f with
 |next=>exact aey q|ret v=>exact q|brk=>exact q|cont=>exact q
noncomputable def K9:TS:=λD c H=>D.bk c H
def Iz {X:Cx}:PS X (.Pass pos) zQ:=λ_ _ c H _ I h=>wpAny_Pass ⟨c,H,I,h⟩
def Ep {X:Cx}:PS X (.Break pos) K9:=λ_ _ c H _ I h=>wpAny_Break ⟨c,H,I,h⟩
def jo.quiet {X:Cx}{c:ko}{H:Hp}(I:jo X a8 c H s):interactive X.env=false:=by simp[interactive,I.ok.kind]
def K_ {X:Cx}{x j pos a}:PS X (.Expr (.Constant (.str x) j pos) a) zQ:=λ_ s c H _ I h=>wpAny_Expr (agH (show SP X _ _ .next { s with toks:=s.toks+1 } from⟨c,H,I.tok _,h⟩)) I.quiet
noncomputable def P1 (g:TE):TS:=λD c H=>g c H λ_ h=>D.nx c h
def IA {X:Cx}{g:TE}(i:PE X e g)(f:NM e none pos.line X.env=pure false):PS X (.Expr e pos) (P1 g):=by intro a8 s n H D I h;exact wpAny_Expr_any (a_ (i a8 s n H _ I h) λv s1 ⟨x,p,b,c,a⟩=>⟨n,p,b,a⟩) I.quiet f
noncomputable def UE (c:TE):TS:=λD g H=>c g H D.rt
def La {X:Cx}{g:TE}(f:PE X e g):PS X (.Return (some e) pos) (UE g):=by intro a8 s i H D I h;exact wpAny_Return_some (a_ (f a8 s i H _ I h) λv s1 ⟨x,n,c,a,b⟩=>⟨x,i,n,c,a,b⟩)
noncomputable def UG (c:TT)(t u:TS):TS:=λD g H=>c g H λb h=>if b=true then t D g h else u D g h
def P2 {X:Cx}{t:TS}{u:TS}{b:List Stmt}{j:TT}(o:PT X e j)(k:hX X a t)(l:hX X b u):PS X (.If e a b pos) (UG j t u):=by
 intro a8 s g H D I h;refine wpAny_If (a_ (o a8 s g H _ I h) λd s1 i=>?_);obtain⟨n,f,c⟩:=i;cases d with
 |true=>exact k a8 s1 g n D f c|false=>exact l a8 s1 g n D f c
noncomputable abbrev TG:=V->ko->Hp->(ko->Hp->Prop)->Prop
noncomputable abbrev sO:=List V->ko->Hp->(ko->Hp->Prop)->Prop
noncomputable def PG (X:Cx)(b:Expr)(t:TG):Prop :=
 ∀(a8:List (Addr×Obj)) (s:j0) (g:ko) (H:Hp) (v:V) (u:Value) (Q:ko->Hp->Prop),jo X a8 g H s->kr v u->t v g H Q ->
  wpAny (model X.prog X.w) X.A (AR b X.env u) (λ_ a=>∃c h,jo X a8 c h a/\Q c h) X.xe s
noncomputable def oU (X:Cx)(b:List Expr)(t:sO):Prop :=
 ∀(a8:List (Addr×Obj)) (s:j0) (g:ko) (H:Hp) (h:List V) (i:List Value) (Q:ko->Hp->Prop),jo X a8 g H s->Vals h i->t h g H Q ->
  wpAny (model X.prog X.w) X.A (agr ((xW b X.env).map (·.2)) i) (λ_ a=>∃c n,jo X a8 c n a/\Q c n) X.xe s
noncomputable abbrev Er:=V->V->V->Hp->(Hp->Prop)->Prop
noncomputable def Es (X:Cx)(t:Er):Prop :=
 ∀(a8:List (Addr×Obj)) (s:j0) (c:ko) (H:Hp) (o i v:V) (g iv u:Value) (Q:Hp->Prop),jo X a8 c H s->kr o g->kr i iv->kr v u->t o i v H Q ->
  wpAny (model X.prog X.w) X.A (agU g iv u) (λ_ a=>∃h,jo X a8 c h a/\Q h) X.xe s
noncomputable abbrev Gp:=V->V->Hp->VK->Prop
noncomputable def Gq (X:Cx)(op:SW)(t:Gp):Prop :=
 ∀(a8:List (Addr×Obj)) (s:j0) (c:ko) (H:Hp) (x y:V) (v u:Value) (Q:VK),jo X a8 c H s->kr x v->kr y u->t x y H Q ->
  wpAny (model X.prog X.w) X.A (inplaceOp op v u) (EP X a8 c Q) X.xe s
noncomputable def Gr (i:Nat):TG:=λv c H Q=>Q (c.set i (some v)) H
def IB {X:Cx}(c:X.N.Nodup)(e:X.N[i]? = some x)(j:Ea X.env.scope x)(f:X.fn x=true\/X.env.scope.names.lookup x=some .local):PG X (.Name x pos) (Gr i):=by intro a8 s g H v u Q I r h;exact wpAny_assign_Name (jS I c e j r (λb a=>⟨_,H,a,h⟩) f)
noncomputable def UH:sO:=λa c H Q=>a = []/\Q c H
noncomputable def P4 (t:TG)(u:sO):sO:=λc g H Q=>∃v r,c=v::r/\t v g H λb a=>u r b a Q
def IC {X:Cx}:oU X [] UH:=by intro a8 s c H a g Q I r h;obtain⟨e,h⟩:=h;subst e;cases r;exact assignInOrder_nil ⟨c,H,I,h⟩
def Et {X:Cx}{t:TG}{u:sO}(l:PG X e t)(q:oU X B u)(o:(xW (e::B) X.env).map (·.2)=AR e X.env::(xW B X.env).map (·.2)):oU X (e::B) (P4 t u):=by
 intro a8 s g H j x Q I r h;obtain⟨v,k,i,h⟩:=h;subst i;cases r with
 |cons r n =>
  rw[o];refine aeV (a_ (l a8 s g H _ _ _ I r h) λ_ s1 b=>?_);obtain⟨c,p,f,a⟩:=b;exact q a8 s1 c p _ _ Q f n a
noncomputable def UI (K:mW)(n:Nat)(t:sO):TG:=λv g H Q=>∃a c,v = .ref a/\fg K H a c/\c.length=n/\t c g H Q
def Lb {X:Cx}{t:sO}(p:X.calm=true)(h:oU X B t)(C:(xW B X.env).length=o)(A:(xW B X.env).findIdx? (·.1)=none):PG X (.Tuple B i pos) (UI X.K o t):=by
 intro a8 s g H v u Q I r hw;obtain⟨a,E,x,j,f,hw⟩:=hw;subst x;cases r;obtain⟨z,c,y,hz⟩:=I.tuple j;refine assign_Tuple_tuple (I.ok.hd p) y (by simp[C,<- f,c.length]) A λl k=>?_;have q:jo X a8 g H { s with heap:=l }:=I.kept (t':=s.toks) λb n e=>k b n (oZ (mA e)) e;exact h a8 _ g H E _ Q q (by simpa using c) hw
noncomputable def UJ (c e:TE)(t:Er):TG:=λv g H Q=>c g H λo h=>e g h λi b=>t o i v b λa=>Q g a
def Lc {X:Cx}{B A:TE}{t:Er}(o:PE X e B)(K:PE X J A)(C:Es X t)(E:∀v,AR (.Subscript e J pos) X.env v=(do
   let g <- zk [v] (eval e X.env);let iv <- zk [v,g] (eval J X.env)
   Yj pos
   zk [v,g,iv] (agU g iv v)
   release [v,g,iv] [])):PG X (.Subscript e J pos) (UJ B A t):=by
 intro a8 s n H v u Q I r h;rw[E];refine jg (sZ (a_ (o a8 s n H _ I h) λg s1 a=>?_));obtain⟨x,p,O,k,c⟩:=a;refine jg (sZ (a_ (K a8 s1 n p _ O c) λiv R a=>?_));obtain⟨y,l,z,q,j⟩:=a;refine jg (afb (jg (sZ (a_ (C a8 R n l x y v g iv u _ z k q r j) λ_ U a=>?_))));obtain⟨i,b,f⟩:=a;exact wpAny_release ⟨n,i,b,f⟩
noncomputable def Eu (a:TE)(g:TG):TS:=λD c H=>a c H λx h=>g x c h D.nx
def Ld {X:Cx}{i:TE}{g:TG}(j:PE X e i)(k:PG X J g)(l:Yz [J] e pos.line X.env=pure false)(hw:TF [J] e X.env=pure none)(o:(xW [J] X.env).map (·.2)= [AR J X.env]):PS X (.Assign [J] e pos) (Eu i g):=by
 intro a8 s n H D I h;refine wpAny_Assign_stores (a_ (j a8 s n H _ I h) λv s1 f=>?_) l hw;obtain⟨x,p,c,a,b⟩:=f;rw[o];exact a_ (k a8 s1 n p x v _ c a b) λ_ r q=>q
def Le {X:Cx}{l:TE}(o:X.N.Nodup)(r:X.N[i]? = some x)(A:Ea X.env.scope x)(z:PE X e l)(k:NM e (some (.Name x q)) pos.line X.env=pure false)(u:X.fn x=true\/X.env.scope.names.lookup x=some .local):
  PS X (.Assign [.Name x q] e pos) (Eu l (Gr i)):=by
 intro a8 s g H D I h;refine wpAny_Assign_Name (a_ (z a8 s g H _ I h) λv s1 j=>?_) k;obtain⟨y,n,f,a,b⟩:=j;exact jS f o r A a (λp c=>⟨_,n,c,b⟩) u
noncomputable def UK (i j:Nat)(b:TA):TS:=λD c H=>b c H λa g=>∃v w,a = [v,w]/\D.nx ((c.set i (some v)).set j (some w)) g
def Lf {X:Cx}{y:Str}{b:TA}{pt:Pos}{kt k2 pt2}(Q:X.calm=true)(C:X.N.Nodup)(P:X.N[i]? = some x)(S:X.N[o]? = some y)(M:i≠o)(K:X.env.scope.names.lookup x=some .local)(E:X.env.scope.names.lookup y=some .local)(L:PA X [e,J] b)(hw:TF [.Tuple [.Name x q,.Name y z] kt pt] (.Tuple [e,J] k2 pt2) X.env=pure (some [x,y]))(O:Yz [.Tuple [.Name x q,.Name y z] kt pt] (.Tuple [e,J] k2 pt2) pos.line X.env=pure false):
  PS X (.Assign [.Tuple [.Name x q,.Name y z] kt pt] (.Tuple [e,J] k2 pt2) pos) (UK i o b):=by
 intro a8 s n H D I h;rw[exec_Assign_arm];refine jg (afb ?_);rw[O];refine jg (kn ?_);rw[if_neg (by decide)];refine jg (Tuple_ (a_ (L _ a8 s n H _ I h) λU s1 r=>?_));obtain⟨vs,R,Y,Z,f⟩:=r;obtain⟨v,w,e1,f⟩:=f;subst e1;obtain⟨c,g,rfl,rv,px⟩:∃c g,U = [c,g]/\kr v c/\kr w g:=by
  cases Z with
  |cons p j =>
   cases j with
   |cons p' q' =>
    cases q';exact⟨_,_,rfl,p,p'⟩
 refine x3 ?_ (by show 2<=lX;decide);have I2:jo X a8 n R { s1 with heap:=s1.heap.push { cls:=.type "tuple",data:=.seq [c,g].toArray } }:=Y.kept (t':=s1.toks) λJ a B=>mn _ B;rw[hw];refine jg (kn ?_);show wpAny (model X.prog X.w) X.A (do rule "assign.swapped-stores";let items <- unpackItems (.ref s1.heap.objs.size) 2 none;agr [λv=>bindName X.env y v,λv=>bindName X.env x v] items.reverse;pure Flow.next) _ _ _;refine jg (yn (jg (unpackItems_tuple (items:=#[c,g]) (I.ok.hd Q) (IsTup.new s1.heap _) λh' u=>?_)));have l:=I2.kept (h':=h') (t':=s1.toks) λJ a B=>u J a (oZ (mA B)) B;show wpAny _ _ (agr [λv=>bindName X.env y v,λv=>bindName X.env x v] [g,c] >>= λ_=>pure Flow.next) _ _ _;refine jg (aeV (wpAny_bindName (jS l C S (.inl E) px (λs2 I4=>?_) (.inr E))));refine aeV (wpAny_bindName (jS I4 C P (.inl K) rv (λs3 k=>assignInOrder_nil (kn ?_)) (.inr K)));rw[List.set_comm _ _ (ta M)]at k;exact⟨_,R,k,f⟩
noncomputable def UL (i:Nat)(b:TE)(c:Gp):TS:=λD g H=>∃x,g[i]? = some (some x)/\b g H λy h=>c x y h λz a=>D.nx (g.set i (some z)) a
def Lg {X:Cx}{K:TE}{E:Gp}(L:X.N.Nodup)(J:X.N[i]? = some x)(C:Ea X.env.scope x)(P:PE X e K)(M:Gq X op E)(O:X.fn x=true\/X.env.scope.names.lookup x=some .local):
   PS X (.AugAssign (.Name x q) op e pos) (UL i K E):=by
 intro a8 s g H D I h;obtain⟨v,n,h⟩:=h;obtain⟨m,p,b⟩:=I.loc;have B:Bt X.env.scope x:=by rcases C with k|k;exact .inl k;exact .inr (.inl k)
 obtain⟨u,r,l⟩:=b i x v J n B;refine wpAny_AugAssign_Name ?_;have go:wpAny (model X.prog X.w) X.A (eval e X.env) (λw o=>wpAny (model X.prog X.w) X.A (inplaceOp op u w) (λr s₃=>wpAny (model X.prog X.w) X.A (storeName X.env x r) (λ_=>SP X a8 D .next) X.xe s₃) X.xe o) X.xe s:=by refine a_ (P a8 s g H _ I h) λw s1 a=>?_;obtain⟨y,Q,R,U,j⟩:=a;refine a_ (M a8 s1 g Q v y u w _ R r U j) λz s2 a=>?_;obtain⟨zv,Y,Z,r2,q2⟩:=a;exact jS Z L J C r2 (λs3 f=>⟨_,Y,f,q2⟩) O
 rcases l with⟨hk,hm⟩|⟨hk,c,hc,gk⟩
 . exact aex I.ok.kind hk p hm go
 . rcases hk with hk|hk
   . exact aeI I.ok.kind hk hc gk go
   . rcases C with k|k
     . have:X.env.scope.names.lookup x=some .free:=hk
       rw[k]at this;cases this
     . have:X.env.scope.names.lookup x=some .free:=hk
       rw[k]at this;cases this
noncomputable def Lh (f:Int->Int->Int):Gp:=λx y H Q=>∃i j,x = .int i/\y = .int j/\Q (.int (f i j)) H
def Li {X:Cx}:Gq X .Add (Lh λi j=>i+j):=by intro a8 s g H x y v u Q I a b h;obtain⟨i,j,e,c,q⟩:=h;subst e;subst c;obtain⟨t,rfl⟩:=a;obtain⟨f,rfl⟩:=b;exact iadd_int ⟨.int _,H,I.tok _,⟨_,rfl⟩,q⟩
def Lj {X:Cx}:Gq X .Sub (Lh λi j=>i-j):=by intro a8 s g H x y v u Q I a b h;obtain⟨i,j,e,c,q⟩:=h;subst e;subst c;obtain⟨t,rfl⟩:=a;obtain⟨f,rfl⟩:=b;exact isub_int ⟨.int _,H,I.tok _,⟨_,rfl⟩,q⟩
noncomputable def Lk (c:TT)(tb:TS):TS:=λD g H=>∃W:Nat->ko->Hp->Prop,(∃m,W m g H) /\ ∀m g H,W m g H ->
 c g H λb i=>if b=true then ∃N:ko->Hp->Prop,(∀h n,N h n->∃p,p < m/\W p h n)/\tb { D with nx:=N,ct:=N,bk:=D.nx } g i else D.nx g i
def Ew {X:Cx}{C:TT}{tb:TS}(B:Ut (model X.prog X.w) X.A X.env X.xe)(J:PT X e C)(E:hX X a tb):PS X (.While e a [] pos) (Lk C tb):=by
 intro a8 s Q H D I h;obtain⟨W,⟨R,U⟩,turn⟩:=h;refine wpAny_While (codeAny_whileLoop (λn Y=>∃g p,jo X a8 g p Y/\W n g p) ?_ R ⟨Q,H,I,U⟩);rintro n s1 ⟨k,O,Z,z⟩;refine SI B (a_ (J a8 s1 k O _ Z (turn n k O z)) λb s2 aT=>?_);obtain⟨x,y,j⟩:=aT;cases b with
 |true =>
  obtain⟨N,u,j⟩:=j;rw[if_pos rfl];refine SI B (a_ (E a8 s2 k x _ y j) λf s3 i=>?_);cases f with
  |next =>
   obtain⟨body,c,l,r⟩:=i;obtain⟨o,hm,q⟩:=u body c r;exact⟨o,hm,body,c,l,q⟩
  |cont =>
   obtain⟨body,c,l,r⟩:=i;obtain⟨o,hm,q⟩:=u body c r;exact⟨o,hm,body,c,l,q⟩
  |brk=>exact i|ret v=>exact i
 |false =>
  rw[if_neg Nb];exact aey ⟨k,x,y,j⟩
structure It where
 go:Nat->Hp->Prop
 By:Nat->Hp->V->Hp->Prop
 stop:Nat->Hp->Prop
noncomputable def fS (X:Cx)(a8:List (Addr×Obj))(H:Hp)(b:Addr):Prop :=
 H b=none/\b≠X.env.locals/\b ∉ X.fs/\(b∈X.ex\/X.s₀.heap.objs.size<=b)/\(∀x c,X.env.cells.lookup x=some c->c≠b) /\ ∀p∈X.pn++a8,p.1≠b
def jo.ny {X:Cx}{g:ko}{H H':Hp}{b:Addr}(I:jo X a8 g H s)(f:s.heap.objs.size<=b)(h:H' b=none):fS X a8 H' b:=by
 refine⟨h,YP (sY I.lt f),I.Uv f,.inr (n7 I.sz f),λx c e z=>?_,λp a z=>?_⟩
 . obtain⟨v,q⟩:=I.cell x c e
   exact absurd (sY q.lt (by rw[z];exact f)) (Ac _)
 . exact absurd (sY (mA (I.pin p a).1) (by rw[z];exact f)) (Ac _)
structure Turn (P:p9)(w:World)(K:mW)(tg:Expr)(J:It)(fp:List Addr)(it:Addr)(tn:Nat->Heap->Prop):Prop where
 mem:it∈fp
 obj:∀i h,tn i h->∀b∈fp,∃o,h.get? b=some o /\ ∀v,o.data ≠ .cell v
 keep:∀i h h',tn i h->(∀b∈fp,∀o,h.get? b=some o->h'.get? b=some o)->tn i h'
 item:∀(X:Cx),X.prog=P->X.w=w->X.K=K->X.calm=true->∀(i:Nat) (a8:List (Addr×Obj)) (s:j0) (σ:ko) (H:Hp) (E:Value->j0->Prop),jo X a8 σ H s->(∀b∈fp,fS X a8 H b)->tn i s.heap->J.go i H ->
  wpAny (model P w) X.A (Bv (.ref it)) (λr s1=>∃u,r=some u /\
   wpAny (model P w) X.A (afO tg (.ref it) u) (λ_ s2=>∃x H',jo X a8 σ H' s2/\kr x u/\J.By i H x H'/\tn (i+1) s2.heap /\ ∀b∈fp,H' b=none) E s1) E s
 done:∀(X:Cx),X.prog=P->X.w=w->X.K=K->X.calm=true->∀(i:Nat) (a8:List (Addr×Obj)) (s:j0) (σ:ko) (H:Hp) (E:Value->j0->Prop),jo X a8 σ H s->(∀b∈fp,fS X a8 H b)->tn i s.heap->J.stop i H ->
  wpAny (model P w) X.A (Bv (.ref it)) (λr s1=>r=none/\jo X a8 σ H s1) E s
 self:∀(A:nc) (i:Nat) (s:j0) (Q:Value->j0->Prop) (E:Value->j0->Prop),tn i s.heap->Q (.ref it) s->wpAny (model P w) A (Pp (.ref it)) Q E s
noncomputable abbrev TI:=ko->Hp->(It->Hp->Prop)->Prop
noncomputable def Ll (X:Cx)(a8:List (Addr×Obj))(n:ko)(p:Expr)(R:It->Hp->Prop)(c:Value)(a:j0):Prop :=
 ∃(it:Addr) (h:List Addr) (i:Nat->Heap->Prop) (J:It) (g:Hp),c = .ref it/\jo X a8 n g a/\Turn X.prog X.w X.K p J h it i/\i 0 a.heap/\(∀b∈h,fS X a8 g b)/\R J g
noncomputable def PI (X:Cx)(g a:Expr)(b:TI):Prop :=
 ∀(a8:List (Addr×Obj)) (s:j0) (c:ko) (H:Hp) (R:It->Hp->Prop),jo X a8 c H s->b c H R ->
  wpAny (model X.prog X.w) X.A (eval a X.env) (λv s1=>wpAny (model X.prog X.w) X.A (Pp v) (Ll X a8 c g R) X.xe s1) X.xe s
def zR (M : s.heap.get? f = some c)(A : c.cls = .type n)(g : c.data = .fields r)(i : ["enumerate", "zip", "dict_itemiterator", "dict_reverseitemiterator", "odict_iterator", "itertools.zip_longest", "itertools.pairwise"].contains n = false)(a : y () s): wpAny v O (afO e (.ref f) Z) y E s := by
 unfold afO;cases e <;> first
   |exact kn a
   | (cases Z <;> first
       |exact kn a
       | (refine jg (wpAny_load M ?_)
          rw[A, g];show wpAny v O (if (["enumerate", "zip", "dict_itemiterator", "dict_reverseitemiterator", "odict_iterator", "itertools.zip_longest", "itertools.pairwise"].contains n && r[0]? == some (xy _))= true then _ else _) y E s;rw[if_neg (by intro h; rw[i, ahL]at h; cases h)];exact kn a))
noncomputable def Gs (K:mW)(a:Addr):It :=
 ⟨λi H=>∃c x,dD K H a c/\c[i]? = some x,λi H x b=>b=H /\ ∀c,dD K H a c->c[i]? = some x,λi H=>∃c,dD K H a c/\c.length<=i⟩
noncomputable def Ln (K:mW)(a:Addr):It :=
 ⟨λi H=>∃c x,fg K H a c/\c[i]? = some x,λi H x b=>b=H /\ ∀c,fg K H a c->c[i]? = some x,λi H=>∃c,fg K H a c/\c.length<=i⟩
noncomputable def Bz (b:Int)(n:Nat):It:=⟨λi _=>i<n,λi H x a=>a=H/\x = .int (b+i),λi _=>n<=i⟩
def BA (a it:Addr):Turn k u H e (Gs H a) [it] it (λi h=>h.IsListIter it a i) where
 mem:=by simp
 obj:=λi h st b f=>by
  have K:b=it:=by simpa using f
  subst K;obtain⟨o,K,c,d⟩:=st;exact⟨o,K,λv z=>by rw[d]at z;cases z⟩
 keep:=λi h l st P=>st.at λo K=>P it (by simp) o K
 item:=by intro X y hw r hc i a8 s σ w E I hf st hg;subst y hw r;obtain⟨xs,x,j,hx⟩:=hg;obtain⟨av,rv,p,hz⟩:=I.list j;obtain⟨tg,hu,ru⟩:=rv.get hx;obtain⟨f0,f1,f2,f3,f4,q⟩:=hf it (by simp);refine afU st p.isList (x:=tg) (by simpa using hu) λl sQ sb=>?_;have I1:jo X a8 σ w { s with heap:=l }:=I.turned (t':=s.toks) (λb o f K=>(sb.2 b f).trans K) f0 f1 f3 f4 q;obtain⟨o,K,c,d⟩:=id sQ;exact⟨tg,rfl,zR (s:={ s with heap:=l }) K c d (by decide) ⟨x,w,I1,ru,⟨rfl,λys hy=>by rw[I.lR hy j];exact hx⟩,sQ,λb f=>(hf b f).1⟩⟩
 done:=by intro X y hw r hc i a8 s σ w E I hf st hg;subst y hw r;obtain⟨xs,j,hx⟩:=hg;obtain⟨av,rv,p,hz⟩:=I.list j;obtain⟨f0,f1,f2,f3,f4,q⟩:=hf it (by simp);have hl:=rv.length;exact af8 (I.ok.hd hc) st p.isList (by simp;lia) λl eb=>⟨rfl,I.turned (t':=s.toks) (λb o f K=>eb b o f K) f0 f1 f3 f4 q⟩
 self:=λ_ _ _ _ _ st h=>wpAny_pyIter_listiter st h
def zS (a it:Addr):Turn k u H e (Ln H a) [it] it (λi h=>h.IsTupleIter it a i) where
 mem:=by simp
 obj:=λi h st b f=>by
  have K:b=it:=by simpa using f
  subst K;obtain⟨o,K,c,d⟩:=st;exact⟨o,K,λv z=>by rw[d]at z;cases z⟩
 keep:=λi h l st P=>st.at λo K=>P it (by simp) o K
 item:=by intro X y hw r hc i a8 s σ w E I hf st hg;subst y hw r;obtain⟨xs,x,j,hx⟩:=hg;obtain⟨av,rv,p,hz⟩:=I.tuple j;obtain⟨tg,hu,ru⟩:=rv.get hx;obtain⟨f0,f1,f2,f3,f4,q⟩:=hf it (by simp);refine wpAny_pyNext_tuple_item st (show s.heap.IsTuple a av.toArray from p) (x:=tg) (by simpa using hu) λl sQ sb=>?_;have I1:jo X a8 σ w { s with heap:=l }:=I.turned (t':=s.toks) (λb o f K=>(sb.2 b f).trans K) f0 f1 f3 f4 q;obtain⟨o,K,c,d⟩:=id sQ;exact⟨tg,rfl,zR (s:={ s with heap:=l }) K c d (by decide) ⟨x,w,I1,ru,⟨rfl,λys hy=>by rw[I.nu hy j];exact hx⟩,sQ,λb f=>(hf b f).1⟩⟩
 done:=by intro X y hw r hc i a8 s σ w E I hf st hg;subst y hw r;obtain⟨xs,j,hx⟩:=hg;obtain⟨av,rv,p,hz⟩:=I.tuple j;obtain⟨f0,f1,f2,f3,f4,q⟩:=hf it (by simp);have hl:=rv.length;exact wpAny_pyNext_tuple_end (I.ok.hd hc) st (show s.heap.IsTuple a av.toArray from p) (by simp;lia) λl eb=>⟨rfl,I.turned (t':=s.toks) (λb o f K=>eb b o f K) f0 f1 f3 f4 q⟩
 self:=λ_ _ _ _ _ st h=>wpAny_pyIter_tupleiter st h
def zT {w:World}(it:Addr)(A:Int)(n:Nat):Turn k w H e (Bz A n) [it] it (λi h=>IsRangeIter h it (A+(i:Nat)*1) ((n:Int)-(i:Nat)) 1) where
 mem:=by simp
 obj:=λi h st b a=>by
  have tg:b=it:=by simpa using a
  subst tg;exact⟨_,st,λv z=>by have z':Data.fields _=X1 v:=z;cases z'⟩
 keep:=λi h c st P=>P it (by simp) _ st
 item:=by intro X l hw j u i a8 s σ K E I hf st r;subst l hw j;obtain⟨f0,f1,f2,q,f4,f⟩:=hf it (by simp);have W:=Walks.range (prog:=X.prog) (w:=X.w) (I.ok.hd u) it A 1 n;refine W.item i s _ _ r st λv c x hv y kk=>?_;obtain⟨t,rfl⟩:=hv;have I1:jo X a8 σ K { s with heap:=c,toks:=x }:=I.turned (λb o a tg=>kk b o (by simpa using a) tg) f0 f1 q f4 f;refine⟨_,rfl,zR (s:={ s with heap:=c,toks:=x }) (n:="range_iterator") y rfl rfl (by decide) ⟨.int (A+i),K,I1,⟨t,?_⟩,⟨rfl,rfl⟩,y,λb a=>(hf b a).1⟩⟩;rw[Int.mul_one]
 done:=by intro X l hw j u i a8 s σ K E I hf st r;subst l hw j;obtain⟨f0,f1,f2,q,f4,f⟩:=hf it (by simp);exact wpAny_pyNext_range_end (I.ok.hd u) st (by have:n<=i:=r;lia) λc eb=>⟨rfl,I.turned (t':=s.toks) (λb o a tg=>eb b o a tg) f0 f1 q f4 f⟩
 self:=λ_ _ _ _ _ st h=>wpAny_pyIter_rangeiter st h
noncomputable def P5 (K:mW)(b:TE):TI:=λg H R=>b g H λx c=>∃a,x = .ref a/\(∃h,dD K c a h)/\R (Gs K a) c
noncomputable def UM (K:mW)(b:TE):TI:=λg H R=>b g H λx c=>∃a,x = .ref a/\(∃h,fg K c a h)/\R (Ln K a) c
def x4 {X:Cx}{A:TE}(B:PE X e A):PI X J e (P5 X.K A):=by
 intro a8 s g H R I h;refine a_ (B a8 s g H _ I h) λv s1 i=>?_;obtain⟨x,n,c,j,f⟩:=i;obtain⟨a,l,⟨C,k⟩,q⟩:=f;subst l;cases j;obtain⟨u,z,p,y⟩:=c.list k;refine ad5 p.isList ?_;refine⟨s1.heap.objs.size,[s1.heap.objs.size],_,_,n,rfl,c.kept (t':=s1.toks) λb o l=>mn _ l,BA a _,⟨_,n3 _ rfl,rfl,rfl⟩,λb r=>?_,q⟩;have l:b=s1.heap.objs.size:=by simpa using r
 subst l;exact c.ny (lb _) (c.aV.fresh (lb _))
def Lo {X:Cx}{A:TE}(B:PE X e A):PI X J e (UM X.K A):=by
 intro a8 s g H R I h;refine a_ (B a8 s g H _ I h) λv s1 i=>?_;obtain⟨x,n,c,k,f⟩:=i;obtain⟨a,l,⟨C,r⟩,q⟩:=f;subst l;cases k;obtain⟨j,z,p,y⟩:=c.tuple r;refine wpAny_pyIter_tuple (show s1.heap.IsTuple a j.toArray from p) ?_;refine⟨s1.heap.objs.size,[s1.heap.objs.size],_,_,n,rfl,c.kept (t':=s1.toks) λb o l=>mn _ l,zS a _,⟨_,n3 _ rfl,rfl,rfl⟩,λb u=>?_,q⟩;have l:b=s1.heap.objs.size:=by simpa using u
 subst l;exact c.ny (lb _) (c.aV.fresh (lb _))
def vf {X:Cx}{p:ko}{H:Hp}{R:It->Hp->Prop}{g:Int}{t u v:Tok}(x:jo X a8 p H s)(k:-(2 ^ 62)<=I)(r:I<2 ^ 62)(l:-(2 ^ 62)<=g)(j:g<2 ^ 62)(q:R (Bz I (g-I).toNat) H):wpAny (model X.prog X.w) X.A (Pp (.ref s.heap.objs.size)) (Ll X a8 p e R) E { s with heap:=s.heap.push { cls:=.type "range",data:=.fields #[.int I t,.int g u,.int 1 v] },toks:=i }:=by
 refine wpAny_pyIter_range (IsRange.new ..) (small_one k r l j) ?_;have a:jo X a8 p H { s with heap:=s.heap.push { cls:=.type "range",data:=.fields #[.int I t,.int g u,.int 1 v] },toks:=i }:=x.kept λb o n=>mn _ n;refine⟨(s.heap.push { cls:=.type "range",data:=.fields #[.int I t,.int g u,.int 1 v] }).objs.size,[(s.heap.push { cls:=.type "range",data:=.fields #[.int I t,.int g u,.int 1 v] }).objs.size],_,_,H,rfl,
   a.kept (t':=i) λb o n=>mn _ n,zT _ I (g-I).toNat,?_,λb f=>?_,q⟩
 . have c:I+((0:Nat):Int)*1=I:=by simp
   have h:(((g-I).toNat:Nat):Int)-((0:Nat):Int)=Builtin.Range.rangeSize I g 1:=by rw[rangeSize_one];split<;>lia
   show IsRangeIter _ _ (I+((0:Nat):Int)*1) ((((g-I).toNat:Nat):Int)-((0:Nat):Int)) 1;rw[c,h];exact n3 _ rfl
 . have n:b=(s.heap.push { cls:=.type "range",data:=.fields #[.int I t,.int g u,.int 1 v] }).objs.size:=by simpa using f
   subst n;exact a.ny (lb _) (a.aV.fresh (lb _))
noncomputable def P6 (b:TA):TI:=λc H R=>b c H λa g=>∃j:Int,a = [.int j] /\ -(2 ^ 62)<=j/\j<2 ^ 62/\R (Bz 0 j.toNat) g
noncomputable def P7 (b:TA):TI:=λc H R=>b c H λa g=>∃i j:Int,a = [.int i,.int j]/\(-(2 ^ 62)<=i/\i<2 ^ 62 /\ -(2 ^ 62)<=j/\j<2 ^ 62)/\R (Bz i (j-i).toNat) g
def BB {X:Cx}{u:TA}(y:Gl X "range")(v:X.mg "range" = none)(x:PA X [e] u)(o:lY [e] X.env = [(false,eval e X.env)]):PI X J (.Call (.Name "range" q) [e] [] z) (P6 u):=by
 intro a8 s g H R I h;refine Call_ (ja I y v boot_range (XP (a_ (x z a8 s g H _ I h) λB s1 f=>?_) o rfl) (by decide) (by decide));obtain⟨l,C,k,i,b⟩:=f;obtain⟨j,p,b,c,a⟩:=b;subst p;cases i with
 |cons r n =>
  cases n;obtain⟨t,rfl⟩:=r;exact call_range_1 (vf k (by lia) (by lia) b c (by simpa using a))
def BD {X:Cx}{n:Expr}{A:TA}(p:Gl X "range")(C:X.mg "range" = none)(E:PA X [e,J] A)(K:lY [e,J] X.env = [(false,eval e X.env),(false,eval J X.env)])(B:lY [J] X.env = [(false,eval J X.env)]):
  PI X n (.Call (.Name "range" q) [e,J] [] z) (P7 A):=by
 intro a8 s O H R I h;refine Call_ (ja I p C boot_range (XP (a_ (E z a8 s O H _ I h) λU s1 l=>?_) (by rw[K,B]) (by rw[B];rfl)) (by decide) (by decide));obtain⟨x,Y,v,u,c⟩:=l;obtain⟨i,j,b,⟨c,k,o,f⟩,a⟩:=c;subst b;cases u with
 |cons r g =>
  cases g with
  |cons Q g =>
   cases g;obtain⟨t,rfl⟩:=r;obtain⟨y,rfl⟩:=Q;exact call_range_2 (vf v c k o f a)
noncomputable def UN (c:TI)(g:TG)(tb:TS):TS:=λD h H=>c h H λJ r=>∃W:Nat->Nat->ko->Hp->Prop,(∃m,W 0 m h r) /\ ∀i m h H,W i m h H ->
 (J.stop i H/\D.nx h H)\/(J.go i H /\ ∃N:ko->Hp->Prop,(∀n p,N n p->∃q,q < m/\W (i+1) q n p) /\ ∀x p,J.By i H x p->g x h p λa b=>tb { D with nx:=N,ct:=N,bk:=D.nx } a b)
noncomputable def nz (c:List Addr)(h:Heap):List (Addr×Obj):=c.filterMap λb=>(h.get? b).map λo=>(b,o)
def jH (a:f∈T)(e:A.get? f=some c):(f,c)∈nz T A:=OW.mpr ⟨f,a,by rw[e];rfl⟩
def BE {p:Addr×Obj}(f:p∈nz T A):p.1∈T/\A.get? p.1=some p.2:=by
 obtain⟨b,a,e⟩:=OW.mp f;cases q:A.get? b with
 |none=>rw[q]at e;cases e
 |some o =>
  rw[q]at e;have c:(b,o)=p:=wi e;subst c;exact⟨a,q⟩
def jo.pinned {X:Cx}{g:ko}{H:Hp}(I:jo X a8 g H s)(i:∀b∈T,fS X a8 H b)(h:∀b∈T,∃o,s.heap.get? b=some o /\ ∀v,o.data ≠ .cell v):jo X (a8++nz T s.heap) g H s :=
 I.xZ λp f=>(mF.mp f).elim (λz=>I.pin p (Gk _ z)) λz=>by obtain⟨a,e⟩:=BE z;obtain⟨n,q,r,_⟩:=i p.1 a;obtain⟨o,c,d⟩:=h p.1 a;rw[e]at c;cases c;exact⟨e,n,q,r,d⟩
def jo.lS {X:Cx}{c:ko}{H:Hp}(I:jo X (a8++b) c H s):jo X a8 c H s:=I.xZ λp a=>I.pin p (Gk _ (aeu _ a))
def Lp {X:Cx}{L:TI}{g:TG}{tb:TS}(E:Ut (model X.prog X.w) X.A X.env X.xe)(M:X.calm=true)(O:PI X J e L)(P:PG X J g)(C:hX X a tb)(Q:∀x,y3 e X.env x=pure x):PS X (.For J e a [] q) (UN L g tb):=by
 intro a8 s σ H D I h;refine wpAny_For (a_ (O a8 s σ H _ I h) λv s1 h1=>a_ h1 λLm s2 h2=>?_) Q;obtain⟨it,z,tn,tg,H2,K,I2,T,Lq,f2,W,⟨m0,w0⟩,turn⟩:=h2;subst K;have Y:∀{R:Hp},(∀b∈z,R b=none)->∀b∈z,fS X a8 R b:=λhn b C=>⟨hn b C,(f2 b C).2⟩
 refine codeAny_forLoop_any (λn s'=>∃i p R,jo X a8 p R s'/\tn i s'.heap/\(∀b∈z,R b=none)/\W i n p R) ?_ m0 ⟨0,σ,H2,I2,Lq,λb C=>(f2 b C).1,w0⟩;rintro n s3 ⟨i,y,U,I3,RW,RX,w3⟩;rcases turn i n y U w3 with⟨stop,qn⟩|⟨go,N,hN,step⟩
 . refine SI E (a_ (T.done X rfl rfl rfl M i a8 s3 y U X.xe I3 (Y RX) RW stop) λr s4 l=>?_)
   obtain⟨Z,I4⟩:=l;subst Z;exact aey ⟨y,U,I4,qn⟩
 . refine SI E (a_ (T.item X rfl rfl rfl M i a8 s3 y U X.xe I3 (Y RX) RW go) λr s4 l=>?_)
   obtain⟨u,Z,h4⟩:=l;subst Z;refine SI E (a_ h4 λ_ s5 l=>?_);obtain⟨x,H5,I5,r5,y5,Lr,Ls⟩:=l;have ab:=I5.pinned (Y Ls) (T.obj _ _ Lr);refine SI E (a_ (P _ s5 y H5 x u _ ab r5 (step x H5 y5)) λ_ s6 l=>?_);obtain⟨σ6,H6,I6,q6⟩:=l;refine SI E (a_ (C _ s6 σ6 H6 _ I6 q6) λf s7 k=>?_);have again:∀{B:ko} {c:Hp},jo X (a8++nz z s5.heap) B c s7->N B c->∃m,m<n /\ ∃i p R,jo X a8 p R s7/\tn i s7.heap/\(∀b∈z,R b=none)/\W i m p R:=fun {B c} j body=>by obtain⟨m',hm,w7⟩:=hN B c body;refine⟨m',hm,i+1,B,c,j.lS,T.keep _ _ _ Lr λb C o K=>(j.pin (b,o) (Gk _ (Gk _ (jH C K)))).1,λb C=>?_,w7⟩;obtain⟨o,K,d⟩:=T.obj _ _ Lr b C;exact(j.pin (b,o) (Gk _ (Gk _ (jH C K)))).2.1
   cases f with
   |next=>obtain⟨B,c,j,body⟩:=k;exact again j body
   |cont=>obtain⟨B,c,j,body⟩:=k;exact again j body
   |brk=>obtain⟨B,c,j,k⟩:=k;exact⟨B,c,j.lS,k⟩
   |ret v=>obtain⟨x7,B,c,j,r7,k⟩:=k;exact⟨x7,B,c,j.lS,r7,k⟩
noncomputable abbrev R2:=V->V->Hp->VK->Prop
noncomputable def bQ (X:Cx)(f:Value->Value->Sem Value)(r:R2):Prop :=
 ∀(a8:List (Addr×Obj)) (s:j0) (c:ko) (H:Hp) (x y:V) (v u:Value) (Q:VK),jo X a8 c H s->kr x v->kr y u->r x y H Q ->
  wpAny (model X.prog X.w) X.A (f v u) (EP X a8 c Q) X.xe s
noncomputable def BF (X:Cx)(f:Value->Sem Value)(r:V->Hp->VK->Prop):Prop :=
 ∀(a8:List (Addr×Obj)) (s:j0) (c:ko) (H:Hp) (x:V) (v:Value) (Q:VK),jo X a8 c H s->kr x v->r x H Q ->
  wpAny (model X.prog X.w) X.A (f v) (EP X a8 c Q) X.xe s
noncomputable def dX (X:Cx)(f:Value)(r:List V->Hp->VK->Prop):Prop :=
 ∀(a8:List (Addr×Obj)) (s:j0) (c:ko) (H:Hp) (g:List V) (h:List Value) (Q:VK),jo X a8 c H s->Vals g h->r g H Q ->
  wpAny (model X.prog X.w) X.A (call f h) (EP X a8 c Q) X.xe s
noncomputable def UO (X:Cx)(r:V->Hp->(Bool->Hp->Prop)->Prop):Prop :=
 ∀(a8:List (Addr×Obj)) (s:j0) (c:ko) (H:Hp) (x:V) (v:Value) (Q:Bool->Hp->Prop),jo X a8 c H s->kr x v->r x H Q ->
  wpAny (model X.prog X.w) X.A (truthy v) (TP X a8 c Q) X.xe s
noncomputable def BG (r:R2)(b tb:TE):TE:=λc H Q=>b c H λx g=>tb c g λy a=>r x y a Q
noncomputable def Xq (r:V->Hp->VK->Prop)(a:TE):TE:=λc H Q=>a c H λx g=>r x g Q
noncomputable def rI (C:Int->Int->Prop)(g:Int->Int->V):R2:=λx y H Q=>∃i j,x = .int i/\y = .int j/\C i j/\Q (g i j) H
noncomputable def oV (g:Int->Int->V):R2:=λx y H Q=>∃i j,x = .int i/\y = .int j/\Q (g i j) H
noncomputable def rU (g:Int->V):V->Hp->VK->Prop:=λx H Q=>∃i,x = .int i/\Q (g i) H
def Ex {f:Cx}{C:TE}{tb:TE}(r:PE f e C)(q:PE f J tb){g:ko}{H:Hp}{R:V->V->Hp->Prop}(I:jo f a8 g H s)(h:C g H λx B=>tb g B λy n=>R x y n)(z:∀v u p x y n,jo f a8 g n p->kr x v->kr y u->R x y n->wpAny (model f.prog f.w) f.A (X v u) Q f.xe p):
  wpAny (model f.prog f.w) f.A (eval e f.env) (λv s₁=>wpAny (model f.prog f.w) f.A (eval J f.env) (λu s₂=>wpAny (model f.prog f.w) f.A (X v u) Q f.xe s₂) f.xe s₁) f.xe s:=by
 refine a_ (r a8 s g H _ I h) λv s1 c=>?_;obtain⟨x,B,l,a,i⟩:=c;refine a_ (q a8 s1 g B _ l i) λu p c=>?_;obtain⟨y,n,j,o,k⟩:=c;exact z v u p x y n j a o k
def P8 {X:Cx}{g:TE}{tb:TE}{r:R2}(l:bQ X (qC op) r)(j:PE X e g)(k:PE X J tb):PE X (.BinOp e op J pos) (BG r g tb):=by intro a8 s n H Q I h;exact wpAny_BinOp (Ex j k I h λv u p x y i f c a q=>l a8 p n i x y v u Q f c a q)
def P9 {X:Cx}{g:TE}{op:UnaryOp}{r:V->Hp->VK->Prop}(f:BF X (unaryOp op) r)(i:PE X e g):PE X (.UnaryOp op e pos) (Xq r g):=by intro a8 s n H Q I h;exact UnaryOp_ (a_ (i a8 s n H _ I h) λv s1 ⟨x,p,a,b,c⟩=>f a8 s1 n p x v Q a b c)
def Gv {f:Cx}{C:Int->Int->Prop}(k:∀(i j:Int) (t u:Tok) (s:j0) (Q:Value->j0->Prop) (E:Value->j0->Prop),C i j->Q (.int (g i j) s.toks) { s with toks:=s.toks+1 }->wpAny (model f.prog f.w) f.A (X (.int i t) (.int j u)) Q E s):
  bQ f X (rI C λi j=>.int (g i j)):=by
 intro a8 s n H x y v u Q I a b h;obtain⟨i,j,rfl,rfl,e,q⟩:=h;obtain⟨t,rfl⟩:=a;obtain⟨c,rfl⟩:=b;exact k i j t c s _ _ e ⟨.int (g i j),H,I.tok _,⟨_,rfl⟩,q⟩
def Lu {f:Cx}(e:∀(i j:Int) (t u:Tok) (s:j0) (Q:Value->j0->Prop) (E:Value->j0->Prop),Q (.int (g i j) s.toks) { s with toks:=s.toks+1 }->wpAny (model f.prog f.w) f.A (X (.int i t) (.int j u)) Q E s):
  bQ f X (oV λi j=>.int (g i j)):=by
 intro a8 s n H x y v u Q I a b h;obtain⟨i,j,rfl,rfl,q⟩:=h;obtain⟨t,rfl⟩:=a;obtain⟨c,rfl⟩:=b;exact e i j t c s _ _ ⟨.int (g i j),H,I.tok _,⟨_,rfl⟩,q⟩
def zU {f:Cx}{g:Int->Int->Bool}(e:∀(i j:Int) (t u:Tok) (s:j0) (Q:Value->j0->Prop) (E:Value->j0->Prop),Q (.bool (g i j)) s->wpAny (model f.prog f.w) f.A (X (.int i t) (.int j u)) Q E s):
  bQ f X (oV λi j=>.bl (g i j)):=by
 intro a8 s n H x y v u Q I a b h;obtain⟨i,j,rfl,rfl,q⟩:=h;obtain⟨t,rfl⟩:=a;obtain⟨c,rfl⟩:=b;exact e i j t c s _ _ ⟨.bl (g i j),H,I,rfl,q⟩
noncomputable def UP (i j:Int):Prop:=0<j/\j<1073741824
noncomputable def UQ (i j:Int):Prop:=0<=j/\j<=1000000/\i.natAbs<2 ^ 64
noncomputable def Ey (i j:Int):Prop:=(-(2 ^ 64)<i/\i<2 ^ 64)\/(-(2 ^ 64)<j/\j<2 ^ 64)
def Ey.ok {j:Int}(h:Ey I j):IntMulOk I j:=by
 rcases h with⟨h1,h2⟩|⟨h1,h2⟩
 . exact .of_left (intBits_le_64 h1 h2)
 . exact .of_right (intBits_le_64 h1 h2)
def Lv {X:Cx}:bQ X (qC .Add) (oV λi j=>.int (i+j)):=Lu λ_ _ _ _ _ _ _ q=>add_int q
def Lw {X:Cx}:bQ X (qC .Sub) (oV λi j=>.int (i-j)):=Lu λ_ _ _ _ _ _ _ q=>sub_int q
def Ly {X:Cx}:bQ X (qC .Mult) (rI Ey λi j=>.int (i*j)):=Gv λ_ _ _ _ _ _ _ a q=>mul_int q a.ok
def ID {X:Cx}:bQ X (qC .FloorDiv) (rI UP λi j=>.int (i / j)):=Gv λi j _ _ _ _ _ a q=>by have c:(0:Int)<j:=a.1;have b:j<1073741824:=a.2;exact floordiv_int (by lia) (by rw[Int.fdiv_eq_ediv_of_nonneg i (by lia)];exact q) (.inl (PyProof.noPylong_small (by lia)))
def Lz {X:Cx}:bQ X (qC .Mod) (rI (λ_ j=>0<j) λi j=>.int (i % j)):=Gv λi j _ _ _ _ _ a q=>by have b:(0:Int)<j:=a;exact mod_int' (by lia) (by rw[Int.fmod_eq_emod_of_nonneg i (by lia)];exact q)
def LA {X:Cx}:bQ X (qC .Pow) (rI UQ λi j=>.int (i ^ j.toNat)):=Gv λ_ _ _ _ _ _ _ a q=>pow_int_small a.1 a.2.1 a.2.2 q
def Xr {X:Cx}{f:Value->Sem Value}{g:Int->Int}(e:∀(i:Int) (t:Tok) (s:j0) (Q:Value->j0->Prop) (E:Value->j0->Prop),Q (.int (g i) s.toks) { s with toks:=s.toks+1 }->wpAny (model X.prog X.w) X.A (f (.int i t)) Q E s):
  BF X f (rU λi=>.int (g i)):=by
 intro a8 s c H x v Q I a h;obtain⟨i,rfl,q⟩:=h;obtain⟨t,rfl⟩:=a;exact e i t s _ _ ⟨.int (g i),H,I.tok _,⟨_,rfl⟩,q⟩
def LB {X:Cx}:BF X (unaryOp .USub) (rU λi=>.int (-i)):=Xr λ_ _ _ _ _ q=>neg_int q
def BH {X:Cx}{c:ko}{H:Hp}{Q:VK}{k f:Bool}(I:jo X a8 c H s)(q:Q (.bl k) H)(e:k=f):EP X a8 c Q (.bool f) s:=by subst e;exact⟨.bl k,H,I,rfl,q⟩
def P_ {X:Cx}:bQ X (ra .Lt) (oV λi j=>.bl (decide (i<j))):=zU λ_ _ _ _ _ _ _ q=>lt_int q
def Qa {X:Cx}:bQ X (ra .LtE) (oV λi j=>.bl (decide (i<=j))):=zU λ_ _ _ _ _ _ _ q=>le_int q
def Qb {X:Cx}:bQ X (ra .Gt) (oV λi j=>.bl (decide (j<i))):=zU λ_ _ _ _ _ _ _ q=>gt_int q
def Qc {X:Cx}:bQ X (ra .GtE) (oV λi j=>.bl (decide (j<=i))):=zU λ_ _ _ _ _ _ _ q=>ge_int q
def LC {X:Cx}:bQ X (ra .Is) (λx y H Q=>y = .ay/\Q (.bl (decide (x = .ay))) H):=by
 intro a8 s c H x y v u Q I a b h;obtain⟨rfl,q⟩:=h;cases b;refine is_none_gen (BH I q ?_);cases x<;>first
  | (cases a;rfl)
  | (obtain⟨t,rfl⟩:=a;rfl)
def IE {X:Cx}:bQ X (ra .IsNot) (λx y H Q=>y = .ay/\Q (.bl (!decide (x = .ay))) H):=by
 intro a8 s c H x y v u Q I a b h;obtain⟨rfl,q⟩:=h;cases b;refine isnot_none_gen (BH I q ?_);cases x<;>first
  | (cases a;rfl)
  | (obtain⟨t,rfl⟩:=a;rfl)
def IF {X:Cx}{g:TE}{tb:TE}{r:R2}(o:bQ X (ra h) r)(k:PE X e g)(l:PE X J tb)(j:Y2 h J=false):PE X (.Compare e [h] [J] pos) (BG r g tb):=by intro a8 s n H Q I a;exact wpAny_Compare1 (Ex k l I a λv u p x y i f c op q=>o a8 p n i x y v u Q f c op q) j
noncomputable def uD (t:TE):TT:=λc H Q=>t c H λx a=>∃k,x = .bl k/\Q k a
def IG {X:Cx}{n:TE}{tb:TE}{r:R2}(E:bQ X (ra h) r)(B:PE X e n)(C:PE X J tb)(A:Y2 h J=false):PT X (.Compare e [h] [J] pos) (uD (BG r n tb)):=by
 intro a8 s g H Q I a;refine wpAny_isTrue_Compare1 (a_ (B a8 s g H _ I a) λv s1 ⟨x,p,O,R,i⟩=>a_ (C a8 s1 g p _ O i) λu U ⟨y,Y,Z,r2,q⟩=>
  a_ (E a8 U g Y x y v u _ Z R r2 q) λc s3 ⟨z,j,f,l,k,op,o⟩=>?_) A
 subst op;cases l;exact Te ⟨j,f,o⟩
noncomputable def Ez (K:mW)(x:V)(H:Hp)(k:Bool):Prop :=
 match x with
 |.ay=>k=false|.bl e=>k=e|.int i=>k=(i != 0)|.str y=>y.length<=lX/\k=((y.length:Int) != 0)|.Br y=>y.size<=lX/\k=((y.size:Int) != 0)|.ref p=>(∃c,dD K H p c/\k = !c.isEmpty)\/(∃c,fg K H p c/\k = !c.isEmpty) \/ ∃g,H p=some (.dK g)/\k = !g.isEmpty|_=>False
def zV {f:Type}{e:List (f×V)}{c:List (f×Value)}(r:KV e c):(!c.isEmpty)= !e.isEmpty:=by cases r<;>rfl
def qi {c:List V}(r:Vals c Y):(!Y.toArray.isEmpty)= !c.isEmpty:=by cases r<;>simp
def kX:(lX:Nat)<2 ^ 63:=by rw[Hy];decide
def BI {X:Cx}:UO X (λx H Q=>∃k,Ez X.K x H k/\Q k H):=by
 intro a8 s E H x v Q I c h;obtain⟨k,e,q⟩:=h;have z:=kX;have hs:lX=16777216:=Hy;cases x with
 |ay =>
  cases c;have a:k=false:=e;subst a;exact truthy_none ⟨H,I,q⟩
 |bl b =>
  cases c;have a:k=b:=e;subst a;exact Te ⟨H,I,q⟩
 |int i =>
  obtain⟨t,rfl⟩:=c;have a:k=(i != 0):=e;subst a;exact PySem.P.truthy_int ⟨H,I,q⟩
 |str y =>
  obtain⟨t,rfl⟩:=c;obtain⟨u,a⟩:y.length<=lX/\k=((y.length:Int) != 0):=e;subst a;exact PySem.P.truthy_str (by lia) ⟨H,I.tok _,q⟩
 |Br y =>
  obtain⟨t,rfl⟩:=c;obtain⟨u,a⟩:y.size<=lX/\k=((y.size:Int) != 0):=e;subst a;exact PySem.W.truthy_bytes (by lia) ⟨H,I.tok _,q⟩
 |ref p =>
  cases c;have a:(∃n,dD X.K H p n/\k = !n.isEmpty)\/(∃n,fg X.K H p n/\k = !n.isEmpty) \/ ∃B,H p=some (.dK B)/\k = !B.isEmpty:=e;rcases a with⟨n,hx,a⟩|⟨n,hx,a⟩|⟨B,hx,a⟩
  . subst a
    obtain⟨o,r,f,j⟩:=I.list hx;have g:=r.length;exact wpAny_truthy_list f.isList (by simp only[m3];lia) ⟨H,I.tok _,by rw[qi r];exact q⟩
  . subst a
    obtain⟨o,r,f,j⟩:=I.tuple hx;have g:=r.length;exact truthy_tuple f (by simp only[m3];lia) ⟨H,I.tok _,by rw[qi r];exact q⟩
  . subst a
    obtain⟨j,l,C,r,m⟩:B.length<=lX/\(p == NV)=false /\ ∃C,KV B C/\s.heap.DictOf (eV X.prog X.w) p C:=I.aV p _ hx;have g:B.length=C.length:=Paired.length r;exact wpAny_truthy_dict l m (by lia) ⟨H,I.tok _,by rw[zV r];exact q⟩
 |_=>exact(show False from e).elim
def EA {X:Cx}{p:TE}(i:PE X e p)(f:∀whole,isTrue e X.env whole=(do let g <- whole;Yj e.pos;zk [g] (truthy g))):
  PT X e (λn H Q=>p n H λx q=>∃k,Ez X.K x q k/\Q k q):=by
 intro a8 s n H Q I h;exact isTrue_plain (a_ (i a8 s n H _ I h) λg s1 ⟨x,r,a,b,c⟩=>BI a8 s1 n r x g Q a b c) (f _)
def zW {X:Cx}:bQ X (qC .Add) (λx y H Q=>∃i j,x = .str i/\y = .str j/\i.length+j.length<=lX/\Q (.str (i++j)) H):=by intro a8 s g H x y v u Q I a b h;obtain⟨i,j,rfl,rfl,c,q⟩:=h;obtain⟨t,rfl⟩:=a;obtain⟨e,rfl⟩:=b;exact add_str (λe f=>⟨.str (i++j),H,I.tok _,⟨_,rfl⟩,q⟩) c
def Tw {x:V}(r:Vals [x] Y):∃u,Y = [u]/\kr x u:=by
 cases r with
 |cons c g=>cases g;exact⟨_,rfl,c⟩
def bai {x y:V}(r:Vals [x,y] Y):∃u c,Y = [u,c]/\kr x u/\kr y c:=by
 cases r with
 |cons g h =>
  cases h with
  |cons i n=>cases n;exact⟨_,_,rfl,g,i⟩
def BJ {X:Cx}(f:X.calm=true):dX X (.builtin "min") (λn H Q=>∃i j,n = [.int i,.int j]/\Q (.int (if j<i then j else i)) H):=by
 intro a8 s p H n v Q I r h;obtain⟨i,j,rfl,q⟩:=h;obtain⟨u,e,rfl,⟨t,rfl⟩,⟨c,rfl⟩⟩:=bai r;refine min_two_ints (I.ok.hd f) λb a k=>⟨_,H,I.kept k,?_,q⟩
 by_cases g:j<i
 . rw[if_pos g,if_pos g];exact⟨_,rfl⟩
 . rw[if_neg g,if_neg g];exact⟨_,rfl⟩
def sR {X:Cx}:dX X (.type "int") (λc H Q=>(∃i,c = [.int i]/\Q (.int i) H) \/ ∃k,c = [.bl k]/\Q (.int (if k then 1 else 0)) H):=by
 intro a8 s g H c n Q I r h;rcases h with⟨i,rfl,q⟩|⟨k,rfl,q⟩
 . obtain⟨u,rfl,t,rfl⟩:=Tw r
   exact call_int_int ⟨.int i,H,I,⟨_,rfl⟩,q⟩
 . obtain⟨u,rfl,a⟩:=Tw r
   cases a;exact call_int_bool ⟨.int (if k then 1 else 0),H,I.tok _,⟨_,rfl⟩,q⟩
structure dy (k:Nat)(A:nc):Prop where
 hd:A.handled=none
 dp:A.depth+3*k+5<recursionLimit
 un:A.units+16*k+200<cLine
 gd:A.guards=some []
theorem dy.deeper (r:dy (i+1) O)(env:Env):dy i (O.deeper env):=
 ⟨r.hd,by have:=r.dp;show O.depth+1+3*i+5<_;lia,by have:=r.un;show O.units+3+16*i+200<_;lia,by first|exact r.gd| (simp[Around.deeper];exact r.gd)⟩
theorem dy.depth (r:dy i O):O.depth<recursionLimit:=by have:=r.dp;lia
theorem dy.units (r:dy i O):O.units+64<cLine:=by have:=r.un;lia
noncomputable def LD:TA:=λ_ H Q=>Q [] H
noncomputable def Qd (b:TE)(tr:TA):TA:=λc H Q=>b c H λx g=>tr c g λh a=>Q (x::h) a
def nA {X:Cx}:PA X [] LD:=λ_ _ _ _ H Q I h=>agY ⟨[],H,I,.nil,h⟩
def kY {X:Cx}{g:TE}{t:TA}(q:PE X e g)(r:PA X B t)(o:lY (e::B) X.env=(false,eval e X.env)::lY B X.env):PA X (e::B) (Qd g t):=by intro pos a8 s n H Q I h;rw[o];show wpAny _ _ (spliced ((false,eval e X.env)::su pos (lY B X.env))) _ _ s;refine aeY (a_ (q a8 s n H _ I h) λu s1 b=>?_);obtain⟨x,p,l,f,a⟩:=b;exact a_ (r pos a8 s1 n p _ l a) λy C ⟨v,i,k,j,c⟩=>⟨x::v,i,k,.cons f j,c⟩
noncomputable def UR (t:TA):TE:=λh H Q=>t h H λc g=>c.length<=lX /\ ∀p,g p=none->Q (.ref p) (upd g p (.tup c))
noncomputable def US (t:TA):TE:=λh H Q=>t h H λc g=>c.length<=lX /\ ∀p,g p=none->Q (.ref p) (upd g p (.lst c))
def LF {X:Cx}{t:TA}{f}(h:PA X B t):PE X (.Tuple B f pos) (UR t):=by intro a8 s i H Q I c;refine wpAny_Tuple_spliced (a_ (h pos a8 s i H _ I c) λn s1 ⟨p,g,a,r,z,q⟩=>⟨by rw[<- r.length];exact z,?_⟩);have hf:g s1.heap.objs.size=none:=a.aV.fresh (lb _);refine⟨.ref s1.heap.objs.size,upd g s1.heap.objs.size (.tup p),a.laid (t':=s1.toks) (λb u e=>mn _ e) (lb _) ?_,rfl,q _ hf⟩;exact⟨z,n,r,⟨_,n3 _ rfl,rfl,⟨_,rfl⟩,rfl⟩⟩
def BK {X:Cx}{t:TA}(h:PA X B t):PE X (.List B pos) (US t):=by intro a8 s i H Q I c;refine wpAny_List_spliced (a_ (h pos a8 s i H _ I c) λn s1 ⟨p,g,a,r,z,q⟩=>⟨by rw[<- r.length];exact z,?_⟩);have hf:g s1.heap.objs.size=none:=a.aV.fresh (lb _);refine⟨.ref s1.heap.objs.size,upd g s1.heap.objs.size (.lst p),a.laid (t':=s1.toks) (λb u e=>mn _ e) (lb _) ?_,rfl,q _ hf⟩;exact⟨z,n,0,r,n3 _ rfl⟩
noncomputable abbrev Sp:=List V->Hp->VK->XK->Prop
noncomputable abbrev nB:=List Env->Hp->j0->XK->Value->j0->Prop
structure pJ (P:p9)(w:World)(K:mW)(mg:Str->Option Value)(base:Heap)(A:nc)(outer:List Env)(s:j0)(H:Hp):Prop where
 frames:A.frames=some outer
 mod:bab K mg base
 bs:∀b o,base.get? b=some o->s.heap.get? b=some o/\H b=none
 nq:base.objs.size<=s.heap.objs.size
 hU:s.heap.FunFrames base outer
 qf:∀b∈kz outer,H b=none
 aV:eC P w H s.heap
 bare:OY s.gens
noncomputable def CE (a:List Env)(P:p9)(w:World)(H:Hp)(s:j0)(Q:VK)(u:Value)(b:j0):Prop :=
 ∃v c,b.os=s.os/\OY b.gens/\Un (kz a) [] H c s.heap b.heap/\eC P w c b.heap/\kr v u/\Q v c
noncomputable def CR (c:nB)(a:List Env)(P:p9)(w:World)(H:Hp)(s:j0)(Q:VK)(E:XK)(r:Result)(b:j0):Prop :=
 match r with
 |.ok (.ret u)=>CE a P w H s Q u b|.ok _=>False|.error e=>c a H s E e b
structure d_ (P:p9)(w:World)(K:mW)(mg:Str->Option Value)(base:Heap)(CX:nB)(k:Nat)(f:Addr)(fd:u9)(ps:List Str)(sp:Sp):Prop where
 len:∀vs H Q E,sp vs H Q E->vs.length=ps.length
 run:∀(A:nc) (outer:List Env) (s:j0) (H:Hp) (args:Args) (us:List Value) (vs:List V) (Q:VK) (E:XK),dy k A->pJ P w K mg base A outer s H->agV s fd args (ps.zip us)->Vals vs us->sp vs H Q E ->
  F2 (model P w) A (.call (.ref f) args) (CR CX outer P w H s Q E) s
def d_.imp {n:nB}{p r:Sp}(F:d_ k u H C A n i f w U p)(h:∀g P Q E,r g P Q E->p g P Q E):d_ k u H C A n i f w U r :=
 ⟨λg P Q E q=>F.len g P Q E (h _ _ _ _ q),λK outer s P args v g Q E c x a b e=>F.run K outer s P args v g Q E c x a b (h _ _ _ _ e)⟩
def jo.EB {X:Cx}{c:ko}{H:Hp}(I:jo X a8 c H s):pJ X.prog X.w X.K X.mg X.base X.A X.stack s H :=
 ⟨I.ok.frames,I.ok.mod,I.bs,n7 I.ok.nq I.sz,I.stack,I.xY,I.aV,I.bare⟩
def jo.after {X:Cx}{i:ko}{H:Hp}{Q:VK}(I:jo X a8 i H s)(h:CE X.stack X.prog X.w H s Q Z j):EP X a8 i Q Z j:=by obtain⟨v,a,os,bare,un,e,r,q⟩:=h;obtain⟨c,g,d,t,f⟩:=j;obtain rfl:f=s.os:=os;exact⟨v,a,I.call (h':=c) (g':=g) (d':=d) (t':=t) (ch:=[]) un e bare (λb z=>absurd z (by simp)),r,q⟩
noncomputable def uE (c:Sp)(b:List V)(E:XK)(t:TA):TE:=λg H Q=>t g H λa h=>c (a++b) h Q E
noncomputable def Gj (K:mW)(a:u9)(ps:List Str)(ds:List Value):Prop :=
 ∀(s:j0) (c:List Value),K.In s.heap->(c++ds).length=ps.length->agV s a ⟨c,[]⟩ (ps.zip (c++ds))
def Gj.all (h:∀c:List Value,c.length=U.length->Th w ⟨c,[]⟩=pure (U.zip c)):Gj H w U []:=λs c _ a=>by rw[tA]at a ⊢;exact .of_eq (h c a)
noncomputable def Passes (g:nB)(X:Cx)(E:XK):Prop:=∀(a8:List (Addr×Obj)) (h:ko) (H:Hp) (s:j0) (e:Value) (c:j0),jo X a8 h H s->g X.stack H s E e c->X.xe e c
def vg {X:Cx}{x:nB}{y:Sp}{g:List V}{E:XK}{p:ko}{H:Hp}{Q:VK}{us:List Value}{n:List V}(F:d_ X.prog X.w X.K X.mg X.base x i f w U y)(j:dy i X.A)(l:Gj X.K w U Y)(q:Vals g Y)(v:Passes x X E)(I:jo X a8 p H s)(r:Vals n us)(h:y (n++g) H Q E):wpAny (model X.prog X.w) X.A (call (.ref f) us) (EP X a8 p Q) X.xe s:=by
 have b:Vals (n++g) (us++Y):=r.append q;have c:(us++Y).length=U.length:=by rw[<- b.length];exact F.len _ _ _ _ h
 refine agh (SR (F.run X.A X.stack s H ⟨us,[]⟩ (us++Y) (n++g) Q E j I.EB (l s us I.mP c) b h) λr k a=>?_);cases r with
 |error e=>exact v a8 p H s e k I a
 |ok fl =>
  cases fl with
  |ret u=>exact I.after a|next=>exact vT a|brk=>exact vT a|cont=>exact vT a
def IH {X:Cx}{g:nB}{n:Sp}{p:List V}{E:XK}{t:TA}(F:d_ X.prog X.w X.K X.mg X.base g i f w U n)(l:dy i X.A)(y:Gl X x)(fd:X.mg x=some (.ref f))(ps:KR X.K (.ref f)=true)(j:Gj X.K w U Y)(u:Vals p Y)(J:Passes g X E)(v:PA X (e::B) t)(L:(x == ("__debug__":Str))=false)(z:lY (e::B) X.env=(false,eval e X.env)::lY B X.env)(c:(su pos (lY B X.env)).any (·.1)=false):
  PE X (.Call (.Name x q) (e::B) [] pos) (uE n p E t):=by
 intro a8 s C H Q I h;refine OT (oz I y fd ?_ L);refine aeZ (h₀:=X.base) I.ok.mod.kW ps (a_ (v pos a8 s C H _ I h) λO s1 ⟨b,R,a,r,k⟩=>⟨a.mP,?_⟩) z c;exact vg F l j u J a r k
def EC {X:Cx}{g:nB}{n:Sp}{p:List V}{E:XK}(F:d_ X.prog X.w X.K X.mg X.base g i f w U n)(c:dy i X.A)(j:Gl X x)(a:X.mg x=some (.ref f))(l:KR X.K (.ref f)=true)(b:Gj X.K w U Y)(fd:Vals p Y)(k:Passes g X E)(r:(x == ("__debug__":Str))=false):PE X (.Call (.Name x q) [] [] pos) (uE n p E LD):=by
 intro a8 s u H Q I h;refine OT (oz I j a ?_ r);exact PySem.W.callWith_K0 I.mP l (vg (us:=[]) F c b fd k I .nil h)
structure jM (N P:List Str)(sc:Scope):Prop where
 kind:sc.kind = .function
 co:sc.isCoroutine=false
 gen:sc.isGenerator=false
 nd:N.Nodup
 pre:N.take P.length=P
 par:∀x∈P,sc.names.lookup x=some .local\/sc.names.lookup x=some .cell
 LG:∀y∈sc.names,y.2 ≠ .free
theorem sT {a:Str->Option v7}{x:Str}:∀{binds:List (Str×Value)} {m:Str->Option Value},(∀v,(x,v) ∉ binds)->bindL a binds m x=m x
 | [],_,_=>rfl
 | (n,v)::r,m,h=>by
  unfold bindL;rw[sT λw hw=>h w (nW _ hw)];split
  . have:x≠n:=by rintro rfl;exact h v qc
    simp[this]
  . rfl
theorem sU {a:Str->Option v7}{x:Str}:∀{binds:List (Str×Value)} {m:Str->Option Value},(∀v,(x,v) ∉ binds)->bindC a binds m x=m x
 | [],_,_=>rfl
 | (n,v)::r,m,h=>by
  unfold bindC;rw[sU λw hw=>h w (nW _ hw)];split
  . rfl
  . have:x≠n:=by rintro rfl;exact h v qc
    simp[this]
theorem sW {b:Str->Option v7}{x:Str}{v:Value}:∀{P:List Str} {c:List Value} {i:Nat} {m:Str->Option Value},P.Nodup->P[i]? = some x->c[i]? = some v->b x=some .local ->
  bindL b (P.zip c) m x=some v
 | [],_,_,_,_,h,_,_=>by simp at h|_::_,[],_,_,_,_,h,_=>by simp at h|p::P,w::c,0,m,nd,h1,h2,g=>by simp at h1 h2;subst h1;subst h2;show bindL b ((p,w)::P.zip c) m p=_;unfold bindL;rw[sT λv a=>(DK.mp nd).1 (TB a).1,if_pos g];simp|p::P,w::c,i+1,m,nd,h1,h2,g=>by show bindL b ((p,w)::P.zip c) m x=_;unfold bindL;exact sW (i:=i) (DK.mp nd).2 (by simpa using h1) (by simpa using h2) g
theorem sX {b:Str->Option v7}{x:Str}{v:Value}:∀{P:List Str} {c:List Value} {i:Nat} {m:Str->Option Value},P.Nodup->P[i]? = some x->c[i]? = some v->b x≠some .local ->
  bindC b (P.zip c) m x=some v
 | [],_,_,_,_,h,_,_=>by simp at h|_::_,[],_,_,_,_,h,_=>by simp at h|p::P,w::c,0,m,nd,h1,h2,g=>by simp at h1 h2;subst h1;subst h2;show bindC b ((p,w)::P.zip c) m p=_;unfold bindC;rw[sU λv a=>(DK.mp nd).1 (TB a).1,if_neg g];simp|p::P,w::c,i+1,m,nd,h1,h2,g=>by show bindC b ((p,w)::P.zip c) m x=_;unfold bindC;exact sX (i:=i) (DK.mp nd).2 (by simpa using h1) (by simpa using h2) g
noncomputable def p8 (N:List Str)(c:List V):ko:=c.map some++l6 (N.length-c.length) none
noncomputable def lT (lx:Lx)(CX:nB)(P:p9)(w:World)(K:mW)(mg:Str->Option Value)(base:Heap)(N:List Str)(h:Str)(scope:Scope)(f:Addr)(i:Value)(A:nc)(outer:List Env)(s:j0)(H:Hp)(E:XK):Cx where
 prog:=P
 w:=w
 K:=K
 mg:=mg
 base:=base
 A:=A.deeper (MT h scope s.heap.objs.size f i)
 N:=N
 s₀:=s
 H₀:=H
 env:=MT h scope s.heap.objs.size f i
 outer:=outer
 stack:=MT h scope s.heap.objs.size f i::outer
 ex:=[]
 calm:=true
 fn:=λ_=>true
 pn:=[]
 lx:=lx
 xe:=λe c=>wpAny (model P w) (A.deeper (MT h scope s.heap.objs.size f i)) (leaving (MT h scope s.heap.objs.size f i) e) (λ_ a=>CX outer H s E e a) (λb a=>CX outer H s E b a) c
def vi {n:Nat}(h:M.names.lookup x=some .cell):∃c,(tc n M.names []).lookup x=some c:=by have q:=afV M.names n [] (.inl h);exact adM.mp q
def BM {lx:Lx}{R:nB}{ps:List Str}{B:List Env}{P:Hp}{E:XK}{g:List V}(S:jM U ps M)(L:O.handled=none)(I:pJ k u H C A O B s P)(w:g.length=ps.length)(r:Vals g Y)(base:InCallC s s.heap.objs.size (bindL (MT x M s.heap.objs.size f Z).kindOf (ps.zip Y) λ_=>none) (tc (s.heap.objs.size+1) M.names []) (bindC (MT x M s.heap.objs.size f Z).kindOf (ps.zip Y) λ_=>none) j):
   jo (lT lx R k u H C A U x M f Z O B s P E) [] (p8 U g) P j:=by
 have eX:ps.length<=U.length:=by have:=congrArg aeS S.pre;rw[yX]at this;lia
 obtain⟨h1,tk,rfl,hk⟩:=base.done;have Q:∀b:Addr,b ∉ (lT lx R k u H C A U x M f Z O B s P E).ex:=λb z=>absurd (show b∈([]:List Addr) from z) (by simp);refine⟨⟨I.mod,S.kind,rfl,rfl,lb _,λy z c h1 N=>?_,λy l=>?_,λy c _ h=>?_,λ_=>L,agi I.frames,.inr ⟨rfl,rfl⟩,λb z=>absurd z (Q b),I.bs,I.nq,λb _ _=>Q b,λb z=>absurd z (Q b),I.hU,I.qf⟩,
   rfl,I.bare,Un.kept hk,⟨_,base.toInCall.ns,λi y v h1 N h3=>?_⟩,λy c h=>⟨_,base.cell y c h⟩,I.aV.fresh (lb _),λy c h=>?_,λp o=>absurd (show p∈([]:List (Addr×Obj)) from o) (by simp),I.aV.kept hk,?_⟩
 . exact name_of_addr base.apart (vD h1) (vD N)
 . have l:M.names.lookup y=some .cell\/M.names.lookup y=some .free:=l
   rcases l with l|l
   . exact vi l
   . exact absurd rfl (S.LG _ (vD l))
 . exact Sx (base.above y c (vD h))
 . have J:i<g.length:=by
     unfold p8 at N;by_cases J:i<g.length
     . exact J
     . rw[th (by simpa using J)]at N
       rw[afL]at N;split at N<;>cases N
   have ha:g[i]? = some v:=by
     unfold p8 at N;rw[m5 (by simpa using J),m2]at N;cases e:g[i]? with
     |none=>rw[e]at N;cases N|some a=>rw[e]at N;cases N;rfl
   obtain⟨mg,hu,rv⟩:=r.get ha;have o:ps[i]? = some y:=by rw[<- S.pre,XH (by lia)];exact h1
   have RZ:ps.Nodup:=by rw[<- S.pre];exact S.nd.sublist (aff _ _)
   refine⟨mg,rv,?_⟩;rcases S.par y (qt o)with K|K
   . exact .inl ⟨K,sW RZ o hu K⟩
   . obtain⟨c,e⟩:=vi (n:=s.heap.objs.size+1) K
     refine .inr ⟨.inl K,c,e,?_⟩;have q:=base.cell y c e;rw[sX RZ o hu (by show M.names.lookup y≠_;rw[K];decide)]at q;exact q
 . exact I.aV.fresh (Sx (base.above y c (vD h)))
 . unfold p8
   show _=U.length;rw[lN,oY,List.length_replicate];lia
def Qe {lx:Lx}{CX:nB}{w:World}{B:Str}{base:Qt}{kV K O L ct oc:Value}{N od:Option Addr}{T:Array (Option Value)}{ps:List Str}{sp:Sp}(X:H.lookup f=some ⟨oc,od,.func (Hg x B base a M Z kV K O N L ct),T⟩)(jA:adX H L B=true)(S:jM U ps M)(len:∀p P Q E,sp p P Q E->p.length=ps.length)(Y:∀(body:nc) (outer:List Env) (s:j0) (P:Hp) (p:List V) (Q:VK) (E:XK),dy i (body.deeper (MT B M s.heap.objs.size f L))->sp p P Q E ->
    ∃t,hX (lT lx CX k w H C A U B M f L body outer s P E) a t/\t { nx:=λ_ R=>Q .ay R,rt:=Q } (p8 U p) P):
  d_ k w H C A CX (i+1) f (Hg x B base a M Z kV K O N L ct) ps sp:=by
 refine⟨len,λbody outer s P args us p Q E j c hb r l=>?_⟩;have hl:=len _ _ _ _ l;have z:H.In s.heap:=c.mod.kW.keeps λb o e=>(c.bs b o e).1;have lim:s.heap.NoLimit:=c.mod.nolimit.keeps λb o e=>(c.bs b o e).1;have uF:∀y∈ps.zip us,M.names.lookup y.1=some .local\/(M.names.lookup y.1=some .cell/\((tc (s.heap.objs.size+1) M.names []).lookup y.1).isSome=true):=λ⟨n,v⟩ hy=>by
  rcases S.par n (TB hy).1 with q|q
  . exact .inl q
  . exact .inr ⟨q,afV _ _ _ (.inl q)⟩
 refine codeAny_call_function j.depth (z _ _ X) rfl S.co S.gen rfl (PySem.W.codeRec_of z jA) (hb _ _ _ _ ?_);refine wpAny_newFunctionEnv_cells S.kind uF λenv he s1 name=>?_;subst he;refine⟨lim.keeps name.toInCall.keep,codeAny_func ?_⟩;obtain⟨t,ht,hq⟩:=Y body outer s P p Q E (j.deeper _) l;have I:jo (lT lx CX k w H C A U B M f L body outer s P E) [] (p8 U p) P s1:=BM S j.hd c hl r name;refine Yq (ht [] s1 (p8 U p) P _ I hq) (λfl s' g=>?_) λe s' g=>g;have fin:∀{h:ko} {R:Hp} {v:V} {u:Value},jo (lT lx CX k w H C A U B M f L body outer s P E) [] h R s'->kr v u->Q v R->CE outer k w P s Q u s' :=
  fun {h R v u} J mg q=>⟨v,R,J.os,J.bare,J.base,J.aV,mg,q⟩
 cases fl with
 |ret u =>
  obtain⟨v,h,R,J,mg,q⟩:=g;exact fin J mg q
 |next =>
  obtain⟨h,R,J,q⟩:=g;exact fin (v:=V.ay) (u:=xa) J rfl q
 |brk =>
  obtain⟨_,_,_,q⟩:=g;exact vT q
 |cont =>
  obtain⟨_,_,_,q⟩:=g;exact vT q
noncomputable def R0 (r:List V->Hp->VK->Prop)(t:TA):TE:=λc H Q=>t c H λa g=>r a g Q
def ED {X:Cx}{t:TA}{r:List V->Hp->VK->Prop}(p:dX X (.builtin n) r)(l:Gl X x)(j:X.mg x=none)(o:Nu x=some (.builtin n))(k:PA X (e::B) t)(v:x ≠ "__name__":=by decide)(y:(x == ("__debug__":Str))=false:=by decide)(u:lY (e::B) X.env=(false,eval e X.env)::lY B X.env:=by rfl)(i:(su pos (lY B X.env)).any (·.1)=false:=by rfl):PE X (.Call (.Name x q) (e::B) [] pos) (R0 r t):=by
 intro a8 s g H Q I h;refine OT (ja I l j o ?_ v y);exact aeB (a_ (k pos a8 s g H _ I h) λC s1 ⟨c,E,f,a,b⟩=>p a8 s1 g E c C Q f a b) u i
def BN {X:Cx}{t:TA}{r:List V->Hp->VK->Prop}(p:dX X (.type n) r)(l:Gl X x)(j:X.mg x=none)(o:Nu x=some (.type n))(k:PA X (e::B) t)(v:x ≠ "__name__":=by decide)(y:(x == ("__debug__":Str))=false:=by decide)(u:lY (e::B) X.env=(false,eval e X.env)::lY B X.env:=by rfl)(i:(su pos (lY B X.env)).any (·.1)=false:=by rfl):PE X (.Call (.Name x q) (e::B) [] pos) (R0 r t):=by
 intro a8 s g H Q I h;refine OT (ja I l j o ?_ v y);exact XP (a_ (k pos a8 s g H _ I h) λC s1 ⟨c,E,f,a,b⟩=>p a8 s1 g E c C Q f a b) u i
end
variable {X:Cx}{H:Hp}{v:ko}
section
open PyProof.Rows
variable {U M:List V}{T z:TE}{R:Option Expr}{K C:String}{A:Pos}{y p:V}{w r:Option Int}{t:Array Value}{n:V->Option Int->Option Int->Hp->VK->Prop}{m:R2}
section
open PySem.SeqAt
open PySem.AutoSeq1 (wpAny_loadPart')
open PySem.MeetsSeq PySem.MeetsSeq2 PySem.MeetsSeq3
end
def II {b:Addr}{r:List Value}(y:IsTup s.heap f Y.toArray)(v:IsTup s.heap b r.toArray)(p:Y ≠ [])(x:r = []->Q (.ref f) s)(z:r ≠ []->Q (.ref s.heap.objs.size) { s with heap:=s.heap.push { cls:=.type "tuple",data:=.seq (Y++r).toArray } })(B:Y.length+r.length<=lX):wpAny (model k u) O (qC .Add (.ref f) (.ref b)) Q E s:=by
 obtain⟨⟨cls,l,data,o⟩,c,t,n,hd⟩:=id y;obtain⟨⟨q,i,data2,h⟩,a,prog,j,g⟩:=id v;simp only at t hd prog g;subst t hd prog g;have e:Y.toArray++r.toArray=(Y++r).toArray:=by simp
 by_cases hw:r = []
 . exact afA ⟨_,c,rfl⟩ ⟨_,a,rfl⟩ afB ags ad8 ad4 (adN _ _)
    (tuple_addW1 f b Y.toArray r.toArray n j l i o h (by simpa using p) (by simp[hw])) ⟨c,a,x hw⟩
 . refine afA ⟨_,c,rfl⟩ ⟨_,a,rfl⟩ afB ags ad8 ad4 (adN _ _)
    (tuple_addW2 f b Y.toArray r.toArray n j l i o h (by simpa using p) (by simpa using hw) (by rw[m3,m3];exact B)) ⟨c,a,?_⟩
   rw[e];exact z hw
noncomputable def bj (n d:Nat):Option Int->Nat
 |none=>d|some v=>if v<0 then(v+(n:Int)).toNat else min v.toNat n
def lV (n d:Nat):bj n d none=d:=rfl
def x5 (n d k:Nat):bj n d (some (k:Int))=min k n:=by show(if(k:Int)<0 then((k:Int)+(n:Int)).toNat else min (k:Int).toNat n)=min k n;rw[if_neg (by lia),L3]
def LI (n d:Nat)(a:d<=n)(o:Option Int):bj n d o<=n:=by
 cases o with
 |none=>exact a
 |some v =>
  show(if v<0 then(v+(n:Int)).toNat else min v.toNat n)<=n;by_cases c:v<0
  . rw[if_pos c];lia
  . rw[if_neg c];exact Nat.min_le_right _ _
def x6 (v:Int)(n d:Nat):(if v<0 then max (v+(n:Int)) 0 else min v (n:Int))=((bj n d (some v):Nat):Int):=by
 show(if v<0 then max (v+(n:Int)) 0 else min v (n:Int))=(((if v<0 then(v+(n:Int)).toNat else min v.toNat n):Nat):Int);by_cases c:v<0
 . simp only[if_pos c];lia
 . simp only[if_neg c];lia
def zY (b c:Option Int)(n:Nat):Sf b c 1 (n:Int)=(((bj n 0 b:Nat):Int),((bj n n c:Nat):Int)):=by
 have a:¬((1:Int)<0):=by lia
 unfold Sf;simp only[a,if_false];refine Prod.ext ?_ ?_
 . cases b with
   |none=>rfl|some v=>exact x6 v n 0
 . cases c with
   |none=>rfl|some v=>exact x6 v n n
def zZ (i j:Nat):Tz (i:Int) (j:Int) 1=j-i:=by
 unfold Tz;have a:(1:Int)>0:=by lia
 simp only[a,if_true,Int.ediv_one];split<;>lia
def hZ {Q:Option Int->j0->Prop}(p:wa Z w)(h:Q w s):wpAny (model k u) O (Builtin.Slice.slicePartIndex Z) Q E s:=by
 cases p with
 |none=>exact slicePart_none h|int i t=>exact slicePart_int h
def jT {j:Value}{Q:Int×Int×Nat->j0->Prop}(q:s.heap.IsSliceOf f Z j .none)(o:wa Z w)(l:wa j r)(h:Q (((bj i 0 w:Nat):Int),1,bj i i r-bj i 0 w) s):wpAny (model k u) O (acN (.ref f) (pure (i:Int))) Q E s:=by
 obtain⟨os,a,c,b⟩:=id q;unfold acN afn;refine jg (jg (yS a b (x:=Z) rfl (jg (yS a b (x:=j) rfl (jg (yS a b (x:=.none) rfl (kn ?_)))))));refine jg (slicePart_none ?_);show wpAny _ _ (if((1:Int)== 0)=true then _ else _) _ _ s;rw[if_neg (by decide)];refine jg (hZ o (jg (hZ l (jg (kn ?_)))));show wpAny _ _ (match Sf w r 1 (i:Int)with| (w,r)=>pure (w,(1:Int),Tz w r 1)) _ _ s;rw[zY w r i];show wpAny _ _ (pure (((bj i 0 w:Nat):Int),(1:Int),Tz ((bj i 0 w:Nat):Int) ((bj i i r:Nat):Int) 1)) _ _ s;rw[zZ];exact kn h
def EE (c:Array Value)(i k:Nat):((nN k).filterMap λ(m:Nat)=>c[((i:Int)+(m:Int)*1).toNat]?).toArray=((c.toList.drop i).take k).toArray:=by
 have e:(λ(m:Nat)=>c[((i:Int)+(m:Int)*1).toNat]?)=λm=>c[i+m]?:=by
  funext m;have:((i:Int)+(m:Int)*1).toNat=i+m:=by lia
  rw[this]
 rw[e];have:=pick_run c i k;rw[agJ]at this;have a:((λx=>c[x]?) ∘ λx=>i+x)=λm=>c[i+m]?:=rfl;rw[a]at this;rw[this]
def oS {v:Addr}{z:Value}(y:IsTup s.heap f t)(x:s.heap.IsSliceOf v Z z .none)(C:wa Z w)(B:wa z r)(hw:¬(bj t.size 0 w=0/\bj t.size t.size r=t.size))(h:Q (.ref s.heap.objs.size) { s with heap:=s.heap.push { cls:=.type "tuple",data:=.seq ((t.toList.drop (bj t.size 0 w)).take (bj t.size t.size r-bj t.size 0 w)).toArray } })(H:t.size<=lX):wpAny (model k u) O (Mi (.ref f) (.ref v)) Q E s:=by
 have a:sizeOk (.seq ((t.toList.drop (bj t.size 0 w)).take (bj t.size t.size r-bj t.size 0 w)).toArray):=by show((t.toList.drop (bj t.size 0 w)).take (bj t.size t.size r-bj t.size 0 w)).toArray.size<=lX;rw[m3,yX,aeh,adG];lia
 have i:bj t.size t.size r<=t.size:=LI _ _ (lb _) r;obtain⟨os,o,c,g⟩:=id x;have e:s.TypeIs (.ref v) "slice":=⟨os,o,c⟩
 unfold Mi;try with_reducible refine sZ ?_
 first|refine jg (kn ?_)|skip
 refine jg (YZ y.typeIs (by decide) ?_);refine jg (Nc (name:=Ck "__getitem__") y.typeIs MO
  (xx MO y.typeIs aeJ ?_ (ae0 _ _)))
 show wpAny _ _ (acO (.ref f) >>= _) _ _ s;refine jg (agt y ?_);refine jg (RY e ?_);rw[if_pos (by decide)];refine jg (jT x C B ?_);have b:¬((((bj t.size 0 w:Nat):Int)== 0&&(1:Int)== 1&&(bj t.size t.size r-bj t.size 0 w)== t.size)=true):=by intro q;rw[la,la]at q;have j:((bj t.size 0 w:Nat):Int)=0:=eq_of_beq q.1.1;have l:bj t.size t.size r-bj t.size 0 w=t.size:=eq_of_beq q.2;exact hw ⟨by lia,by lia⟩
 show wpAny _ _ (if(((bj t.size 0 w:Nat):Int)== 0&&(1:Int)== 1&&(bj t.size t.size r-bj t.size 0 w)== t.size)=true then _ else _) _ _ s;rw[if_neg b,EE];first
  |exact jg (m:=PK _) (x3 (kn ⟨_,rfl,kn h⟩) a)
  |exact jg (m:=PK _) (x3 (jg (kn (kn ⟨_,rfl,kn h⟩))) a)
  |exact jg (jg (m:=PK _) (x3 (kn (kn ⟨_,rfl,kn h⟩)) a))
  |exact jg (jg (m:=PK _) (x3 (kn ⟨_,rfl,kn h⟩) a))
noncomputable abbrev TO:=ko->Hp->(Option Int->Hp->Prop)->Prop
noncomputable def PO (X:Cx)(e:Option Expr)(t:TO):Prop :=
 ∀(g:List (Addr×Obj)) (s:j0) (c:ko) (H:Hp) (Q:Option Int->Hp->Prop),jo X g c H s->t c H Q ->
  wpAny (model X.prog X.w) X.A (evalPart e X.env) (λu a=>∃o h,jo X g c h a/\wa u o/\Q o h) X.xe s
noncomputable def IJ:TO:=λ_ H Q=>Q none H
noncomputable def Qf (t:TE):TO:=λc H Q=>t c H λx g=>∃i,x = .int i/\Q (some i) g
def IK:PO X none IJ:=by intro c s g H Q I h;rw[evalPart_none];exact kn ⟨none,H,I,.none,h⟩
def IL (h:PE X e T):PO X (some e) (Qf T):=by intro g s n H Q I hw;rw[evalPart_some];refine a_ (h g s n H _ I hw) λu s1 b=>?_;obtain⟨x,p,f,c,a⟩:=b;obtain⟨i,rfl,q⟩:=a;obtain⟨t,rfl⟩:=c;exact⟨some i,p,f,.int i t,q⟩
noncomputable def o_ (X:Cx)(r:V->Option Int->Option Int->Hp->VK->Prop):Prop :=
 ∀(c:List (Addr×Obj)) (s:j0) (g:ko) (H:Hp) (x:V) (v h i:Value) (n p:Option Int) (sl:Addr) (Q:VK),jo X c g H s->kr x v->s.heap.IsSliceOf sl h i .none->wa h n->wa i p->r x n p H Q ->
  ∃T id,typeLookup (.type T) "__getitem__" = pure (some (.builtin id))/\s.TypeIs v T/\wpAny (model X.prog X.w) X.A (Mi v (.ref sl)) (EP X c g Q) X.xe s
def o_.or {j:V->Option Int->Option Int->Hp->VK->Prop}(h:o_ X n)(y:o_ X j):o_ X (λx g p H Q=>n x g p H Q\/j x g p H Q):=by
 intro r s u H x v b f g p i Q I a e c pu q;rcases q with q|q
 . exact h r s u H x v b f g p i Q I a e c pu q
 . exact y r s u H x v b f g p i Q I a e c pu q
noncomputable def Xs (r:V->Option Int->Option Int->Hp->VK->Prop)(g:TE)(h i:TO):TE:=λc H Q=>g c H λx n=>h c n λl b=>i c b λu a=>r x l u a Q
def EF {O:Option Expr}{U:TO}{Y:TO}(B:o_ X n)(C:PE X e T)(E:PO X R U)(hu:PO X O Y):PE X (.Subscript e (.Slice R O none A) q) (Xs n T U Y):=by intro p s J H Q I h;refine Subscript_ (a_ (C p s J H _ I h) λv s1 f=>?_);obtain⟨x,Z,I1,r1,k⟩:=f;refine wpAny_Slice (a_ (E p s1 J Z _ I1 k) λa s2 ⟨l,H2,I2,pl,y⟩=>a_ (hu p s2 J H2 _ I2 y) λc g f=>?_);obtain⟨u,i,j,pu,o⟩:=f;rw[evalPart_none];refine kn ?_;have I4:jo X p J i { g with heap:=g.heap.push { cls:=.type "slice",data:=.fields #[a,c,.none] } }:=j.kept (t':=g.toks) λb ob r=>mn _ r;obtain⟨te,id,z,ht,hg⟩:=B p { g with heap:=g.heap.push { cls:=.type "slice",data:=.fields #[a,c,.none] } } J i x v a c l u g.heap.objs.size Q I4 r1 (agK ..) pl pu o;show wpAny (model X.prog X.w) X.A (agu e (.Slice R O none A) v (.ref g.heap.objs.size)) (EP X p J Q) X.xe { g with heap:=g.heap.push { cls:=.type "slice",data:=.fields #[a,c,.none] } };exact tail_any (ops:=[.ref g.heap.objs.size,v]) ht z hg (by with_unfolding_all rfl)
noncomputable def nC (c:List V)(g h:Option Int):List V:=(c.drop (bj c.length 0 g)).take (bj c.length c.length h-bj c.length 0 g)
def pb (c:List V)(g h:Option Int):(nC c g h).length<=c.length:=by unfold nC;rw[yX,aeh];lia
noncomputable def LK (K:mW):V->Option Int->Option Int->Hp->VK->Prop:=λx g b H Q=>∃a c,x = .ref a/\fg K H a c /\
 ¬(bj c.length 0 g=0/\bj c.length c.length b=c.length) /\ ∀p,H p=none->Q (.ref p) (upd H p (.tup (nC c g b)))
def LL:o_ X (LK X.K):=by
 intro B s C H x v z E p c sl Q I i u l pu h;obtain⟨a,n,rfl,j,hw,q⟩:=h;cases i;obtain⟨k,r,f,e⟩:=I.tuple j;have g:k.toArray.size=n.length:=by rw[m3];exact r.length.symm
 refine⟨"tuple",_,MO.lookup,f.typeIs,?_⟩;refine oS f u l pu (by rw[g];exact hw) ?_ (by rw[g];exact e);rw[g];refine⟨.ref s.heap.objs.size,_,I.laid (t':=s.toks) (o:=.tup (nC n p c)) (λb y q=>mn _ q) (lb _) ?_,rfl,q _ (I.aV.fresh (lb _))⟩;exact⟨n7 (pb n p c) e,_,(r.drop (bj n.length 0 p)).take (bj n.length n.length c-bj n.length 0 p),fA.new _ _⟩
noncomputable def Qg (K:mW):R2:=λx y H Q=>∃a b g c,x = .ref a/\y = .ref b/\fg K H a g/\fg K H b c/\g ≠ []/\g.length+c.length<=lX /\
 (c = []->Q (.ref a) H)/\(c ≠ []->∀p,H p=none->Q (.ref p) (upd H p (.tup (g++c))))
def Vals.rK (r:Vals U Y):Y = []↔ U = []:=by
 cases r with
 |nil=>simp|cons _ _=>simp
def IM:bQ X (qC .Add) (Qg X.K):=by intro C s E H x y v u Q I j g h;obtain⟨a,b,n,p,rfl,rfl,r,hb,k,f,i,l⟩:=h;cases j;cases g;obtain⟨J,e,p1,_⟩:=I.tuple r;obtain⟨O,c,B,_⟩:=I.tuple hb;refine II p1 B (λz=>k (e.rK.mp z)) (λz=>⟨.ref a,H,I,rfl,i (c.rK.mp z)⟩) (λz=>?_) (by rw[<- e.length,<- c.length];exact f);refine⟨.ref s.heap.objs.size,_,I.laid (t':=s.toks) (o:=.tup (n++p)) (λb R q=>mn _ q) (lb _) ?_,rfl,l (λw=>z (c.rK.mpr w)) _ (I.aV.fresh (lb _))⟩;exact⟨by rw[lN];exact f,_,e.append c,fA.new _ _⟩
noncomputable def kZ (n:Nat)(i:Int):Option Nat:=if 0<=i then(if i<n then some i.toNat else none)else if -(n:Int)<=i then some (i+n).toNat else none
noncomputable def cF {c:Type}(g:List c)(i:Int):Option c:=(kZ g.length i).bind λj=>g[j]?
def x8 (h:kZ i I=some j):seqIndex? I i=some j/\j<i /\ -(i:Int)<=I/\I<i:=by
 unfold kZ at h;by_cases c:0<=I
 . rw[if_pos c]at h
   by_cases h1:I<i
   . rw[if_pos h1]at h
     have e:I.toNat=j:=wi h;exact⟨by rw[ag9 c h1,e],by lia,by lia,h1⟩
   . rw[if_neg h1]at h;cases h
 . rw[if_neg c]at h
   by_cases h1:-(i:Int)<=I
   . rw[if_pos h1]at h
     have e:(I+i).toNat=j:=wi h;exact⟨by rw[seqIndex_neg (by lia) h1,e],by lia,h1,by lia⟩
   . rw[if_neg h1]at h;cases h
def rL {k:Type}{g:List k}{v:k}(h:cF g I=some v):∃j,seqIndex? I g.length=some j/\g[j]? = some v/\j<g.length /\ -(g.length:Int)<=I/\I<g.length:=by
 unfold cF at h;cases e:kZ g.length I with
 |none=>rw[e]at h;cases h
 |some j =>
  rw[e]at h;obtain⟨f,b,a,c⟩:=x8 e;exact⟨j,f,h,b,a,c⟩
def gQ {b:Type}{c:List b}{v:b}(h:c[j]? = some v):cF c (j:Int)=some v:=by
 have a:j<c.length:=(l8.mp h).1;have e:kZ c.length (j:Int)=some j:=by unfold kZ;rw[if_pos (by lia),if_pos (by lia)];simp
 unfold cF;rw[e];exact h
def EG {b:Type}(c:List b)(v:b):cF (c ++ [v]) (-1)=some v:=by
 have a:(c ++ [v]).length=c.length+1:=by simp
 have e:kZ (c ++ [v]).length (-1)=some c.length:=by unfold kZ;rw[a,if_neg (by decide),if_pos (by lia)];congr 1;lia
 unfold cF;rw[e];show(c ++ [v])[c.length]? = some v;simp
noncomputable def oA (b:Expr):Prop:=∀o i,subscripted b false o i=operate [o,i] (Mi o i)
noncomputable def mR (X:Cx)(r:R2):Prop :=
 ∀(value slice:Expr) (c:List (Addr×Obj)) (s:j0) (g:ko) (H:Hp) (x y:V) (v u:Value) (Q:VK),jo X c g H s->kr x v->kr y u->r x y H Q ->
  subscripted slice false v u=operate [v,u] (Mi v u)->wpAny (model X.prog X.w) X.A (agu value slice v u) (EP X c g Q) X.xe s
noncomputable def LM (X:Cx)(id:String)(r:V->List V->Hp->VK->Prop):Prop :=
 ∀(c:List (Addr×Obj)) (s:j0) (g:ko) (H:Hp) (x:V) (h:List V) (v:Value) (i:List Value) (Q:VK),jo X c g H s->kr x v->Vals h i->r x h H Q ->
  wpAny (model X.prog X.w) X.A (call (.builtin id) (v::i)) (EP X c g Q) X.xe s
def mR.or {e:R2}(h:mR X m)(n:mR X e):mR X (λx y H Q=>m x y H Q\/e x y H Q):=by
 intro value slice g s i H x y v u Q I a b q c;rcases q with q|q
 . exact h value slice g s i H x y v u Q I a b q c
 . exact n value slice g s i H x y v u Q I a b q c
def Gx (l:mR X m)(k:PE X e T)(j:PE X J z)(o:oA J):PE X (.Subscript e J q) (BG m T z):=by intro g s n H Q I h;exact Subscript_ (Ex k j I h λv u p x y i f c a r=>l e J g p n i x y v u Q f c a r (o _ _))
noncomputable def LN (K:mW):R2:=λx y H Q=>∃p c i v,x = .ref p/\y = .int i/\dD K H p c/\cF c i=some v/\Q v H
noncomputable def LO (K:mW):R2:=λx y H Q=>∃p c i v,x = .ref p/\y = .int i/\fg K H p c/\cF c i=some v/\Q v H
noncomputable def LP:R2:=λx y H Q=>∃z i c,x = .str z/\y = .int i/\z.length<=lX/\cF z.cps.toList i=some c/\Q (.str ⟨#[c]⟩) H
def IP:mR X (LN X.K):=by
 intro value slice g s n H x y v u Q I l C h f;obtain⟨p,Y,i,z,rfl,rfl,hq,E,q⟩:=h;cases l;obtain⟨t,rfl⟩:=C;obtain⟨o,r,b,hz⟩:=I.list hq;obtain⟨j,a,h2,Z,J,O⟩:=rL E;obtain⟨w,e,R⟩:=r.get h2;have k:=r.length;have hn:=kX;have fin:EP X g n Q w s:=⟨z,H,I,R,q⟩
 by_cases B:0<=i
 . have c:i.toNat=j:=by
    rw[ag9 B O]at a;exact wi a
   exact item_listR b.isList B (by lia) (by rw[c];simpa using e) fin f
 . have c:(i+(o.toArray.size:Int)).toNat=j:=by
    rw[seqIndex_neg (by lia) J]at a;rw[m3,<- k];exact wi a
   exact ade (x:=w) b.isList.typeIs slot_list_getitem.lookup
    (wpAny_getItem_list_neg (Q:=λr U=>r=w/\EP X g n Q r U) b.isList (by lia) (by rw[m3]<;>lia) (by lia) (by rw[c];simpa using e) ⟨rfl,fin⟩) f
def LQ:mR X (LO X.K):=by
 intro value slice g s n H x y v u Q I c e h hs;obtain⟨p,E,i,z,rfl,rfl,o,B,q⟩:=h;cases c;obtain⟨t,rfl⟩:=e;obtain⟨J,r,a,hz⟩:=I.tuple o;obtain⟨j,l,h2,O,R,U⟩:=rL B;obtain⟨w,C,f⟩:=r.get h2;have b:=r.length;have Y:=kX;have fin:EP X g n Q w s:=⟨z,H,I,f,q⟩
 exact ade (x:=w) a.typeIs MO.lookup
  (getItem_tuple (j:=j) (Q:=λr k=>r=w/\EP X g n Q r k) a (by lia) (by lia) (by rw[m3,<- b];exact l) (by simpa using C) ⟨rfl,fin⟩) hs
def LR:mR X LP:=by
 intro value slice n s p H x y v u Q I e f h hs;obtain⟨z,i,c,rfl,rfl,hz,g,q⟩:=h;obtain⟨t,rfl⟩:=e;obtain⟨B,rfl⟩:=f;obtain⟨j,a,h2,C,k,l⟩:=rL g;have b:z.cps.toList.length=z.length:=by simp[Str.length]
 rw[b]at a k l;have E:=kX;exact tail_any (typeIs_str s z t) slot_str_getitem.lookup (getItem_str (c:=c) (by have r:decide (i < -(2 ^ 63:Int))=false:=decide_eq_false (by lia);have o:decide (i>=2 ^ 63)=false:=decide_eq_false (by lia);rw[r,o,Zf]) (by rw[a];simpa using h2) ⟨.str ⟨#[c]⟩,H,I.tok _,⟨_,rfl⟩,q⟩) hs
noncomputable def Xt (K:mW):R2:=λx y H Q=>LN K x y H Q\/LO K x y H Q\/LP x y H Q
def BO:mR X (Xt X.K):=IP.or (LQ.or LR)
def z9 (c:List Value)(n j:Nat)(u:Value):EI (·.setIfInBounds j u) { cls:=.type "list",data:=.seq c.toArray n }={ cls:=.type "list",data:=.seq (c.set j u).toArray n }:=by simp[EI]
theorem jo.lst (I:jo X b v H s)(h:H f=some (.lst U)):
  ∃(c:List Value) (n:Nat),Vals U c/\s.heap.get? f=some { cls:=.type "list",data:=.seq c.toArray n }/\U.length<=lX:=by
 obtain⟨z,c,n,r,e⟩:=I.aV f _ h;exact⟨c,n,r,e,z⟩
def jo.LS {its':List Value}{c:Obj->Obj}(I:jo X b v H s)(h:H f=some (.lst U))(k:s.heap.get? f=some { cls:=.type "list",data:=.seq Y.toArray i })(j:c { cls:=.type "list",data:=.seq Y.toArray i }={ cls:=.type "list",data:=.seq its'.toArray o })(r:Vals M its')(hz:M.length<=lX)(t:Nat):
  jo X b v (upd H f (.lst M)) { s with heap:=s.heap.update f c,toks:=t }:=by
 have e:(s.heap.update f c).get? f=some { cls:=.type "list",data:=.seq its'.toArray o }:=by rw[HT c k (by rw[j]<;>rfl),j]
 refine I.write (x:=f) (e:=f) (by rw[h];trivial) (.inl rfl) (λg u a q=>(Yg _ _ (ta a)).trans q) ⟨_,e⟩ ?_;exact⟨hz,its',o,r,e⟩
noncomputable def Qh:V->V->V->Hp->(Hp->Prop)->Prop:=λo i v H Q=>∃p c k j,o = .ref p/\i = .int k/\H p=some (.lst c)/\kZ c.length k=some j/\Q (upd H p (.lst (c.set j v)))
def set_list:Es X Qh:=by
 intro B s C H o i v U iv u Q I E ri J h;obtain⟨p,O,k,j,rfl,rfl,f,R,q⟩:=h;cases E;obtain⟨t,rfl⟩:=ri;obtain⟨l,n,r,c,hz⟩:=I.lst f;obtain⟨a,h2,x,z⟩:=x8 R;have b:=r.length;have Y:=kX
 have y:jo X B C (upd H p (.lst (O.set j v))) { s with heap:=s.heap.update p (EI (·.setIfInBounds j u)) }:=
   I.LS f c (z9 l n j u) (r.set J j) (by rw[afP];exact hz) s.toks
 by_cases g:0<=k
 . have e:k.toNat=j:=by
    rw[ag9 g z]at a;exact wi a
   exact PySem.W.ki_setAt c g (by lia) (by rw[m3,<- b];exact z) (by rw[e];exact⟨_,y,q⟩)
 . have e:(k+(l.toArray.size:Int)).toNat=j:=by
    rw[seqIndex_neg (by lia) x]at a;rw[m3,<- b];exact wi a
   exact PySem.W.ki_setBack c (by lia) (by rw[m3,<- b];exact x) (by lia) (by rw[e];exact⟨_,y,q⟩)
def vn (c e:Option Int)(n:Nat):(TC c e none n).1=((bj n 0 c:Nat):Int)/\(TC c e none n).2.1=((bj n n e:Nat):Int)/\(TC c e none n).2.2=1:=by
 refine⟨?_,?_,rfl⟩
 . cases c with
   |none=>simp[TC,bj]
   |some i =>
    simp only[TC,bj,ahh,show(1:Int)>0 by decide,if_true];by_cases h:i<0
    . simp only[h,if_true]<;>lia
    . simp only[h,if_false]<;>lia
 . cases e with
   |none=>simp[TC,bj]
   |some i =>
    simp only[TC,bj,ahh,show(1:Int)>0 by decide,if_true];by_cases h:i<0
    . simp only[h,if_true]<;>lia
    . simp only[h,if_false]<;>lia
def uu (e:List Value)(f h:Option Int):slicePick e.toArray f h none=((e.drop (bj e.length 0 f)).take (bj e.length e.length h-bj e.length 0 f)).toArray:=by obtain⟨c,b,a⟩:=vn f h e.toArray.size;unfold slicePick;rw[c,b,a];simp only[sliceRange_one,pick_run,m3]<;>rfl
noncomputable def LU (K:mW):V->Option Int->Option Int->Hp->VK->Prop:=λx g b H Q=>∃a c,x = .ref a/\dD K H a c /\ ∀p,H p=none->Q (.ref p) (upd H p (.lst (nC c g b)))
def IQ:o_ X (LU X.K):=by intro B s C H x v z E p c sl Q I f l j pu h;obtain⟨a,g,rfl,i,q⟩:=h;cases f;obtain⟨u,r,e,k⟩:=I.list i;have n:=r.length;refine⟨"list",_,slot_list_getitem.lookup,e.isList.typeIs,?_⟩;refine wpAny_getItem_list_slice e.isList l j pu .none (by simp) ?_ (by rw[m3]<;>lia);rw[uu,<- n];refine⟨.ref s.heap.objs.size,_,I.laid (t':=s.toks) (o:=.lst (nC g p c)) (λb y q=>mn _ q) (lb _) ?_,rfl,q _ (I.aV.fresh (lb _))⟩;exact⟨n7 (pb g p c) k,_,0,(r.drop (bj g.length 0 p)).take (bj g.length g.length c-bj g.length 0 p),n3 _ rfl⟩
noncomputable def jI:V->Bool
 |.ay=>true|.bl _=>true|.int _=>true|.str _=>true|_=>false
noncomputable def s_:V->V->Bool
 |.ay,d=>match d with|.ay=>true|_=>false
 |.bl e,d=>match d with|.bl J=>e == J|.int J=>(if e then 1 else 0)== J|_=>false
 |.int e,d=>match d with|.bl J=>e == (if J then 1 else 0)|.int J=>e == J|_=>false
 |.str e,d=>match d with|.str J=>e == J|_=>false
 |_,_=>false
def LV {v:Value}(f:kr y Z)(e:kr p v)(i:jI y=true)(h:jI p=true):SeqAt.EqAt O s Z v (s_ y p):=by
 cases y with
 |ay =>
  cases f;cases p with
  |ay=>cases e;exact SeqAt.EqAt.same _|bl b=>cases e;exact SeqAt.EqAt.none_bool b|int b=>obtain⟨t,rfl⟩:=e;exact SeqAt.EqAt.none_int b t
  |str b=>obtain⟨t,rfl⟩:=e;exact SeqAt.EqAt.none_str b t
  |_=>exact absurd (show false=true from h) Nb
 |bl a =>
  cases f;cases p with
  |ay=>cases e;exact SeqAt.EqAt.bool_none a|bl b=>cases e;exact SeqAt.EqAt.bool_bool a b|int b=>obtain⟨t,rfl⟩:=e;exact SeqAt.EqAt.bool_int a b t
  |str b=>obtain⟨t,rfl⟩:=e;exact SeqAt.EqAt.bool_str a b t
  |_=>exact absurd (show false=true from h) Nb
 |int a =>
  obtain⟨c,rfl⟩:=f;cases p with
  |ay=>cases e;exact SeqAt.EqAt.int_none a c|bl b=>cases e;exact SeqAt.EqAt.int_bool a c b|int b=>obtain⟨t,rfl⟩:=e;exact SeqAt.EqAt.int_int a c b t
  |str b=>obtain⟨t,rfl⟩:=e;exact agE a c b t
  |_=>exact absurd (show false=true from h) Nb
 |str a =>
  obtain⟨c,rfl⟩:=f;cases p with
  |ay=>cases e;exact SeqAt.EqAt.str_none a c|bl b=>cases e;exact SeqAt.EqAt.str_bool a c b|int b=>obtain⟨t,rfl⟩:=e;exact agF a c b t
  |str b=>obtain⟨t,rfl⟩:=e;exact SeqAt.EqAt.str_str a c b t
  |_=>exact absurd (show false=true from h) Nb
 |_=>exact absurd (show false=true from i) Nb
noncomputable def Gy (x:V)(u:Value):Bool:=match u with
 |.none=>s_ .ay x|.bool e=>s_ (.bl e) x|.int i _=>s_ (.int i) x|.str z _=>s_ (.str z) x|_=>false
def BP (r:kr y Z)(f:jI y=true):Gy p Z=s_ y p:=by
 cases y with
 |ay=>cases r;rfl|bl b=>cases r;rfl|int i=>obtain⟨t,rfl⟩:=r;rfl
 |str z=>obtain⟨t,rfl⟩:=r;rfl
 |_=>exact absurd (show false=true from f) Nb
theorem vo {A:nc}{s:j0}{x:V}{v:Value}(c:kr x v)(e:jI x=true):∀{g:List V} {h:List Value},Vals g h->g.all jI=true->∀u∈h,SeqAt.EqAt A s u v (Gy x u)
 |_,_,.nil,_=>λu hu=>by cases hu
 |y::g,u::h,.cons r t,f=>λa hu=>by
  rw[Z4,la]at f;rcases l2.mp hu with rfl|hu
  . rw[BP r f.1];exact LV r c f.1 e
  . exact vo c e t f.2 a hu
def vp:dX X (.builtin "len") (λv H Q=>∃p n,v = [.ref p]/\(dD X.K H p n\/fg X.K H p n)/\Q (.int n.length) H):=by
 intro x s y H v B Q I r h;obtain⟨p,n,rfl,a,q⟩:=h;obtain⟨u,rfl,e⟩:=Tw r;cases e;have j:=kX;rcases a with a|a
 . obtain⟨f,c,b,i⟩:=I.list a
   have g:=c.length;exact Calls.call_len_list b.isList (by simp only[m3]<;>lia) ⟨.int n.length,H,I.tok _,⟨s.toks+1,by rw[m3,g]⟩,q⟩
 . obtain⟨f,c,b,i⟩:=I.tuple a
   have g:=c.length;exact len_tuple b (by simp only[m3]<;>lia) ⟨.int n.length,H,I.tok _,⟨s.toks+1,by rw[m3,g]⟩,q⟩
def mS:dX X (.type "tuple") (λn H Q=>∃p g,n = [.ref p]/\((dD X.K H p g /\ ∀l,H l=none->Q (.ref l) (upd H l (.tup g)))\/(fg X.K H p g/\Q (.ref p) H))):=by
 intro B s C H n J Q I r h;obtain⟨p,g,rfl,h⟩:=h;obtain⟨u,rfl,v⟩:=Tw r;cases v;rcases h with⟨hq,q⟩|⟨hq,q⟩
 . obtain⟨c,i,f,j⟩:=I.list hq
   have E:=i.length;refine call_tuple_list f.isList (λa y=>?_) (by simp only[m3]<;>lia);have k:jo X B C H { s with heap:=a }:=I.kept (t':=s.toks) y;have x:jo X B C (upd H a.objs.size (.tup g)) { s with heap:=a.push { cls:=.type "tuple",data:=.seq c.toArray } }:=
    k.laid (t':=s.toks) (λb o e=>mn _ e) (lb _) (show eA X.prog X.w _ _ _ (.tup g) from⟨j,c,i,fA.new _ _⟩)
   exact⟨.ref a.objs.size,_,x,rfl,q _ (k.aV.fresh (lb _))⟩
 . obtain⟨c,i,f,j⟩:=I.tuple hq
   exact call_tuple_same f ⟨.ref p,H,I,rfl,q⟩
noncomputable def R1 (K:mW)(T:String)(x:V)(H:Hp):Prop:=match x with
 |.str _=>T = "str"|.int _=>T = "int"
 |.ref p=>(T = "list" /\ ∃g,dD K H p g)\/(T = "tuple" /\ ∃o,K.lookup p=some o/\o.cls = .type "tuple" /\ o.dict=none) \/
  (T = "dict" /\ ((∃c,H p=some (.dK c)) \/ ∃c,H p=some (.dT c)))\/(T = "set" /\ ∃S n,H p=some (.set S n))
 |_=>False
def BQ (I:jo X b v H s)(r:kr y Z)(j:R1 X.K K y H):
  s.TypeIs Z K /\ ∀a,Z = .ref a->∃q,s.heap.get? a=some q/\q.dict=none:=by
 cases y with
 |str z =>
  obtain⟨t,rfl⟩:=r;cases (show K = "str" from j);exact⟨typeIs_str s z t,λ_ e=>nomatch e⟩
 |int i =>
  obtain⟨t,rfl⟩:=r;cases (show K = "int" from j);exact⟨afo s i t,λ_ e=>nomatch e⟩
 |ref p =>
  cases r;rcases j with⟨rfl,xs,hq⟩|⟨rfl,o,hk,hc,hd⟩|⟨rfl,hk⟩|⟨rfl,S,n,hk⟩
  . obtain⟨h,_,f,_⟩:=I.list hq
    refine⟨f.isList.typeIs,λa e=>?_⟩;cases e;obtain⟨o,n,e,c,hd,_⟩:=f;exact⟨o,e,hd⟩
  . refine⟨⟨o,I.mP p o hk,hc⟩,λa e=>?_⟩
    cases e;exact⟨o,I.mP _ o hk,hd⟩
  . have z:∃o,s.heap.get? p=some o/\o.ExactDict:=by
     rcases hk with⟨eB,hk⟩|⟨eB,hk⟩
     . obtain⟨_,_,_,_,o,_,_,e,ex,_⟩:=I.aV p _ hk
       exact⟨o,e,ex⟩
     . obtain⟨_,_,_,_,o,_,_,e,ex,_⟩:=I.aV p _ hk
       exact⟨o,e,ex⟩
    obtain⟨o,e,ex⟩:=z;refine⟨⟨o,e,ex.1⟩,λa g=>?_⟩;cases g;exact⟨o,e,ex.2.1⟩
  . obtain⟨o,_,_,_,e,ex,_⟩:=I.aV p _ hk
    refine⟨⟨o,e,ex.1⟩,λa g=>?_⟩;cases g;exact⟨o,e,ex.2.1⟩
 |_=>exact vT j
noncomputable def Xu (K:mW)(T:String)(r:V->List V->Hp->VK->Prop)(c:TE)(t:TA):TE:=λg H Q=>c g H λx h=>R1 K T x h/\t g h λi a=>r x i a Q
def Qi {t:TA}{r:V->List V->Hp->VK->Prop}(N:PlainAttrs K)(slot:Slot K x C)(L:typeOf (.builtin C)=pure (.type "method_descriptor"))(p:LM X C r)(to:PE X J T)(name:PA X (e::B) t)(E:Zg J x X.env (eval J X.env)=eval J X.env)(R:((su A (lY (e::B) X.env)).all (λapos=>!apos.1)&&(backToKw A (ag_ [] X.env)).all (λapos=>apos.1.isSome)
   && decide ((e::B).length+([]:List Po).length+(if([]:List Po).isEmpty then 0 else 1)<30))=true)(P:(q.endLine == A.line)=true)(M:lY (e::B) X.env=(false,eval e X.env)::lY B X.env)(O:(su A (lY B X.env)).any (·.1)=false):
  PE X (.Call (.Attribute J x q) (e::B) [] A) (Xu X.K K r T t):=by
 intro g s n H Q I h;refine afW E R P rfl (a_ (to g s n H _ I h) λv s1 j=>?_);obtain⟨apos,U,c,b,ty,f⟩:=j;obtain⟨l,z⟩:=BQ c b ty;refine⟨K,C,N,slot,L,l,z,?_⟩;have a:=name A g s1 n U _ c f;rw[M]at a ⊢
 refine ad9 (by show(false||(su A (lY B X.env)).any (·.1))=false;rw[O]<;>rfl) (agj ?_)
 exact a_ a λY Z ⟨i,o,y,u,k⟩=>p g Z n o apos i v Y Q y b u k
noncomputable def Xv (X:Cx)(id:String)(r:V->List V->Hp->VK->Prop):Prop :=
 ∀(c:List (Addr×Obj)) (s:j0) (g:ko) (H:Hp) (x:V) (h:List V) (v:Value) (i:List Value) (Q:VK),jo X c g H s->kr x v->Vals h i->r x h H Q ->
  wpAny (model X.prog X.w) X.A (call (.builtin id) (v::i)) (EP X c g Q) X.xe s
def Vals.one (h:Vals [y] Y):∃u,Y = [u]/\kr y u:=by
 cases h with
 |cons r t=>cases t;exact⟨_,rfl,r⟩
theorem Vals.rep {c:List V}{g:List Value}(h:Vals c g):∀k:Nat,Vals (l6 k c).flatten (l6 k g).flatten
 | 0=>.nil|k+1=>by rw[TM,TM,Dx,Dx];exact Vals.append h (Vals.rep h k)
theorem bal (b:List Value):∀(k:Nat) (c:List Value),
  ahx (λg h=>g++h) c.toArray (l6 k b.toArray)=(c++(l6 k b).flatten).toArray
 | 0,c=>by simp
 |k+1,c=>by
  have e:c.toArray++b.toArray=(c++b).toArray:=by simp
  have a:(c++b)++(l6 k b).flatten=c++(l6 (k+1) b).flatten:=by rw[TM,Dx,sP]
  rw[<- a,<- bal b k (c++b),<- e,TM,List.foldl_cons]
def jo.UT {its':List Value}{n:Array Value->Array Value}(I:jo X b v H s)(h:H f=some (.lst U))(e:s.heap.get? f=some { cls:=.type "list",data:=.seq Y.toArray i })(c:n Y.toArray=its'.toArray)(j:Vals M its')(hz:M.length<=lX):
  jo X b v (upd H f (.lst M)) { s with heap:=s.heap.update f (EI n),toks:=o }:=by
 have q:=PySem.IsL.update e n;rw[c]at q;refine I.write (x:=f) (e:=f) (by rw[h];exact trivial) (.inl rfl) (λg u a hu=>(Yg s.heap (EI n) (ta a)).trans hu) ⟨_,q⟩ ?_;exact⟨hz,its',_,j,q⟩
def jo.UU {t':Nat}(I:jo X b v H s)(c:Vals U Y)(hz:U.length<=lX):
  jo X b v (upd H s.heap.objs.size (.lst U)) { s with heap:=s.heap.push { cls:=.type "list",data:=.seq Y.toArray },toks:=t' }:=
 I.laid (λ_ _ q=>mn _ q) (lb _) ⟨hz,Y,0,c,n3 _ rfl⟩
theorem jo.fresh (I:jo X b v H s):H s.heap.objs.size=none:=I.aV.fresh (lb _)
def jo.UW (I:jo X b v H s)(a:H f=some (.lst U)):U.length<=lX /\ ∃(c:List Value) (n:Nat),Vals U c/\U.length=c.length/\s.heap.get? f=some { cls:=.type "list",data:=.seq c.toArray n }:=by obtain⟨z,c,n,r,e⟩:=I.aV f _ a;exact⟨z,c,n,r,r.length,e⟩
def EH (h:i<=lX):ac0 i=false:=by unfold ac0;exact decide_eq_false (by lia)
noncomputable def IS:V->List V->Hp->VK->Prop:=λx a H Q=>∃l c y,x = .ref l/\a = [y]/\H l=some (.lst c)/\c.length<lX/\Q .ay (upd H l (.lst (c ++ [y])))
def tf:Xv X "list.append" IS:=by intro g s p H x k v B Q I c f h;obtain⟨l,C,y,rfl,rfl,b,o,q⟩:=h;cases c;obtain⟨u,rfl,i⟩:=f.one;obtain⟨z,a,n,r,j,e⟩:=I.UW b;refine Of F.slot_list_append ⟨_,e,rfl⟩ F.entry_list_append (F.args_list_append_2 _ _) (PySem.list_append l a.toArray n u (by rw[m3];lia)) ⟨e,?_⟩;refine⟨.ay,_,I.UT (its':=a ++ [u]) b e (by simp) (r.append (.cons i .nil)) ?_,rfl,q⟩;rw[lN,af9];lia
def len_rep {a:Type}(c:List a)(k:Nat):(l6 k c).flatten.length=k*c.length:=by
 induction k with
 |zero=>simp|succ k g=>rw[TM,Dx,lN,g,Nat.succ_mul,Nat.add_comm]
end
section
open PySem.W PySem.Calls PyProof.Rows
variable {Z:Params}{l:XC}
def qm:∀(c:List Int) (g:List Value),WellAll Z A g (c.map WData.int)->xo g c:=by
 intro c;induction c with
 |nil =>
  intro g w;rw[agL]at w;cases w;exact .nil
 |cons n c h =>
  intro g w;rw[wh]at w;cases w with
  |cons a b =>
   cases a;exact .cons _ _ (h _ b)
def BR (x:l.most=some i){args:List WData}(u:l.row.toRowW.claim.pre args=true)(v:WellAll Z A Y args):
  ∃a p g,Y = [yE a]/\args = [WData.list (g.map WData.int)]/\A.get? a=some { cls:=.type "list",data:=.seq p.toArray }/\xo p g/\g.length<=i:=by
 have o:WShape.hasAll [] args [.list .int]=true:=(pre_splitW u).1;have e:l.pre.holds [] { args:=args }=true:=(pre_splitW u).2;obtain⟨d,r,rfl,k,n⟩:=hasAllW_cons o;obtain rfl:=hasAllW_nil n;obtain⟨E,rfl,f⟩:=hasW_list k;obtain⟨g,rfl⟩:=items_int f;have h:g.length<=i:=by
  unfold OpenLaw.pre at e;have b:(WTm.not (.lt (.lit (.int (i:Int))) (.len (.arg 0)))).holds [] { args:=[.list (g.map .int)] }=true:=by have b:=(holds_andW e).1;rw[x]at b;exact b
  have c:=condW_of b (w_not (w_lt w_lit (w_len_list (w_arg rfl))));rw[oY]at c;refine Nat.le_of_not_lt λq=>?_;have j:(i:Int)<((g.length:Nat):Int):=by lia
  first
   | (rw[decide_eq_true j]at c;exact absurd c (by decide))
   | (simp at c;lia)
 cases v with
 |cons y B =>
  cases B;cases y with
  |list ho C=>exact⟨_,_,g,rfl,rfl,ho,qm g _ C,h⟩
def BS (l:XC)(args:List WData):l.row.toRowW.claim.post args (.bool true) args=true :=
 postW_of (r:=l.row.toRowW) (X:=(true == true))
  (show WShape.has [] (.bool true) .bool=true by first|rfl|decide|simp[WShape.has,WShape.arms,WShape.armsAll])
  (show(WTm.eq .res (.lit (.bool true))).value [] { args:=args,res:=some (.bool true),after:=args }=some (.bool (true == true)) from w_eq_bool (w_res rfl) w_lit) rfl
def xM {C:(Str->Option Value)->Heap->Prop}{B:World->Heap->Prop}{d:DefRec}(H:l.most=some i)(E:d.params.defaults = [])(call:∀(w:World) (s₀ s₁:j0) (mg R:Str->Option Value) (fa:Addr) (o:Obj) (Z J g:Value) (a:Addr) (p:List Value) (O:List Int),
   Ground k U [] C w s₀ mg R s₁.heap->B w s₁.heap ->
   s₁.heap.get? fa=some o->o.data = .func (docDef d.name d.params d.body d.scope Z J g)->s₁.heap.CodeRec J d.name->mg d.name=some (.ref fa) ->
   s₁.heap.get? a=some { cls:=.type "list",data:=.seq p.toArray }->xo p O->O.length<=i->s₁.gens = #[] ->
   F2 (model l.prog w) Qj (.call (.ref fa) ⟨[.ref a],[]⟩) (λr Q=>r = .ok (.ret (.bool true))/\OldK s₁.heap Q.heap/\Q.os=s₁.os/\OY Q.gens) s₁):
  WalkO k U C B l.row.toRowW d [] (λf p=>agk f p):=by
 intro w s₀ s₁ mg R G Y fa o Z J g c kV j hd e hD x y args vals as h ZU z s R5;obtain rfl:c = .none:=Dflts.none hD E;obtain rfl:kV = .none:=Dflts.noKw hD;obtain⟨a,p,O,rfl,rfl,b,hints,I⟩:=BR H h s;refine enter_call (SR (call w s₀ s₁ mg R fa o Z J g a p O G Y j (fd_plain hd) e x b hints I y) λr Q n=>?_);obtain⟨rfl,v,q,u⟩:=n;exact⟨.inl ⟨.bool true,.bool true,[],rfl,λ_=>rfl,.bool true,BS l _,λ_=>⟨ag0,λ_ hm=>(nomatch hm)⟩⟩,v,q,u⟩
end
section
open PyProof.Rows
variable {R:Array (Int×Value)}{t:Rr}{M:Option (Value×Nat)->j0->Prop}{J:Option Value->j0->Prop}{H:Nat->Nat->Prop}{C:mW}{a:Addr}{B:Sp}{z:Lx}{e:Stmt}{v:u9}{w:Str->Option Value}{r:Value}
theorem jh:∀{c:List Value} {g:List Int},xo c g->Vals (g.map V.int) c
 |_,_,.nil=>.nil|_,_,.cons n t h=>.cons ⟨t,rfl⟩ (jh h)
noncomputable def UX (H:Hp):Prop:=∀b,H b=none\/(∃o c,H b=some (.mO o (.lst c))) \/ ∃p q,H b=some (.cE p q)
structure TabsOk (K:mW)(ts:List Addr)(lx:Lx):Prop where
 hd:∀q∈lx.tb,∃c,adw K c q.1=true
 out:∀q∈lx.tb,K.lookup q.1=none
 mem:∀q∈lx.tb,q.1∈ts
 nd:(lx.tb.map (·.1)).Nodup
noncomputable def k5 (l:List (Addr×Pos×Str)):Hp:=λb=>(l.lookup b).map λq=>.cE q.1 q.2
theorem rM:∀{l:List (Addr×Pos×Str)} {q:Addr×Pos×Str},(l.map (·.1)).Nodup->q∈l->k5 l q.1=some (.cE q.2.1 q.2.2)
 |x::l,q,nd,h=>by
  unfold k5;rw[vb];rw[wh,DK]at nd;rcases l2.mp h with rfl|h
  . simp
  . rw[show(q.1 == x.1)=false from beq_eq_false_iff_ne.mpr λe=>nd.1 (by rw[<- e];exact Cm h)]
    exact rM nd.2 h
theorem nF:∀{l:List (Addr×Pos×Str)} {b:Addr} {u:HO},k5 l b=some u->∃q∈l,q.1=b/\u = .cE q.2.1 q.2.2
 | [],b,u,h=>by cases h
 |x::l,b,u,h=>by
  unfold k5 at h;rw[vb]at h;split at h
  . rename_i e
    cases h;exact⟨x,qc,(eq_of_beq e).symm,rfl⟩
  . obtain⟨q,m,r⟩:=nF (l:=l) h
    exact⟨q,nW _ m,r⟩
def EJ {I:Str->Option Value}{CX:nB}(J:C.In s.heap)(O:s.heap.Ns qr w)(A:s.heap.Ns Y6 I)(GA:∀x:Str,x ≠ "__name__"->I x=Nu x)(Z:s.heap.NoLimit)(W:∃bm ob,BMod s.heap qr w bm ob)(lx:s.gens = #[])(E:s.heap.get? a=some { cls:=.type "list",data:=.seq Y.toArray })(S:xo Y y)(N:y.length<=lX)(K:dy i Qj)(TO:TabsOk C T z)(mg:∀k∈T,s.heap.get? k=some (Pd #[]))(F:∀base:Heap,C.In base->base.Ns qr w->d_ k u C w base CX i f v [x] B)(X:∀(L:j0) (R:Value),agV L v ⟨[R],[]⟩ [(x,R)])(U:∀H:Hp,dD C H a (y.map V.int)->(∀q∈z.tb,H q.1=some (.cE q.2.1 q.2.2))->B [.ref a] H (λns _=>ns = .bl true) λ_ _ _=>False)(LZ:∀H e g,CX [] H s (λ_ _ _=>False) e g->False):
  F2 (model k u) Qj (.call (.ref f) ⟨[.ref a],[]⟩) (λr g=>r = .ok (.ret (.bool true))/\OldK s.heap g.heap/\g.os=s.os/\OY g.gens) s:=by
 have rv:=jh S;have UZ:=S.length;have tabs:∀q∈z.tb,s.heap.get? q.1=some (Pd #[]):=λq P=>mg _ (TO.mem q P);have core:∀H:Hp,UX H->dD C H a (y.map V.int)->eC k u H s.heap->(∀b,H b≠none->b=a \/ ∃q∈z.tb,q.1=b)->(H a≠none->C.lookup a=none)->(∀q∈z.tb,H q.1=some (.cE q.2.1 q.2.2)) ->
    F2 (model k u) Qj (.call (.ref f) ⟨[.ref a],[]⟩) (λr g=>r = .ok (.ret (.bool true))/\OldK s.heap g.heap/\g.os=s.os/\OY g.gens) s:=by
  intro H hO hS aV hA hK Xx;have vs:∀{b:Addr} {o:Obj},s.heap.get? b=some o->H b=none->(lQ s.heap H).get? b=some o:=λe n=>Em e n;have vA:∀{b:Addr} {o:Obj},s.heap.get? b=some o->o≠{ cls:=.type "list",data:=.seq Y.toArray }->o≠Pd #[]->H b=none:=fun {b o} e d1 d2=>by
    cases q:H b with
    |none=>rfl
    |some R =>
      rcases hA b (by rw[q];simp)with e'|⟨r,K,e'⟩
      . subst e';rw[E]at e;exact absurd (wi e).symm d1
      . have:=tabs r K;rw[e',e]at this;exact absurd (wi this) d2
  have qj:∀{b:Addr} {o:Obj} {es:Array qb} {ep:Nat},s.heap.get? b=some o->o.data = .dict es ep->H b=none:=fun {b o es ep} e d=>vA e (λQ=>by rw[Q]at d;cases d) λQ=>by rw[Q]at d;cases d
  have l:∀{b:Addr} {m:Str->Option Value},s.heap.Ns b m->(lQ s.heap H).Ns b m:=fun {b m} ⟨o,es,ep,e,d,r⟩=>⟨o,es,ep,vs e (qj e d),d,r⟩
  have R6:C.In (lQ s.heap H):=λb o e=>vs (J b o e) (by
    cases q:H b with
    |none=>rfl
    |some R =>
      rcases hA b (by rw[q];simp)with e'|⟨r,K,e'⟩
      . subst e'
        rw[hK (by rw[q];simp)]at e;cases e
      . have:=TO.out r K;rw[e',e]at this;cases this)
  have hM:bab C w (lQ s.heap H):=⟨R6,l O,⟨I,l A,GA⟩,let⟨mc,h1,h2⟩:=Z;⟨mc,l h1,h2⟩,let⟨bm,ob,s₁⟩:=W
    ⟨bm,ob,l s₁.ns,s₁.name,s₁.ne,vs s₁.obj (vA s₁.obj (λQ=>by have:=s₁.cls;rw[Q]at this;have this:rn "list" = .type "module":=this;exact absurd this (by decide)) λQ=>by have:=s₁.cls;rw[Q]at this;exact absurd this (by decide)),s₁.cls,s₁.dict,s₁.data⟩⟩
  have e0:pJ k u C w (lQ s.heap H) Qj [] s H:=⟨rfl,hM,λb o e=>Ir e,Y1 (Bs _ _),trivial,λb A=>absurd (show b∈([]:List Addr) from A) (by simp),aV,.of_eq lx⟩
  refine SR ((F _ R6 (l O)).run Qj [] s H ⟨[.ref a],[]⟩ [.ref a] [.ref a] _ _ K e0 (X s (.ref a)) (.cons rfl .nil) (U H hS Xx)) λr g h=>?_;cases r with
  |error e=>exact(LZ H e g h).elim
  |ok fl =>
    cases fl with
    |next=>exact vT h|brk=>exact vT h|cont=>exact vT h
    |ret R =>
      obtain⟨ns,H',os,bare,un,L0,r',q⟩:=h;have q':ns = .bl true:=q;subst q';obtain rfl:R=Y0 true:=r';have key:∀b o,s.heap.get? b=some o->g.heap.get? b=some o\/(∃r∈z.tb,r.1=b) /\ ∃j,g.heap.get? b=some (Pd j):=λb o e=>by
        cases q:H b with
        |none=>exact .inl (un.keep b o e q (by intro Q;exact absurd (show b∈([]:List Addr) from Q) (by simp)) (by simp))
        |some R =>
          rcases hO b with Q|⟨ob,xs,Q⟩|⟨p,q',Q⟩
          . rw[q]at Q;cases Q
          . have z2:=un.jQ b ob _ Q
            obtain⟨M,_⟩:=aV b _ Q;obtain⟨e2,_⟩:=L0 b _ z2;rw[e]at M;cases M;exact .inl e2
          . have z2:=un.jR b _ rfl Q
            obtain⟨j,e2,_⟩:=L0 b _ z2;rcases hA b (by rw[q];simp)with e'|K
            . subst e'
              obtain⟨_,M,_⟩:=aV b _ Q;rw[E]at M;cases M
            . exact .inr ⟨K,j,e2⟩
      refine⟨rfl,⟨λb o e=>?_,λb o e=>?_⟩,os,bare⟩
      . rcases key b o e with i|⟨⟨r,K,e'⟩,j,i⟩
        . exact .inl i
        . obtain⟨c,hc⟩:=TO.hd r K
          have hP:=tabs r K;have hC:=(agz J hc).tab hP;rw[e']at hP hC;rw[e]at hP;cases hP;exact .inr (.inl ⟨hC.isCodeTable,rfl,#[],j,rfl,by rw[Array.empty_append];exact i⟩)
      . rcases key b o e with i|⟨_,j,i⟩
        . exact⟨_,i⟩
        . exact⟨_,i⟩
 have R7:∀q∈z.tb,q.1≠a:=λq P Q=>by have:=tabs q P;rw[Q,E]at this;cases this
 have U0:eC k u (k5 z.tb) s.heap:=λb R Q=>by obtain⟨q,P,rfl,rfl⟩:=nF Q;exact⟨#[],tabs q P,trivial,.inl rfl⟩
 have GB:∀b,k5 z.tb b=none\/(∃o xs,k5 z.tb b=some (.mO o (.lst xs))) \/ ∃p q,k5 z.tb b=some (.cE p q):=λb=>by
  cases Q:k5 z.tb b with
  |none=>exact .inl rfl
  |some R =>
    obtain⟨q,_,_,rfl⟩:=nF Q;exact .inr (.inr ⟨_,_,rfl⟩)
 have EK:∀b,k5 z.tb b≠none->∃q∈z.tb,q.1=b:=λb Q=>by
  cases e:k5 z.tb b with
  |none=>exact absurd e Q|some R=>obtain⟨q,h1,h2,_⟩:=nF e;exact⟨q,h1,h2⟩
 cases hk:C.lookup a with
 |some o =>
  have e:=J a o hk;rw[E]at e;cases e;refine core (k5 z.tb) GB (.inr ⟨_,Y.toArray,_,hk,rfl,rfl,rfl,by rw[m3,UZ];exact N,by simpa using rv⟩) U0 (λb Q=>.inr (EK b Q)) (λQ=>?_) λq P=>rM TO.nd P;obtain⟨q,P,e⟩:=EK a Q;exact absurd e (R7 q P)
 |none =>
  refine core (upd (k5 z.tb) a (.mO { cls:=.type "list",data:=.seq Y.toArray } (.lst (y.map V.int)))) (λb=>?_) (.inl (.inr ⟨{ cls:=.type "list",data:=.seq Y.toArray },aQ⟩)) (λb R Q=>?_) (λb Q=>?_) (λ_=>hk) λq P=>by rw[aF (R7 q P)];exact rM TO.nd P
  . by_cases A:b=a
    . subst A;exact .inr (.inl ⟨_,_,aQ⟩)
    . rw[aF A];exact GB b
  . by_cases A:b=a
    . subst A
      rw[aQ]at Q;cases Q;exact⟨E,by rw[oY];exact N,Y,_,rv,E⟩
    . rw[aF A]at Q
      obtain⟨q,P,rfl,rfl⟩:=nF Q;exact⟨#[],tabs q P,trivial,.inl rfl⟩
  . by_cases A:b=a
    . exact .inl A
    . rw[aF A]at Q;exact .inr (EK b Q)
def IT {l:XC}{n k:Nat}{q:p9}{N:(Str->Option Value)->Heap->Prop}{B:World->Heap->Prop}{d:DefRec}{K:Params->mW}{CX:World->nB}{sp:World->Lx->Sp}(J:l.most=some n)(O:n<=lX)(I:d.params.defaults = [])(E:dy k Qj)(M:∀(w:World) (h:Heap),B w h->(K w.params).In h /\ ∀P∈T,h.get? P=some (Pd #[]))(F:∀(w:World) (mg:Str->Option Value) (fa:Addr) (h:Heap),(K w.params).In h->h.Ns qr mg->mg d.name=some (.ref fa) ->
   ∃(fd:u9) (lx:Lx),TabsOk (K w.params) T lx/\(∀(s:j0) (u:Value),agV s fd ⟨[u],[]⟩ [(x,u)]) /\
    ∀base:Heap,(K w.params).In base->base.Ns qr mg->d_ l.prog w (K w.params) mg base (CX w) k fa fd [x] (sp w lx))(L:∀(w:World) (lx:Lx) (H:Hp) (a:Addr) (C:List Int),C.length<=n->dD (K w.params) H a (C.map V.int)->(∀q∈lx.tb,H q.1=some (.cE q.2.1 q.2.2))->sp w lx [.ref a] H (λv _=>v = .bl true) λ_ _ _=>False)(Q:∀(w:World) (H:Hp) (s:j0) (e:Value) (R:j0),CX w [] H s (λ_ _ _=>False) e R->False):
  agv q U N B l.row.toRowW d [] (λf Z=>agk f Z):=by
 refine xM J I λw s₀ s₁ mg mb fa o pm cd doc a Z C G Y ho hd jA LX i hints p hg=>?_;obtain⟨c,LY⟩:=M w _ Y;obtain⟨fd,lx,TO,hb,hF⟩:=F w mg fa _ c G.T.g LX;obtain⟨bm,y,b1,z,b3,j,b5,b6⟩:=G.T.bmain;exact EJ c G.T.g G.T.b G.T.builtins G.T.nolimit ⟨bm,y,G.T.g,b1,z,b3,j,b5,b6⟩ hg i hints (n7 p O) E TO LY hF hb (λH r hT=>L w lx H a C p r hT) λH e R=>Q w H s₁ e R
noncomputable def gm (s:Stmt):Qt:=match s with
 |.FunctionDef _ a _ _ _ _ _ _ _ _=>a|_=>{ posonlyargs:=[],args:=[],vararg:=none,kwonlyargs:=[],kw_defaults:=[],kwarg:=none,defaults:=[] }
noncomputable def d7 (s:Stmt):List Stmt:=match s with
 |.FunctionDef _ _ b _ _ _ _ _ _ _=>b|_=>[]
noncomputable def aX (s:Stmt):Scope:=match s with
 |.FunctionDef _ _ _ _ _ _ sc _ _ _=>sc|_=>{ kind:=.function,names:=[],isGenerator:=false,isCoroutine:=false }
noncomputable abbrev h_:nB:=λ_ _ _ _ _ _=>False
noncomputable abbrev E0:XK:=λ_ _ _=>False
def Aa:Passes h_ X E0:=λ_ _ _ _ _ _ _ h=>h.elim
structure x9 (K:mW)(x qual:Str)(st:Stmt)(f:Addr)(fd:u9):Prop where
 ex:∃(oc:Value) (od:Option Addr) (kV doc pm:Value) (an:Option Addr) (dE ct:Value) (vj:Array (Option Value)),
  fd=Hg x qual (gm st) (d7 st) (aX st) .none kV doc pm an dE ct/\K.lookup f=some ⟨oc,od,.func fd,vj⟩/\adX K dE qual=true
 kp:KR K (.ref f)=true
def x9.ok {lx:Lx}{r:Str}{ps:List Str}(F:x9 C x r e f v)(S:jM U ps (aX e))(len:∀g H Q E,B g H Q E->g.length=ps.length)(y:∀(n:Value) (p:nc) (outer:List Env) (s:j0) (H:Hp) (g:List V) (Q:VK) (E:XK),v.code=n->dy i (p.deeper (MT r (aX e) s.heap.objs.size f n))->B g H Q E ->
   ∃t,hX (lT lx h_ k u C w A U r (aX e) f n p outer s H E).ve (d7 e) t/\t { nx:=λ_ I=>Q .ay I,rt:=Q } (p8 U g) H):d_ k u C w A h_ (i+1) f v ps B:=by
 obtain⟨l,j,kV,J,O,R,n,N,o,rfl,c,a⟩:=F.ex;refine Qe (lx:=lx) c a S len λp outer s H g Q E P b=>?_;obtain⟨t,h,q⟩:=y n p outer s H g Q E rfl P b;exact⟨t,h.ve,q⟩
def BV {a:Str}{q i:Option Addr}{o:Array (Option Value)}{b j h ct:Value}(l:C.lookup f=some ⟨r,q,.func (Hg x a (gm e) (d7 e) (aX e) .none Z b j i h ct),o⟩)(c:adX C h a=true)(k:KR C (.ref f)=true):x9 C x a e f (Hg x a (gm e) (d7 e) (aX e) .none Z b j i h ct):=⟨⟨r,q,Z,b,j,i,h,ct,o,rfl,l,c⟩,k⟩
def jN:Slot "set_iterator" "__next__" "set_iterator.__next__" :=
 .of (owner:="set_iterator") (n:="__next__") (by rw[aeD,adm];kernel_rfl) (by decide +kernel) (by decide +kernel) (by decide +kernel)
  (by first|exact .inl (by decide +kernel)|exact .inr (by decide +kernel)) (by rw[isSubtype_type];kernel_rfl)
def x_:entryFor table "set_iterator.__next__" = some sk.«set_iterator.__next__»:=entryFor_of_tree (by kernel_rfl)
def ya (a:Value):TL "set_iterator.__next__" ⟨[a],[]⟩:=by unfold TL;kernel_rfl
def IU:entryFor table "set.__iter__" = some sk.«frozenset.__iter__» :=
 entryFor_alias (id':="frozenset.__iter__") (by kernel_rfl) rfl (by decide +kernel) (by kernel_rfl)
noncomputable def L7 (slot i:Nat)(a:Addr)(n b:Nat):Obj:={ cls:=.type "set_iterator",data:=.fields #[xy slot,xy i,.ref a,xy n,xy b] }
noncomputable def iu (c:Array (Int×Value))(a:Nat)(t:Rr):Obj:={ cls:=.type "set",data:=.set c a t }
def vB {slot':Nat}{hh:Int}(f:s.heap.get? a=some (iu R o t))(prog:t.fits R.size=true)(h:u.params.followText "set-order" = false)(l:t.led=true)(e:t.plain=true)(Q:M (match R[oW t.place j]?,t.place[oW t.place j]? with|some (_,g),some n=>some (g,n+1)|_,_=>none) s):wpAny (model k u) O (MS a j i o) M E s:=by
 unfold MS;refine jg (adi f rfl prog ?_);dsimp only;unfold agl;refine jg (jg (Vu (kn ?_)));have c:(ahS ⟨(model k u).prog,(model k u).w.params⟩).followText "set-order" = false:=h;rw[c];simp only[pA,if_false];have dr:¬(!t.plain&&decide (R.size>1))=true:=by simp[e]
 show wpAny _ _ (if(!t.plain&&decide (R.size>1))=true then _ else _) _ _ s;rw[if_neg dr];have b:¬(!t.led && !R.isEmpty)=true:=by simp[l]
 show wpAny _ _ ((if(!t.led && !R.isEmpty)=true then unsupported "set:maker-not-led" else pure ()) >>= _) _ _ s;rw[if_neg b];exact jg (kn (kn Q))
def tw (f:s.heap.get? a=some (iu R o t))(h:t.fits R.size=true)(prog:u.params.followText "set-order" = true)(Q:M (((R9 (u.params.setOrder a o) R)[i]?).map λe=>(e.2,j)) s):wpAny (model k u) O (MS a j i o) M E s:=by
 have b:(ahS ⟨(model k u).prog,(model k u).w.params⟩).followText "set-order" = true:=prog;unfold MS;refine jg (adi f rfl h ?_);dsimp only;unfold agl;refine jg (jg (Vu (kn ?_)));rw[b];have c:(o != o)=false:=by simp
 simp only[if_true,c,pA,if_false];refine jg ?_;unfold setWalk agl;refine jg (adi f rfl h ?_);dsimp only;refine jg (jg (Vu (kn ?_)));rw[b];simp only[if_true];refine jg (Vu ?_);exact kn (kn Q)
def BW (h:s.heap.get? f=some (L7 K i a R.size j))(Q:s.heap.get? a=some (iu R j t))(l:t.fits R.size=true)(prog:∀(O:nc) (E:Value->j0->Prop) (J:Option (Value×Nat)->j0->Prop),J (some (Z,o)) s->wpAny (model k u) O (MS a K i j) J E s)(x:∀g,g.get? f=some (L7 o (i+1) a R.size j)->L1 f s.heap g->J (some Z) { s with heap:=g }):wpAny (model k u) O (Bv (.ref f)) J E s:=by
 have b:s.TypeIs (.ref f) "set_iterator":=⟨_,h,rfl⟩
 unfold Bv;refine jg (agw (Nc (name:=Ck "__next__") b jN (xx jN b x_ ?bd (ya _))));unfold sk.«set_iterator.__next__»;refine jg (kn ?_);refine jg (wpAny_fieldsOf h rfl ?_);show wpAny _ _ (setEntries a >>= _) _ _ s;refine jg (aeK Q rfl l ?_);have e:(((R.size:Nat):Int) != ((R.size:Nat):Int))=false:=by simp
 dsimp only;rw[e];simp only[pA,if_false];show wpAny _ _ (MS a (Tj (K:Int)) (Tj (i:Int)) (Tj (j:Int)) >>= _) _ _ s;rw[L3,L3,L3];refine jg (prog _ _ _ ?_);dsimp only;refine jg (ad0 h rfl (by simp) ?_)
 have c:=HT (Obj.mapFields (·.setIfInBounds 0 (xy (o:Int)))) h (by rfl)
 refine jg (ad0 c (vs:=#[xy (o:Int),xy i,.ref a,xy R.size,xy j]) (by rfl) (by simp) ?_);refine kn ⟨Z,rfl,kn (x _ ?_ ?_)⟩
 . exact(HT (Obj.mapFields (·.setIfInBounds 1 (xy ((i:Int)+1)))) c (by rfl)).trans rfl
 . exact(OL ..).trans (OL ..)
def BX (hh:O.handled=none)(prog:s.heap.get? f=some (L7 j i a R.size o))(h:s.heap.get? a=some (iu R o t))(w:t.fits R.size=true)(l:∀(O:nc) (E:Value->j0->Prop) (J:Option (Value×Nat)->j0->Prop),J none s->wpAny (model k u) O (MS a j i o) J E s)(Q:∀g,afX f s.heap g->J none { s with heap:=g }):wpAny (model k u) O (Bv (.ref f)) J E s:=by
 have c:s.TypeIs (.ref f) "set_iterator":=⟨_,prog,rfl⟩
 unfold Bv;refine jg (agw (Nc (name:=Ck "__next__") c jN (xx jN c x_ ?bd (ya _))));unfold sk.«set_iterator.__next__»;refine jg (kn ?_);refine jg (wpAny_fieldsOf prog rfl ?_);show wpAny _ _ (setEntries a >>= _) _ _ s;refine jg (aeK h rfl w ?_);have e:(((R.size:Nat):Int) != ((R.size:Nat):Int))=false:=by simp
 dsimp only;rw[e];simp only[pA,if_false];show wpAny _ _ (MS a (Tj (j:Int)) (Tj (i:Int)) (Tj (o:Int)) >>= _) _ _ s;rw[L3,L3,L3];refine jg (l _ _ _ ?_);dsimp only;refine jg (ad0 prog rfl (by simp) ?_);refine jg ?_;simp only[newExc,newTuple];refine jg (x3 ?_ (by size_fits));refine jg (m:=aeP _ _) (aha (a:=xa) (by first|rfl| (simp only[aeP];rfl)) ?_);refine x3 ?_ (by size_fits);simp only[raiseNew];refine jg (wpAny_handled ?_);rw[show O.in1.handled=none from hh];refine jg (kn (wpAny_throw ?_));refine jg (aei (T:="StopIteration") (b:=true) ⟨_,n3 _ rfl,rfl⟩ isSubtype_stop ?_);exact kn (Q _ (((OL ..).extBut.push _).push _))
def yc:Slot "set_iterator" "__iter__" "set_iterator.__iter__" :=
 .of (owner:="set_iterator") (n:="__iter__") (by rw[aeD,adm];kernel_rfl) (by decide +kernel) (by decide +kernel) (by decide +kernel)
  (by first|exact .inl (by decide +kernel)|exact .inr (by decide +kernel)) (by rw[isSubtype_type];kernel_rfl)
def IV:entryFor table "set_iterator.__iter__" = some sk.«dict_keyiterator.__iter__» :=
 entryFor_alias (id':="dict_keyiterator.__iter__") (by kernel_rfl) rfl (by decide +kernel) (by kernel_rfl)
def IW (a:Value):TL "set_iterator.__iter__" ⟨[a],[]⟩:=by unfold TL;kernel_rfl
section
variable {prog:p9}{w:World}{A:nc}{E:Value->j0->Prop}{s:j0}{I a:Addr}{es:Array (Int×Value)}{ep:Nat}{t:Rr}{slot i:Nat}
def BY (c:s.heap.get? I=some (L7 slot i a es.size ep))(h:Q (.ref I) s):wpAny (model prog w) A (Pp (.ref I)) Q E s:=by
 have b:s.TypeIs (.ref I) "set_iterator":=⟨_,c,rfl⟩
 refine wpAny_pyIter_slot b yc (xx yc b IV ?_ (IW _));show wpAny _ _ (ret (.ref I)) _ _ s;exact kn ⟨_,rfl,"set_iterator",_,b,jN.lookup,h⟩
structure Way (prog:p9)(w:World)(a:Addr)(es:Array (Int×Value))(ep:Nat)(t:Rr)(ord:List Value)(ok:Nat->Nat->Prop):Prop where
 fit:t.fits es.size=true
 len:ord.length=es.size
 zero:ok 0 0
 step:∀i slot,i<es.size->ok i slot->∃x nt,ord[i]? = some x/\ok (i+1) nt /\ ∀(s:j0) (A:nc) (E:Value->j0->Prop) (Q:Option (Value×Nat)->j0->Prop),s.heap.get? a=some (iu es ep t)->Q (some (x,nt)) s->wpAny (model prog w) A (MS a slot i ep) Q E s
 stop:∀slot,ok es.size slot->∀(s:j0) (A:nc) (E:Value->j0->Prop) (Q:Option (Value×Nat)->j0->Prop),s.heap.get? a=some (iu es ep t)->Q none s->wpAny (model prog w) A (MS a slot es.size ep) Q E s
def walks (W:Way prog w a es ep t Y H)(hh:A.handled=none)(C:a≠I):
  Walks prog w A I [I,a] [I] es.size (λi v=>Y[i]? = some v) (λi h=>(∃slot,H i slot/\h.get? I=some (L7 slot i a es.size ep))/\h.get? a=some (iu es ep t)) where
 sub:=λb f=>by simp at f;simp[f]
 frame:=λ_ _ _ st r=>⟨let⟨j,q,e⟩:=st.1;⟨j,q,r I (by simp) _ e⟩,r a (by simp) _ st.2⟩
 item:=λi s Q E z st k=>by obtain⟨⟨j,q,e⟩,c⟩:=st;obtain⟨x,y,hx,hq,hn⟩:=W.step i j z q;refine BW e c W.fit (λA E Q h=>hn s A E Q c h) λl L4 u=>?_;exact k _ l s.toks hx ⟨⟨y,hq,L4⟩,u.extBut a _ C c⟩ λb o f e=>u.extBut b o (λh=>f (by simp[h])) e
 done:=λs Q E st k=>by obtain⟨⟨j,q,e⟩,c⟩:=st;exact BX hh e c W.fit (λA E Q h=>W.stop j q s A E Q c h) λl he=>k l s.toks λb o f e=>he b o (λh=>f (by simp[h])) e
 self:=λi s Q E st k=>by obtain⟨⟨j,q,e⟩,c⟩:=st;exact BY e k
theorem yd {b:Type}:∀(l:List b) (i:Nat) (h:i<l.length),(l[i]::l.eraseIdx i).Perm l
 |x::l,0,h=>by simp|x::l,i+1,h=>by have:=yd l i (by simpa using h);simp only[List.getElem_cons_succ,List.eraseIdx_cons_succ];exact(ahV _ _ _).trans (this.cons x)
theorem ye {b:Type}(f:Nat->Nat):∀(n k:Nat) (l:List b) (out:Array b),n=l.length->(agM f n k l out).toList.Perm (out.toList++l)
 | 0,k,l,out,h=>by have:l = []:=YL.mp h.symm;subst this;simp[agM]
 |n+1,k,l,out,h=>by
  have a:0<l.length:=by lia
  have hm:=Nat.mod_lt (f k) a;rw[agM,lC hm];dsimp only;refine(ye f n (k+1) _ _ (by rw[List.length_eraseIdx_of_lt hm];lia)).trans ?_;rw[Array.toList_push,sP,aga];exact List.Perm.append_left _ (yd l _ hm)
def tx {b:Type}(f:Nat->Nat)(c:Array b):(R9 f c).toList.Perm c.toList:=by have:=ye f c.size 0 c.toList #[] (by simp);simpa[R9]using this
def U1 (k:t.fits es.size=true)(l:w.params.followText "set-order" = true):Way prog w a es ep t ((R9 (w.params.setOrder a ep) es).toList.map (·.2)) (λ_ slot=>slot=0):=by
 have f:(R9 (w.params.setOrder a ep) es).toList.length=es.toList.length:=(tx _ es).length_eq;have h:(R9 (w.params.setOrder a ep) es).size=es.size:=by simpa using f
 refine⟨k,by simp[h],rfl,λi slot j g=>?_,λslot g s A E Q c b=>?_⟩
 . subst g
   have e:i<(R9 (w.params.setOrder a ep) es).size:=by lia
   refine⟨(R9 (w.params.setOrder a ep) es)[i].2,0,by simp[e],rfl,λs A E Q c b=>?_⟩;refine tw c k l ?_;rw[F7 e];exact b
 . subst g
   refine tw c k l ?_;rw[ad_ (by lia)];exact b
def U2 (k:t.fits es.size=true)(o:w.params.followText "set-order" = false)(q:t.led=true)(l:t.plain=true)(u:t.place.size=es.size)(r:oW t.place 0=0)
   (hw:∀i j,t.place[i]? = some j->oW t.place (j+1)=i+1):Way prog w a es ep t (es.toList.map (·.2)) (λi slot=>oW t.place slot=i):=by
 refine⟨k,by simp,r,λi slot f h=>?_,λslot h s A E Q c b=>?_⟩
 . have e:i<t.place.size:=by lia
   refine⟨es[i].2,t.place[i]+1,by simp[f],hw i _ (F7 e),λs A E Q c b=>?_⟩;refine vB (slot':=0) (hh:=0) c k o q l ?_;rw[h,F7 f,F7 e];exact b
 . refine vB (slot':=0) (hh:=0) c k o q l ?_
   rw[h,ad_ (by lia)];exact b
end
def EL:typeLookup (.type "set") "__len__" = pure (some (.builtin "set.__len__")):=by rw[aeD,adm];kernel_rfl
section
def BZ {Q:Bool->j0->Prop}(b:s.heap.get? a=some (iu R i t))(f:t.fits R.size=true)(c:u.params.followText "set-order" = true\/t.plain=true)(j:Q false s):wpAny (model k u) O (setDrawn a) Q E s:=by
 unfold setDrawn;refine jg (adi b rfl f ?_);dsimp only;unfold agl;refine jg (jg (Vu (kn ?_)));have e:(!u.params.followText "set-order" && (!t.plain&&decide (R.size>1)))=false:=by rcases c with h|h<;>simp[h]
 refine kn ?_;show Q (!u.params.followText "set-order" && (!t.plain&&decide (R.size>1))) s;rw[e];exact j
def EM (c:s.heap.get? a=some (iu R i t))(e:t.fits R.size=true)(f:u.params.followText "set-order" = true\/t.plain=true)(h:Q (.ref s.heap.objs.size) { s with heap:=s.heap.push (L7 0 0 a R.size i) }):wpAny (model k u) O (Pp (.ref a)) Q E s:=by
 have b:s.TypeIs (.ref a) "set":=⟨_,c,rfl⟩
 refine wpAny_pyIter_slot b F.slot_set_iter (xx F.slot_set_iter b IU ?_ (F.args_set_iter_1 _));unfold sk.«frozenset.__iter__» aje slotArgs;simp only[List.isEmpty_nil,XI,pA,↓reduceIte,bind_assoc,ahz,bne_self_eq_false];unfold aiT aiU;refine jg (kn ?_);try dsimp only
 refine jg (kn ?_);refine jg (jg (aeK c rfl e (kn ?_)));refine jg (BZ c e f ?_);simp only[pA,if_false];refine jg (kn ?_);refine jg (wpAny_setEpoch_of c rfl e ?_);refine jg (m:=newFields _ _) (x3 ?_);exact kn ⟨_,rfl,"set_iterator",_,⟨_,n3 _ rfl,rfl⟩,jN.lookup,h⟩
set_option maxHeartbeats 4000000 in
def xN {A:nc}{Q:List Value->j0->Prop}(W:Way k u a R i t Y H)(hh:A.handled=none)(B:s.heap.get? a=some (iu R i t))(C:u.params.followText "set-order" = true\/t.plain=true)(K:R.size<=lX)(J:∀(n:Heap) (tk:Nat),s.heap.objs.size<n.objs.size->(∀b o,s.heap.get? b=some o->n.get? b=some o)->Q Y { s with heap:=n,toks:=tk }):wpAny (model k u) A (collect (.ref a)) Q E s:=by
 have z:a<s.heap.objs.size:=mA B;have ok:s.heap.objs.size≠a:=λe=>Ac _ (e ▸ z);unfold collect;refine jg (wpAny_runValue (Sl F.entry_proto_collect ?_));rw[TZ F.plain_proto_collect _];show wpAny _ A.in1 (newList [] >>= λl=>again (.builtin "list.__iadd__" ⟨[l,.ref a],[]⟩)) _ _ s;refine jg (x3 ?_);refine kn ⟨YD F.plain_list_iadd _,Sl F.entry_list_iadd ?_⟩;rw[TZ F.plain_list_iadd _];show wpAny _ A.in1 (ae1 (.ref s.heap.objs.size) (.ref a) (.ref s.heap.objs.size)) _ _ _;unfold ae1;have prog:(s.heap.push { cls:=.type "list",data:=.seq ([]:List Value).toArray }).get? a=some (iu R i t):=mn _ B;refine jg (RY (T:="set") ⟨_,prog,rfl⟩ ?_);have h1:afC (.ref s.heap.objs.size) (.ref a)=false:=by simp[afC,ok]
 have h2:(rn "set" == rn "list")=false:=by decide
 have h3:(rn "set" == rn "tuple")=false:=by decide
 simp only[h1,h2,h3,Zf,pA,if_false];refine jg (EM prog W.fit C ?_);refine jg (sZ ?_);generalize r:s.heap.push { cls:=.type "list",data:=.seq ([]:List Value).toArray }=g at *;have w:g.objs.size=s.heap.objs.size+1:=by rw[<- r,GG]
 have c:(g.push (L7 0 0 a R.size i)).get? a=some (iu R i t):=mn _ prog;unfold Builtin.List.listLengthHint;refine jg (afQ (T:="set") ⟨_,c,rfl⟩ EL ?_)
 wp_delta
 refine jg (aei (T:="set") (v:=.ref a) (b:=true) ⟨_,c,rfl⟩ sub_set_self ?_);show wpAny _ A.in1 (typeOf (yE a) >>= _) _ _ _;refine jg (RY (T:="set") (v:=.ref a) ⟨_,c,rfl⟩ ?_);refine kn ?_;show wpAny _ A.in1 (rule "list.extend.makes-room" >>= λ_=>Builtin.List.listTouch (.ref s.heap.objs.size) >>= λ_ =>
   again (.builtin "list.extend.loop" ⟨[.ref s.heap.objs.size,.ref g.objs.size,.ref s.heap.objs.size],[]⟩)) _ _ _
 refine jg (yn ?_);have x:(g.push (L7 0 0 a R.size i)).get? s.heap.objs.size=some { cls:=.type "list",data:=.seq ([]:List Value).toArray }:=mn _ (r ▸ n3 _ rfl);refine jg ?_
 show wpAny _ A.in1 (updateSeq s.heap.objs.size (·.push .none) >>= λ_=>updateSeq s.heap.objs.size (·.pop)) _ _ _
 refine jg (afR x rfl ?_)
 have y:=HT (EI (·.push xa)) x rfl
 refine afR y rfl ?_
 have Xz:=HT (EI (·.pop)) y rfl
 have dj:∀b o,b≠s.heap.objs.size->(g.push (L7 0 0 a R.size i)).get? b=some o ->
     (((g.push (L7 0 0 a R.size i)).update s.heap.objs.size (EI (·.push xa))).update s.heap.objs.size (EI (·.pop))).get? b=some o :=
   λb o f e=>(Yg _ _ (ta f)).trans ((Yg _ _ (ta f)).trans e)
 have XA:a≠g.objs.size:=by rw[w];exact oZ (H9 z)
 have p:g.objs.size≠s.heap.objs.size:=by rw[w];exact ahk _
 have yf:s.heap.objs.size ∉ [g.objs.size,a]:=by simp only[l2,A9,or_false,not_or];exact⟨ta p,ok⟩
 refine kn ⟨YD F.plain_extend_loop _,codeAny_extend_loopS (walks W (I:=g.objs.size) (A:=A.in1) (by simp[hh]) XA).toS K _ yf _ R.size 0 _ _ _ rfl (rb _)
   ⟨⟨0,W.zero,dj _ _ p (n3 _ rfl)⟩,dj _ _ (ta ok) c⟩ Xz (ItemsOf.nil _) λO q c' hm U Z=>?_⟩
 show wpAny _ A (load s.heap.objs.size >>= _) _ _ O;refine jg (wpAny_load U ?_);have U3:q.toList=Y:=by
   apply Zy;intro j;by_cases hj:j<q.size
   . have:=Z.2 j q[j] (F7 hj)
     rw[this,adn,F7 hj]
   . have e1:=Z.1
     rw[OF (by simp;lia),OF (by rw[W.len];lia)]
 refine kn ?_;rw[U3];obtain⟨n,g',d',tG,BL⟩:=O;have eg:g'=s.gens:=hm.gens;have ed:d'=s.drawn:=hm.drawn;have eo:BL=s.os:=hm.os;subst eg;subst ed;subst eo;refine J n tG (mA U) λb o e=>?_;have R_:=mA e;have nb:b≠s.heap.objs.size:=oZ R_;have XB:b≠g.objs.size:=by rw[w];exact oZ (H9 R_)
 refine hm.heap b o (λf=>?_) (dj b o nb (mn _ (r ▸ mn _ e)));rcases l2.mp f with h|h
 . exact nb h
 . exact XB (ae2.mp h)
end
noncomputable def tb (P:List Nat)(led:Bool):Rr:={ mask:=7,place:=P.toArray,dummies:=#[],finger:=0,led:=led,moves:=0,plain:=true }
end
section
variable {Z:Array Nat}
noncomputable def qo (c:Array Nat):Prop:=c.toList.Pairwise (· < ·)
def qp (h:qo Z)(b:j<Z.size)(a:i<j):Z[i]'(by lia)<Z[j]:=by have:=(List.pairwise_iff_getElem.mp h) i j (by simpa using afD a b) (by simpa using b) a;simpa using this
theorem pK {q:Array Nat}(h:qo q){j:Nat}:∀(g p n:Nat),p<=n->n<=q.size->n-p<=g->(∀i (hz:i<q.size),i<p->q[i]< j)->(∀i (hz:i<q.size),n<=i->j<=q[i]) ->
  p<=adk q j g p n/\adk q j g p n<=n/\(∀i (hz:i<q.size),i<adk q j g p n->q[i]< j)/\(∀i (hz:i<q.size),adk q j g p n<=i->j<=q[i])
 | 0,p,n,h1,h2,x,r,u=>by
  have:p=n:=by lia
  subst this;exact⟨lb _,lb _,r,u⟩
 |g+1,p,n,h1,h2,x,r,u=>by
  unfold adk;by_cases v:p<n
  . rw[if_pos v]
    dsimp only;have hm:(p+n) / 2<q.size:=by lia
    have l:q.getD ((p+n) / 2) j=q[(p+n) / 2]:=by simp[hm]
    rw[l];split
    . rename_i f
      obtain⟨a,b,c,d⟩:=pK h g ((p+n) / 2+1) n (by lia) h2 (by lia) (λi k o=>by
       by_cases e:i=(p+n) / 2
       . subst e;exact f
       . exact afD (qp h hm (by lia)) f) u
      exact⟨by lia,b,c,d⟩
    . rename_i f
      obtain⟨a,b,c,d⟩:=pK h g p ((p+n) / 2) (by lia) (by lia) (by lia) r (λi k y=>by
       by_cases e:i=(p+n) / 2
       . subst e;lia
       . have:=qp h k (show(p+n) / 2<i by lia)
         lia)
      exact⟨a,by lia,c,d⟩
  . rw[if_neg v]
    have:p=n:=by lia
    subst this;exact⟨lb _,lb _,r,u⟩
def lZ (h:qo Z)(j:Nat):oW Z j<=Z.size/\(∀i (g:i<Z.size),i<oW Z j->Z[i]< j)/\(∀i (p:i<Z.size),oW Z j<=i->j<=Z[i]):=by obtain⟨_,a,b,c⟩:=pK h (j:=j) Z.size 0 Z.size (rb _) (lb _) (by lia) (λi g e=>by lia) (λi g n=>by lia);exact⟨a,b,c⟩
def B0 (h:qo Z)(j:Nat):(Z[oW Z j]? == some j)=true ↔ j∈Z:=by
 obtain⟨a,b,c⟩:=lZ h j;rw[beq_iff_eq];constructor
 . intro e
   exact aer e
 . intro hm
   obtain⟨i,k,e⟩:=Array.mem_iff_getElem.mp hm;have r:¬i<oW Z j:=λf=>by have:=b i k f;lia
   have q:¬oW Z j<i:=λf=>by
    have o:oW Z j<Z.size:=by lia
    have:=c _ o (lb _);have:=qp h k f;lia
   have l:oW Z j=i:=by lia
   rw[l,F7 k,e]
structure l5 (t:Rr)(n:Nat):Prop where
 dm:t.dummies = #[]
 pl:t.plain=true
 sz:t.place.size=n
 ri:qo t.place
 le:∀j∈t.place,j<=t.mask
 mx:t.mask=7
 n4:n<=4
theorem l5.fits (h:l5 t n):t.fits n=true:=by
 have hd:t.dummies.size=0:=by rw[h.dm];rfl
 have a:=h.sz;have hm:=h.mx;have b:=h.n4;unfold aik agx;simp only[la,beq_iff_eq,decide_eq_true_eq];exact⟨a,by lia⟩
theorem l5.slot (h:l5 t n)(j:Nat):(j ∉ t.place->t.slot j = .empty)/\(j∈t.place->∃i,t.slot j = .live i):=by
 have a:=B0 h.ri j;unfold SetTable.slot;dsimp only;constructor
 . intro b
   have:(t.place[oW t.place j]? == some j)=false:=by
    cases e:(t.place[oW t.place j]? == some j)with
    |false=>rfl|true=>exact absurd (a.mp e) b
   rw[this,h.dm];have c:afE #[] j=false:=by simp[afE]
   rw[c];rfl
 . intro hm
   rw[a.mpr hm];exact⟨_,rfl⟩
def IX (T:l5 t n)(h:i<=7)(f:i ∉ t.place):t.freeSlot (i:Int)=some (i,false):=by
 have b:∀i:Nat,i<=7->ail (i:Int) % 8=i:=by decide
 have c:(t.probeStart (i:Int)).j=i:=by show ail (i:Int) % (t.mask+1)=i;rw[T.mx];exact b i h
 have e:(t.probeStart (i:Int)).dummy=none:=rfl;have a:10*agb t.mask=10*agb t.mask-1+1:=by unfold agb;lia
 unfold SetTable.freeSlot SetTable.probe;rw[a];unfold SetTable.probe.go;rw[c,(T.slot i).1 f];dsimp only;rw[e];rfl
def vC {a:Type}(c:Array a)(p:Nat)(x:a):(PU c p x).toList=c.toList.take p++x::c.toList.drop p:=by unfold PU;simp;exact Gw (by simp)
def jU {a:Type}(c:Array a)(p:Nat)(x:a):(PU c p x).toList.Perm (x::c.toList):=by rw[vC];refine List.perm_middle.trans ?_;rw[List.take_append_drop]
def IY (h:qo Z)(s:j ∉ Z):qo (PU Z (oW Z j) j):=by
 obtain⟨a,b,c⟩:=lZ h j;unfold qo;rw[vC,List.pairwise_append];have g:∀x∈Z.toList.take (oW Z j),x<j:=λx k=>by obtain⟨i,f,e⟩:=NX.mp k;rw[yX]at f;rw[ag2]at e;have:=b i (by simp at f;lia) (by lia);rw[<- e];simpa using this
 have f:∀x∈Z.toList.drop (oW Z j),j<x:=λx k=>by
   obtain⟨i,f,e⟩:=NX.mp k;rw[aeh]at f;rw[List.getElem_drop]at e;have o:oW Z j+i<Z.size:=by simp at f;lia
   have r:=c _ o (by lia);have q:Z[oW Z j+i]=x:=by simpa using e
   have:x≠j:=λz=>s (by rw[<- z,<- q];exact afg o);lia
 refine⟨h.sublist (aff _ _),List.pairwise_cons.mpr ⟨f,h.sublist (List.drop_sublist _ _)⟩,λx k y l=>?_⟩;rcases l2.mp l with rfl|l
 . exact g x k
 . exact afD (g x k) (f y l)
structure Ab (t:Rr)(n:Nat):Prop where
 dm:t.dummies = #[]
 pl:t.plain=true
 sz:t.place.size=n
 ri:qo t.place
 le:∀j∈t.place,j<=t.mask
theorem Ab.fits (h:Ab t n)(b:n<=t.mask):t.fits n=true:=by
 have hd:t.dummies.size=0:=by rw[h.dm];rfl
 have a:=h.sz;unfold aik agx;simp only[la,beq_iff_eq,decide_eq_true_eq];exact⟨a,by lia⟩
def L8 (T:l5 t n){es:Array (Int×Value)}(l:es.size=n)(f:j<=7)(h:j ∉ t.place)(x:Value):∃p g,layNew t es (j:Int) x=(p,g,false,false)/\Ab g (n+1)/\g.mask=t.mask/\g.led=t.led/\p.toList.Perm (((j:Int),x)::es.toList)/\p.size=n+1 /\ ∀i∈g.place,i=j\/i∈t.place:=by
 have e:=IX T f h;have hm:j<=t.mask:=by rw[T.mx];exact f
 have hd:afE #[] j=false:=by simp[afE]
 have a:(PU es (oW t.place j) ((j:Int),x)).size=n+1:=by have:=(jU es (oW t.place j) ((j:Int),x)).length_eq;simp at this;lia
 have P:Ab { t with place:=PU t.place (oW t.place j) j,dummies:=t.dummies } (n+1):=by
  refine⟨T.dm,T.pl,?_,IY T.ri h,λk f=>?_⟩
  . have:=(jU t.place (oW t.place j) j).length_eq
    have:=T.sz;simp at *;lia
  . have:=(jU t.place (oW t.place j) j).mem_iff.mp (by simpa using f)
    rcases l2.mp this with rfl|h'
    . exact hm
    . exact T.le k (by simpa using h')
 have b:t.put j=({ t with place:=PU t.place (oW t.place j) j,dummies:=t.dummies },oW t.place j):=by unfold SetTable.put;dsimp only;rw[T.dm,hd];rfl
 have hf:=P.fits (by show n+1<=t.mask;have:=T.mx;have:=T.n4;lia)
 refine⟨PU es (oW t.place j) ((j:Int),x),_,?_,P,rfl,rfl,jU _ _ _,a,λi c=>l2.mp ((jU t.place (oW t.place j) j).mem_iff.mp (by simpa using c)) |>.imp id (by simp)⟩;unfold layNew;rw[e];dsimp only;rw[b];dsimp only;rw[a,hf];unfold SetTable.orStandIn;rw[hf];rfl
end
section
open PyProof.Rows
variable {c:Expr}{a:Bool}{R:List Stmt}{p r:Pos}{K:Env}{C:Value->Value->Sem Value}{w:Bool->Hp->Prop}{t:Stmt}{n:List (Str×Addr)}{m:VK}{l:Int->Int->Bool}{j:u9}{h:List V}{g:HO}{d:CmpOp}{t':TE}{use:Option (Value->Sem Unit)}
noncomputable def nG (p:Int×Nat):Int×Value:=(Zb p.1,.int p.1 p.2)
noncomputable def iK (h:Heap)(a:Addr)(c:Bool)(i:List Int):Prop :=
 ∃(g:Array (Int×Value)) (n:Nat) (t:Rr) (l:List (Int×Nat)),h.get? a=some (iu g n t)/\l5 t g.size/\t.led=c/\g.toList.Perm (l.map nG)/\l.map (·.1)=i /\ ∀j∈t.place,((j:Nat):Int)∈i
noncomputable def jV (c:List Int)(k:Int):List Int:=if k∈c then c else c ++ [k]
section
def elems {prog:p9}{w:World}{c:Array (Int×Value)}{l:List (Int×Nat)}(b:c.toList.Perm (l.map nG)):ElemsOf (GD prog w) c.toList:=by intro e g;have:=b.mem_iff.mp g;rw[mM]at this;obtain⟨p,hm,rfl⟩:=this;exact⟨⟨p.1,by simp[nG,GD,aeR],rfl⟩,rfl⟩
set_option maxHeartbeats 2000000 in
def IZ {prog:p9}{w:World}{g:Addr}{k:Int}{Q:Bool->j0->Prop}(C:iK s.heap g a y)(I:y.length<=3\/k∈y)(H:0<=k/\k<=7)(B:∀b h',L1 g s.heap h'->iK h' g a (jV y k)->Q b { s with heap:=h' }):wpAny (model prog w) O (setAddHashed g (.int k i) (Zb k)) Q E s:=by
 obtain⟨es,R,t,l,z,T,rN,v,A,eX⟩:=id C;have Sa:=elems (prog:=prog) (w:=w) v;have hf:t.fits es.size=true:=T.fits;have GF:es.size<=4:=T.n4;have hb:es.size<scanBound:=by unfold scanBound;lia
 have U4:(GD prog w).is k (.int k i)=true:=by simp[GD,aeR]
 unfold setAddHashed setAddHashedIn;refine sZ (jg (adi z rfl hf ?_));dsimp only;rw[byScan_of (knd:=GD prog w) (x:=.int k i) rfl hb Sa];simp only[↓reduceIte];unfold setAddByScan;refine jg ?_;refine jg (yn ?_);refine jg (wpAny_setScan_of (knd:=GD prog w) (k:=k) U4 z rfl hf Sa ?_);cases hr:List.findIdx? (λe=>(GD prog w).is k e.2) es.toList with
 |some j =>
  dsimp only;obtain⟨hj,U,_⟩:=aea.mp hr;have Y:k∈y:=by
    have:=v.mem_iff.mp (p6 hj);rw[mM]at this;obtain⟨p,hm,e⟩:=this;rw[<- e]at U;have XD:k=p.1:=by simp[nG,GD,aeR]at U;first|exact U|exact U.symm
    rw[XD,<- A];exact Cm hm
  refine kn (kn ?_);have hd:jV y k=y:=by unfold jV;rw[if_pos Y]
  have e:s={ s with heap:=s.heap }:=by cases s;rfl
  rw[e];exact B _ s.heap (Heap.SameBut.refl g s.heap) (by rw[hd];exact C)
 |none =>
  dsimp only;have Z:¬k∈y:=by intro Y;rw[<- A,mM]at Y;obtain⟨p,hm,e⟩:=Y;have qq:=v.mem_iff.mpr (Cm (f:=nG) hm);have:=List.findIdx?_eq_none_iff.mp hr _ qq;subst e;simp[nG,GD,aeR]at this
  have Z2:es.size<=3:=by
    have J:=v.length_eq;rcases I with h|h
    . have:l.length=y.length:=by rw[<- A];simp
      simp at J;lia
    . exact absurd h Z
  obtain⟨c,rfl⟩:∃n:Nat,k=n:=⟨k.toNat,(V5 H.1).symm⟩
  have hh:∀n:Nat,n<=7->Zb (n:Int)=n:=by decide
  have L9:c<=7:=by lia
  obtain⟨u,r,e1,P,jW,gS,yh,XE,U5⟩:=L8 T (es:=es) rfl L9 (λq=>Z (eX c q)) (.int (c:Int) i);rw[hh c L9,e1];dsimp only;refine jg (kn ?_);rw[P.pl];simp only[if_true];refine jg ?_;rw[hashByValue_scannable 8 (x:=.int (c:Int) i) rfl];refine kn ?_;refine jg (wpAny_storeSet_of z rfl ?_ (fits_of_scanBound (by unfold scanBound;lia)));have hg:(s.heap.update g (Obj.putSet u r)).get? g=some (iu u (R+1) r):=by have:=HT (Obj.putSet u r) z (by rw[putSet_of u r (o:=iu es R t) rfl];rfl);rw[putSet_of u r (o:=iu es R t) rfl]at this;exact this
  have tH:plainKind (.int (c:Int) i)=true:=rfl;have U6:u.toList.Perm ((l ++ [((c:Int),i)]).map nG):=by
    rw[Gn];have:nG ((c:Int),i)=((c:Int),.int (c:Int) i):=by unfold nG;rw[hh c L9]
    rw[List.map_singleton,this];refine yh.trans ((v.cons _).trans ?_);exact(List.perm_append_singleton _ _).symm
  have U7:(l ++ [((c:Int),i)]).map (·.1)=jV y (c:Int):=by unfold jV;rw[if_neg Z,<- A];simp
  have tI:r.fill=es.size+1:=by unfold agx;rw[P.sz,P.dm];rfl
  have XF:r.tooFull=false:=decide_eq_false (by rw[tI,jW];have:=T.mx;lia)
  simp only[tH,if_true,agc,afc,XF,pA,if_false];refine kn (kn (B true _ (OL s.heap g _) ?_));refine⟨u,R+1,r,l ++ [((c:Int),i)],hg,⟨P.dm,P.pl,by rw[P.sz,XE],P.ri,P.le,jW.trans T.mx,by lia⟩,by rw[gS,rN],U6,U7,λtok hi=>?_⟩;unfold jV;rw[if_neg Z,mF];rcases U5 tok hi with rfl|h
  . exact .inr qc
  . exact .inl (eX tok h)
end
noncomputable def emp (c:Bool):Obj:=iu #[] 0 (tb [] c)
def I0 (a:Value){Q₁:Value->j0->Prop}(h:Q₁ (.ref s.heap.objs.size) { s with heap:=s.heap.push (emp (!u.params.followText "set-order")) }):
  F2 (model k u) O (.call (.builtin "set.__new__") ⟨[.type "set",a],[]⟩) (wants Q₁ E) s:=by
 refine codeAny_of_tree ?_;show wpAny _ O.in1 (do afF "set.__new__" ⟨[.type "set",a],[]⟩;again (.builtin "set.__new__" ⟨[.type "set",a],[]⟩)) _ _ s;refine jg (aha (F.newCall_set_1 a) (kn ⟨YD F.plain_set_new _,Sl F.entry_set_new ?_⟩));rw[TZ F.plain_set_new _];unfold sk.«set.__new__» ain;have c:=sub_set_self;obtain⟨e,g,d,b,os⟩:=s;dsimp only
 wp_walk
 refine Vu (kn ?_);dsimp only;simp only[newObj];refine jg (ahb (kn ?_));exact kn h
noncomputable def zs (c:List Nat):List Int:=c.map λ(k:Nat)=>(k:Int)
def tJ {r:List Value}(i:Y.Perm r):∀{g:List Int},xo r g->∃p,xo Y p/\p.Perm g:=by
 induction i with
 |nil=>intro g h;exact⟨g,h,ahX _⟩
 |cons x _ v =>
  intro g h;cases h with
  |cons n t q =>
   obtain⟨p,b,a⟩:=v q;exact⟨n::p,.cons _ _ b,a.cons n⟩
 |swap x y l =>
  intro g h;cases h with
  |cons n t q =>
   cases q with
   |cons m u B=>exact⟨m::n::_,.cons _ _ (.cons _ _ B),ahV _ _ _⟩
 |trans _ _ L_ C =>
  intro g h;obtain⟨p,b,a⟩:=C h;obtain⟨c,e,f⟩:=L_ b;exact⟨c,e,f.trans a⟩
set_option genInjectivity true in
inductive D where
 |ay|bl (b:Bool)|int (i:Int)|str (x:Str)|tup (xs:List D)|lst (xs:List D)|eI|ref (n:Nat)|bq (n:Nat)|fn (x:Str) (ds:List D)
structure KW where
 fr:mW
 w:World
 mg:Str->Option Value
 lx:Lx
instance:Coe KW mW:=⟨KW.fr⟩
noncomputable abbrev Cx.kw (X:Cx):KW:=⟨X.K,X.w,X.mg,X.lx⟩
noncomputable abbrev G:=List (List D)
noncomputable abbrev Sg:=List (Option D)
structure Ix where
 ix:List Addr
 hd:List Addr
 kd:Nat->Nat
noncomputable def kb:Nat->Bool
 | 0=>false|_+1=>true
noncomputable def eE (c:Ix)(n:Nat)(a:Addr)(b:Bool):Prop:=c.ix[n]? = some a/\kb (c.kd n)=b
noncomputable def Ix.more (c:Ix)(p:Addr)(b:Nat):Ix:=⟨c.ix ++ [p],c.hd,λi=>if i=c.ix.length then b else c.kd i⟩
mutual
noncomputable def aO:Nat->D->Bool
 |_,.ay=>true|_,.int _=>true|_,.str _=>true|n+1,.tup c=>jX n c|_,_=>false
noncomputable def jX:Nat->List D->Bool
 |_,[]=>true|n,d::ds=>aO n d&&jX n ds
end
mutual
noncomputable def hD (w:World):D->Int
 |.int i=>Zb i|.str x=>hashStr w x|.ay=>reduceHash 0xFCA86420|.tup c=>reduceHash (afp (B2 w c))|_=>0
noncomputable def B2 (w:World):List D->List Int
 | []=>[]|d::ds=>hD w d::B2 w ds
end
noncomputable def dO (a:Addr)(g:List qb)(c:Nat):HO:=.ext λh=>h.get? a=some { cls:=.type "dict",data:=.dict g.toArray (g.length-c) }
noncomputable def qu:List qb->List Value
 | []=>[]|e::c=>e.key::e.val::qu c
noncomputable def cO:List D->List D
 |k::_::r=>k::cO r|_=>[]
inductive jY (w:World):List D->List qb->Prop
 |nil:jY w [] []
 |cons {k v:D} {r:List D} {e:qb} {es:List qb}:aO 6 k=true->e.hash=hD w k->jY w r es->jY w (k::v::r) (e::es)
inductive OV (K:KW)(a:Addr)(xs:List D):Nat->HO->List V->Prop
 |l (vs:List V):OV K a xs 0 (.lst vs) vs
 |d (c:Nat) (es:List qb) (vs:List V):c<=es.length->Vals vs (qu es)->jY K.w xs es->(cO xs).Nodup->(a == NV)=false->es.length<=lX->OV K a xs (c+1) (dO a es c) vs
noncomputable def mT (K:KW)(H:Hp)(g:Ix)(a:Addr)(h:List V):Prop :=
 (Rd H a (.lst h)/\a ∉ g.ix/\a ∉ g.hd) \/
  ∃(o:Obj) (c:Array Value) (n:Nat),K.fr.lookup a=some o/\o.cls = .type "list" /\ o.dict=none/\o.data = .seq c n/\c.size<=lX/\Vals h c.toList
def mT.sq {K H ι a xs}(h:mT K H ι a xs):dD K H a xs:=by
 rcases h with⟨h,_⟩|h
 . exact .inl h
 . exact .inr h
noncomputable def pd (K:KW)(H:Hp)(h:Ix)(a:Addr)(g:List V):Prop :=
 (Rd H a (.tup g)/\a ∉ h.ix) \/
  ∃(o:Obj) (c:Array Value) (n:Nat),K.fr.lookup a=some o/\o.cls = .type "tuple" /\ o.dict=none/\o.data = .seq c n/\c.size<=lX/\Vals g c.toList
def pd.sq {K H ι a xs}(h:pd K H ι a xs):fg K H a xs:=by
 rcases h with⟨h,_⟩|h
 . exact .inl h
 . exact .inr h
noncomputable def Sb:HO->Bool
 |.ext _=>true|_=>false
noncomputable def Xo (H:Hp)(c:Ix)(a:Addr)(u:HO):Prop:=H a=some u/\a ∉ c.ix/\(Sb u=true->a ∉ c.hd)
noncomputable def Ma:HO->Bool
 |.ext _=>true|.iq _=>true|_=>false
noncomputable abbrev oK (a:Addr)(o:Obj):HO:=.ext λh=>h.get? a=some o
inductive cS (H:Hp)(ι:Ix):List (Str×Addr)->List V->Prop
 |nil:cS H ι [] []
 |cons {y:Str} {c:Addr} {o:Obj} {u:Value} {v:V} {cl:List (Str×Addr)} {vs:List V} (x:Xo H ι c (oK c o)) (d:o.data = .cell (some u)) (r:kr v u) (t:cS H ι cl vs):cS H ι ((y,c)::cl) (v::vs)
inductive B3 (K:KW)(H:Hp)(ι:Ix)(x:Str)(a:Addr)(vs:List V):Prop
 |mk (l:d9) (c:Addr) (fT pm:Value) (cl:List (Str×Addr)) (hl:K.lx.lm x=some l) (hf:Xo H ι a (oK a (aeE "<lambda>" l.qual l.ar l.bd l.sc cl pm c fT))) (hc:Xo H ι c (.iq l.qual)) (hn:cl.map (·.1)=l.fv) (hd:(cl.map (·.2)).Nodup) (hv:cS H ι cl vs):B3 K H ι x a vs
noncomputable def GI (K:KW)(H:Hp)(g:Ix)(x:Str)(a:Addr)(c:List V):Prop:=(c = []/\K.lx.lm x=none/\K.mg x=some (.ref a))\/B3 K H g x a c
theorem cS.mono {H ι b a}(t:∀c u,Ma u=true->Xo H ι c u->Xo b a c u):∀{cl g},cS H ι cl g->cS b a cl g
 |_,_,.nil=>.nil|_,_,.cons x d r q=>.cons (t _ _ rfl x) d r (cS.mono t q)
theorem GI.mono {K H ι e b x a vs}(h:GI K H ι x a vs)(t:∀c u,Ma u=true->Xo H ι c u->Xo e b c u):GI K e b x a vs:=by
 rcases h with h|⟨l,c,fT,pm,cl,hl,hf,hc,hn,hd,hv⟩
 . exact .inl h
 . exact .inr ⟨l,c,fT,pm,cl,hl,t _ _ rfl hf,t _ _ rfl hc,hn,hd,hv.mono t⟩
mutual
noncomputable def Rel (K:KW)(H:Hp)(c:Ix):D->V->Prop
 |.ay,v=>v = .ay|.bl b,v=>v = .bl b|.int i,v=>v = .int i|.str x,v=>v = .str x|.tup h,v=>∃a g,v = .ref a/\pd K H c a g/\ak K H c h g|.lst h,v=>∃a g,v = .ref a/\mT K H c a g/\ak K H c h g|.eI,v=>∃a,v = .ref a/\H a=some (.dK [])/\a ∉ c.ix|.ref n,v=>∃a,v = .ref a/\eE c n a false|.bq n,v=>∃a,v = .ref a/\eE c n a true|.fn x ds,v=>∃a g,v = .ref a/\GI K H c x a g/\ak K H c ds g
noncomputable def ak (K:KW)(H:Hp)(c:Ix):List D->List V->Prop
 | [],g=>g = []|x::h,g=>∃v p,g=v::p/\Rel K H c x v/\ak K H c h p
end
structure Ext (H:Hp)(ι:Ix)(H':Hp)(ι':Ix):Prop where
 same:∀a o,H a=some o->a ∉ ι.ix->H' a=some o
 there:∀a,H a≠none->H' a≠none
 more:∃m,ι'.ix=ι.ix++m /\ ∀a∈m,H a=none
 cP:ι'.hd=ι.hd
 mU:∀i,i < ι.ix.length->ι'.kd i=ι.kd i
structure az (K:KW)(H:Hp)(ι:Ix)(g:G):Prop where
 nd:ι.ix.Nodup
 len:ι.ix.length=g.length
 cP:∀b∈ι.hd,b ∉ ι.ix/\H b≠none
 at_:∀(i:Nat) xs,g[i]? = some xs->∃a o vs,ι.ix[i]? = some a/\H a=some o/\OV K a xs (ι.kd i) o vs/\ak K H ι xs vs
 tb:∀q∈K.lx.tb,H q.1=some (.cE q.2.1 q.2.2)/\q.1 ∉ ι.ix
noncomputable def bO (K:KW)(H:Hp)(g:Ix)(a:Sg)(c:ko):Prop :=
 a.length=c.length /\ ∀(i:Nat) d,a[i]? = some (some d)->∃v,c[i]? = some (some v)/\Rel K H g d v
def Ext.refl {H ι}:Ext H ι H ι:=⟨λ_ _ h _=>h,λ_ h=>h,⟨[],by simp,λ_ h=>by simp at h⟩,rfl,λ_ _=>rfl⟩
def Ext.old {H ι i c}(a:Ext H ι i c)(h:H f=some g)(n:f ∉ ι.ix):f ∉ c.ix:=λz=>by
 obtain⟨e,b,p⟩:=a.more;rw[b]at z;rcases mF.mp z with z|z
 . exact n z
 . rw[p f z]at h;cases h
theorem Ext.trans {H ι s r u ι2}(a:Ext H ι s r)(b:Ext s r u ι2):Ext H ι u ι2:=by
 obtain⟨j,e,g⟩:=a.more;obtain⟨f,l,p⟩:=b.more;refine⟨λc o h n=>b.same c o (a.same c o h n) (a.old h n),λc h=>b.there c (a.there c h),⟨j++f,by rw[l,e,sP],λc z=>?_⟩,b.cP.trans a.cP,λi k=>(b.mU i (by rw[e,lN];lia)).trans (a.mU i k)⟩;rcases mF.mp z with z|z
 . exact g c z
 . cases q:H c with
   |none=>rfl|some o=>exact absurd (p c z) (a.there c (by rw[q];simp))
def Ext.at {H ι l k}(c:Ext H ι l k)(h:eE ι i f a):eE k i f a:=by obtain⟨j,b,_⟩:=c.more;have e:=(l8.mp h.1).1;refine⟨?_,by rw[c.mU i e];exact h.2⟩;rw[b,m5 e];exact h.1
def mT.ext {K H ι c b a xs}(e:Ext H ι c b)(h:mT K H ι a xs):mT K c b a xs:=by
 rcases h with⟨h|⟨o,h⟩,n,k⟩|h
 . exact .inl ⟨.inl (e.same _ _ h n),e.old h n,by rw[e.cP];exact k⟩
 . exact .inl ⟨.inr ⟨o,e.same _ _ h n⟩,e.old h n,by rw[e.cP];exact k⟩
 . exact .inr h
def Xo.ext {H ι b a c u}(e:Ext H ι b a)(h:Xo H ι c u):Xo b a c u:=⟨e.same _ _ h.1 h.2.1,e.old h.1 h.2.1,λy=>by rw[e.cP];exact h.2.2 y⟩
def pd.ext {K H ι c b a xs}(e:Ext H ι c b)(h:pd K H ι a xs):pd K c b a xs:=by
 rcases h with⟨h|⟨o,h⟩,n⟩|h
 . exact .inl ⟨.inl (e.same _ _ h n),e.old h n⟩
 . exact .inl ⟨.inr ⟨o,e.same _ _ h n⟩,e.old h n⟩
 . exact .inr h
mutual
theorem Rel.ext {K H ι l k}(e:Ext H ι l k):∀(d:D) {v:V},Rel K H ι d v->Rel K l k d v
 |.ay,v,h=>h|.bl _,v,h=>h|.int _,v,h=>h|.str _,v,h=>h|.tup p,v,h=>by simp only[Rel]at h ⊢;obtain⟨a,j,f,b,i⟩:=h;exact⟨a,j,f,b.ext e,ak.ext e p i⟩
 |.lst p,v,h=>by simp only[Rel]at h ⊢;obtain⟨a,j,f,b,i⟩:=h;exact⟨a,j,f,b.ext e,ak.ext e p i⟩
 |.eI,v,h=>by simp only[Rel]at h ⊢;obtain⟨a,f,b,i⟩:=h;exact⟨a,f,e.same _ _ b i,e.old b i⟩
 |.ref n,v,h=>by simp only[Rel]at h ⊢;obtain⟨a,f,b⟩:=h;exact⟨a,f,e.at b⟩
 |.bq n,v,h=>by simp only[Rel]at h ⊢;obtain⟨a,f,b⟩:=h;exact⟨a,f,e.at b⟩
 |.fn x ds,v,h=>by simp only[Rel]at h ⊢;obtain⟨a,j,f,b,i⟩:=h;exact⟨a,j,f,b.mono λc u z q=>q.ext e,ak.ext e ds i⟩
theorem ak.ext {K H ι j i}(e:Ext H ι j i):∀(ds:List D) {g:List V},ak K H ι ds g->ak K j i ds g
 | [],g,h=>h|d::ds,g,h=>by simp only[ak]at h ⊢;obtain⟨v,f,a,c,b⟩:=h;exact⟨v,f,a,Rel.ext e d c,ak.ext e ds b⟩
end
theorem bO.ext {K H ι j c f σ}(e:Ext H ι j c)(h:bO K H ι f σ):bO K j c f σ :=
 ⟨h.1,λi d q=>let⟨v,a,b⟩:=h.2 i d q;⟨v,a,Rel.ext e d b⟩⟩
theorem ak.length {K H ι}:∀{ds:List D} {c:List V},ak K H ι ds c->ds.length=c.length
 | [],c,h=>by cases h;rfl|d::ds,c,h=>by obtain⟨v,b,rfl,_,a⟩:=h;simp[ak.length a]
theorem ak.append {K H ι}:∀{ds g:List D} {i n:List V},ak K H ι ds i->ak K H ι g n->ak K H ι (ds++g) (i++n)
 | [],g,i,n,h,k=>by cases h;exact k|d::ds,g,i,n,h,k=>by obtain⟨v,c,rfl,a,b⟩:=h;simp only[List.cons_append,ak];exact⟨v,_,rfl,a,ak.append b k⟩
theorem ak.get {K H ι}:∀{ds:List D} {g:List V} {i:Nat} {d:D},ak K H ι ds g->ds[i]? = some d->∃v,g[i]? = some v/\Rel K H ι d v
 | [],_,_,_,_,e=>by simp at e|x::ds,g,0,d,h,e=>by obtain⟨v,j,rfl,a,b⟩:=h;simp at e;subst e;exact⟨v,rfl,a⟩
 |x::ds,g,i+1,d,h,e=>by obtain⟨v,j,rfl,a,b⟩:=h;obtain⟨u,f,c⟩:=ak.get (i:=i) b (by simpa using e);exact⟨u,by simpa using f,c⟩
theorem ak.set {K H ι d v}(c:Rel K H ι d v):∀{ds:List D} {g:List V} (i:Nat),ak K H ι ds g->ak K H ι (ds.set i d) (g.set i v)
 | [],_,_,h=>by cases h;simp[ak]|x::ds,g,0,h=>by obtain⟨u,b,rfl,hu,a⟩:=h;simp only[ae3,ak];exact⟨v,b,rfl,c,a⟩
 |x::ds,g,i+1,h=>by obtain⟨u,b,rfl,hu,a⟩:=h;simp only[ae4,ak];exact⟨u,_,rfl,hu,ak.set c i a⟩
theorem ak.take {K H ι}:∀{ds:List D} {c:List V} (n:Nat),ak K H ι ds c->ak K H ι (ds.take n) (c.take n)
 |_,_,0,_=>by simp[ak]| [],_,n+1,h=>by cases h;simp[ak]|x::ds,c,n+1,h=>by obtain⟨u,b,rfl,hu,a⟩:=h;simp only[agA,ak];exact⟨u,_,rfl,hu,ak.take n a⟩
theorem ak.drop {K H ι}:∀{ds:List D} {c:List V} (n:Nat),ak K H ι ds c->ak K H ι (ds.drop n) (c.drop n)
 |_,_,0,h=>h| [],_,n+1,h=>by cases h;simp[ak]|x::ds,c,n+1,h=>by obtain⟨u,b,rfl,hu,a⟩:=h;simp only[List.drop_succ_cons];exact ak.drop n a
theorem az.at {K H p g}(h:az K H p g){n:Nat}{u:List D}{a:Addr}(e:g[n]? = some u)(q:eE p n a false):∃r,H a=some (.lst r)/\ak K H p u r:=by
 obtain⟨b,o,r,c,j,f,i⟩:=h.at_ n u e;rw[q.1]at c;cases c;have c:=q.2;generalize p.kd n=k at f c;cases f with
 |l=>exact⟨r,j,i⟩|d=>cases c
def az.yi {K H u g}(h:az K H u g){v:List D}(e:g[i]? = some v)(r:eE u i f true):
  ∃p x c,H f=some (dO f p c)/\u.kd i=c+1/\c<=p.length/\Vals x (qu p)/\jY K.w v p/\(cO v).Nodup/\(f == NV)=false/\p.length<=lX/\ak K H u v x:=by
 obtain⟨b,o,x,a,q,n,j⟩:=h.at_ i v e;rw[r.1]at a;cases a;have a:=r.2;generalize u.kd i=k at n a;cases n with
 |l=>cases a|d c p x y B C E I J=>exact⟨p,x,c,q,rfl,y,B,C,E,I,J,j⟩
def az.ky {K H ι g}(h:az K H ι g)(o:f∈ι.ix):H f≠none:=by
 obtain⟨i,a,e⟩:=NX.mp o;have j:i<g.length:=by rw[<- h.len];exact a
 obtain⟨b,_,l,c,k,_⟩:=h.at_ i _ (lC j);rw[lC a,e]at c;cases c;rw[k];simp
def Ext.lay {H ι p o}(b:H p=none):Ext H ι (upd H p o) ι :=
 ⟨λa u h _=>by rw[aF (aM h b)];exact h,λa h=>by
  by_cases e:a=p
  . subst e;exact absurd b h
  . rw[aF e];exact h,⟨[],by simp,λ_ h=>by simp at h⟩,rfl,λ_ _=>rfl⟩
theorem az.ext {K H n g v}(h:az K H n g)(e:Ext H n v n)(k:∀a∈n.ix,v a=H a):az K v n g :=
 ⟨h.nd,h.len,λb f=>⟨(h.cP b f).1,e.there b (h.cP b f).2⟩,λi p q=>by obtain⟨a,o,u,j,r,s,l⟩:=h.at_ i p q;exact⟨a,o,u,j,by rw[k a (qt j)];exact r,s,ak.ext e p l⟩,λq c=>⟨e.same _ _ (h.tb q c).1 (h.tb q c).2,(h.tb q c).2⟩⟩
theorem az.lay {K H ι g p o}(h:az K H ι g)(c:H p=none):az K (upd H p o) ι g :=
 h.ext (Ext.lay c) λa b=>aF λe=>by subst e;exact h.ky b c
def az.fresh {K H ι g p}(h:az K H ι g)(b:H p=none):p ∉ ι.ix:=λa=>h.ky a b
def az.ia {K H ι g p}(h:az K H ι g)(b:H p=none):p ∉ ι.hd:=λa=>(h.cP p a).2 b
def Ext.iY {H ι p o b}(h:H p=none):Ext H ι (upd H p o) (ι.more p b):=by have e:=Ext.lay (ι:=ι) (o:=o) h;refine⟨e.same,e.there,⟨[p],rfl,λa c=>by simp at c;subst c;exact h⟩,rfl,λi f=>?_⟩;show(if i=ι.ix.length then b else ι.kd i)=ι.kd i;rw[if_neg (by lia)]
def Ext.push {H ι p o}(a:H p=none):Ext H ι (upd H p o) (ι.more p 0):=Ext.iY a
theorem az.iY {K H ι g p o xs vs b}(h:az K H ι g)(A:H p=none)(B:OV K p xs b o vs)(r:ak K H ι xs vs):az K (upd H p o) (ι.more p b) (g ++ [xs]):=by
 have I:=h.fresh A;refine⟨?_,by simp[Ix.more,h.len],λb c=>⟨λz=>?_,(Ext.iY (ι:=ι) (o:=o) (b:=0) A).there b (h.cP b c).2⟩,λi n q=>?_,λq f=>⟨by rw[aF (aM (h.tb q f).1 A)];exact(h.tb q f).1,λz=>(mF.mp z).elim (h.tb q f).2 λz=>aM (h.tb q f).1 A (by simpa using z)⟩⟩
 . show(ι.ix ++ [p]).Nodup
   rw[Qs];refine⟨h.nd,by simp,λa x b c=>?_⟩;simp at c;subst c;intro e;subst e;exact I x
 . rcases mF.mp z with z|z
   . exact(h.cP b c).1 z
   . simp at z;subst z;exact(h.cP _ c).2 A
 . by_cases C:i<g.length
   . rw[m5 C]at q
     obtain⟨a,l,E,h1,s,v,y⟩:=h.at_ i n q;refine⟨a,l,E,(by show(ι.ix ++ [p])[i]? = some a;rw[m5 (by rw[h.len];exact C)];exact h1),?_,?_,ak.ext (Ext.iY A) n y⟩
     . rw[aF (aM s A)];exact s
     . show OV K _ _ (if i=ι.ix.length then b else ι.kd i) l E
       rw[if_neg (by rw[h.len];lia)];exact v
   . rw[th (by lia)]at q
     have u:i-g.length=0:=by
       cases e:i-g.length with
       |zero=>rfl|succ k=>rw[e]at q;simp at q
     rw[u]at q;have e:xs=n:=by simpa using q
     subst e;have j:i=ι.ix.length:=by rw[h.len];lia
     refine⟨p,o,vs,?_,aQ,?_,ak.ext (Ext.iY A) xs r⟩
     . show(ι.ix ++ [p])[i]? = some p
       rw[j];simp
     . show OV K _ _ (if i=ι.ix.length then b else ι.kd i) o vs
       rw[if_pos j];exact B
def az.push {K H ι g p xs vs}(h:az K H ι g)(a:H p=none)(r:ak K H ι xs vs):az K (upd H p (.lst vs)) (ι.more p 0) (g ++ [xs]):=h.iY a (.l vs) r
def eE.new {c:Ix}(h:c.ix.length=o):eE (c.more f i) o f (kb i):=by subst h;exact⟨by show(c.ix ++ [f])[c.ix.length]? = some f;simp,by show kb (if c.ix.length=c.ix.length then i else c.kd c.ix.length)=kb i;rw[if_pos rfl]⟩
def Ext.put {H ι}{n o f}(c:eE ι i n a)(h:H n=some o):Ext H ι (upd H n f) ι :=
 ⟨λa o q g=>by rw[aF (λe=>g (by rw[e];exact qt c.1))];exact q,λa q=>by
  by_cases e:a=n
  . subst e;rw[aQ];simp
  . rw[aF e];exact q,⟨[],by simp,λ_ z=>by simp at z⟩,rfl,λ_ _=>rfl⟩
def az.Mb {K H ι g}{n o B xs E}(h:az K H ι g)(A:eE ι i n a)(C:H n=some o)(I:OV K n xs (ι.kd i) B E)(r:ak K H ι xs E):az K (upd H n B) ι (g.set i xs):=by
 refine⟨h.nd,by simp[h.len],λa f=>⟨(h.cP a f).1,(Ext.put A C).there a (h.cP a f).2⟩,λb k q=>?_,λq c=>⟨by rw[aF λz=>(h.tb q c).2 (by rw[z];exact qt A.1)];exact(h.tb q c).1,(h.tb q c).2⟩⟩;by_cases e:b=i
 . subst e
   have j:b<g.length:=by rw[<- h.len];exact(l8.mp A.1).1
   rw[ua j]at q;cases q;exact⟨n,B,E,A.1,aQ,I,ak.ext (Ext.put A C) _ r⟩
 . rw[Oc (ta e)]at q
   obtain⟨a,u,p,l,v,J,s⟩:=h.at_ b k q;refine⟨a,u,p,l,?_,J,ak.ext (Ext.put A C) k s⟩;rw[aF ?_]
   . exact v
   . intro z
     subst z;obtain⟨j,x⟩:=l8.mp l;obtain⟨O,y⟩:=l8.mp A.1;exact e ((afy h.nd).mp (x.trans y.symm))
def az.put {K H ι g}{a vs xs c}(h:az K H ι g)(f:eE ι i a false)(n:H a=some (.lst vs))(r:ak K H ι xs c):az K (upd H a (.lst c)) ι (g.set i xs):=h.Mb f n (by
 have b:=f.2;cases e:ι.kd i with
 |zero=>exact .l c|succ k=>rw[e]at b;cases b) r
noncomputable def Ix.hide (c:Ix)(p:Addr):Ix:=⟨c.ix,p::c.hd,c.kd⟩
mutual
theorem Rel.show {K H ι p}:∀(d:D) {v:V},Rel K H (Ix.hide ι p) d v->Rel K H ι d v
 |.ay,v,h=>h|.bl _,v,h=>h|.int _,v,h=>h|.str _,v,h=>h|.tup r,v,h=>by simp only[Rel]at h ⊢;obtain⟨a,e,b,i,f⟩:=h;exact⟨a,e,b,i,ak.show r f⟩
 |.lst r,v,h=>by
  simp only[Rel]at h ⊢;obtain⟨a,e,b,i,f⟩:=h;refine⟨a,e,b,?_,ak.show r f⟩;rcases i with⟨h,n,k⟩|h
  . exact .inl ⟨h,n,λz=>k (nW _ z)⟩
  . exact .inr h
 |.eI,v,h=>by simpa[Rel,Ix.hide]using h|.ref n,v,h=>by simpa[Rel,Ix.hide,eE]using h|.bq n,v,h=>by simpa[Rel,Ix.hide,eE]using h|.fn x ds,v,h=>by simp only[Rel]at h ⊢;obtain⟨a,e,b,i,f⟩:=h;exact⟨a,e,b,i.mono λc u z q=>⟨q.1,q.2.1,λy z=>q.2.2 y (nW _ z)⟩,ak.show ds f⟩
theorem ak.show {K H ι p}:∀(ds:List D) {g:List V},ak K H (Ix.hide ι p) ds g->ak K H ι ds g
 | [],g,h=>h|d::ds,g,h=>by simp only[ak]at h ⊢;obtain⟨v,e,a,c,b⟩:=h;exact⟨v,e,a,Rel.show d c,ak.show ds b⟩
end
mutual
theorem Rel.hide {K H ι p o}(j:H p=none):∀(d:D) {v:V},Rel K H ι d v->Rel K (upd H p o) (Ix.hide ι p) d v
 |.ay,v,h=>h|.bl _,v,h=>h|.int _,v,h=>h|.str _,v,h=>h
 |.tup r,v,h=>by
  simp only[Rel]at h ⊢;obtain⟨a,i,e,b,f⟩:=h;refine⟨a,i,e,?_,ak.hide j r f⟩;rcases b with⟨h|⟨u,h⟩,n⟩|h
  . exact .inl ⟨.inl (by rw[aF (aM h j)];exact h),n⟩
  . exact .inl ⟨.inr ⟨u,by rw[aF (aM h j)];exact h⟩,n⟩
  . exact .inr h
 |.lst r,v,h=>by
  simp only[Rel]at h ⊢;obtain⟨a,i,e,b,f⟩:=h;refine⟨a,i,e,?_,ak.hide j r f⟩;have out:∀{u:HO},H a=some u->a ∉ ι.hd->a ∉ (Ix.hide ι p).hd:=λh k z=>by
    rcases l2.mp z with z|z
    . exact aM h j z
    . exact k z
  rcases b with⟨h|⟨u,h⟩,n,k⟩|h
  . exact .inl ⟨.inl (by rw[aF (aM h j)];exact h),n,out h k⟩
  . exact .inl ⟨.inr ⟨u,by rw[aF (aM h j)];exact h⟩,n,out h k⟩
  . exact .inr h
 |.eI,v,h=>by simp only[Rel]at h ⊢;obtain⟨a,e,b,f⟩:=h;exact⟨a,e,by rw[aF (aM b j)];exact b,f⟩
 |.ref n,v,h=>by simpa[Rel,Ix.hide,eE]using h|.bq n,v,h=>by simpa[Rel,Ix.hide,eE]using h|.fn x ds,v,h=>by simp only[Rel]at h ⊢;obtain⟨a,i,e,b,f⟩:=h;exact⟨a,i,e,b.mono λc u z q=>⟨by rw[aF (aM q.1 j)];exact q.1,q.2.1,λy z=>(l2.mp z).elim (aM q.1 j) (q.2.2 y)⟩,ak.hide j ds f⟩
theorem ak.hide {K H ι p o}(f:H p=none):∀(ds:List D) {g:List V},ak K H ι ds g->ak K (upd H p o) (Ix.hide ι p) ds g
 | [],g,h=>h|d::ds,g,h=>by simp only[ak]at h ⊢;obtain⟨v,e,a,c,b⟩:=h;exact⟨v,e,a,Rel.hide f d c,ak.hide f ds b⟩
end
mutual
theorem Rel.grow {K H ι p us l}(j:H p=some (.lst us)):∀(d:D) {v:V},Rel K H (Ix.hide ι p) d v->Rel K (upd H p (.lst l)) (Ix.hide ι p) d v
 |.ay,v,h=>h|.bl _,v,h=>h|.int _,v,h=>h|.str _,v,h=>h
 |.tup r,v,h=>by
  simp only[Rel]at h ⊢;obtain⟨a,i,e,b,f⟩:=h;refine⟨a,i,e,?_,ak.grow j r f⟩;rcases b with⟨h|⟨u,h⟩,n⟩|h
  . exact .inl ⟨.inl (by rw[aF (qd h j (by simp))];exact h),n⟩
  . exact .inl ⟨.inr ⟨u,by rw[aF (qd h j (by simp))];exact h⟩,n⟩
  . exact .inr h
 |.lst r,v,h=>by
  simp only[Rel]at h ⊢;obtain⟨a,i,e,b,f⟩:=h;refine⟨a,i,e,?_,ak.grow j r f⟩;rcases b with⟨h,n,k⟩|h
  . have ne:a≠p:=λz=>k (by rw[z];exact qc)
    rcases h with h|⟨u,h⟩
    . exact .inl ⟨.inl (by rw[aF ne];exact h),n,k⟩
    . exact .inl ⟨.inr ⟨u,by rw[aF ne];exact h⟩,n,k⟩
  . exact .inr h
 |.eI,v,h=>by simp only[Rel]at h ⊢;obtain⟨a,e,b,f⟩:=h;exact⟨a,e,by rw[aF (qd b j (by simp))];exact b,f⟩
 |.ref n,v,h=>by simpa[Rel,Ix.hide,eE]using h|.bq n,v,h=>by simpa[Rel,Ix.hide,eE]using h|.fn x ds,v,h=>by simp only[Rel]at h ⊢;obtain⟨a,i,e,b,f⟩:=h;exact⟨a,i,e,b.mono λc u z q=>⟨by rw[aF (qd q.1 j (λy=>by rw[y]at z;cases z))];exact q.1,q.2⟩,ak.grow j ds f⟩
theorem ak.grow {K H ι p us i}(f:H p=some (.lst us)):∀(ds:List D) {g:List V},ak K H (Ix.hide ι p) ds g->ak K (upd H p (.lst i)) (Ix.hide ι p) ds g
 | [],g,h=>h|d::ds,g,h=>by simp only[ak]at h ⊢;obtain⟨v,e,a,c,b⟩:=h;exact⟨v,e,a,Rel.grow f d c,ak.grow f ds b⟩
end
theorem az.hide {K H ι p o g}(u:H p=none)(h:az K H ι g):az K (upd H p o) (Ix.hide ι p) g :=
 ⟨h.nd,h.len,λb c=>by
  rcases l2.mp c with rfl|c
  . exact⟨h.fresh u,by rw[aQ];simp⟩
  . refine⟨(h.cP b c).1,?_⟩
    by_cases e:b=p
    . subst e;rw[aQ];simp
    . rw[aF e];exact(h.cP b c).2,λi n q=>by
  obtain⟨a,o,r,s,j,l,k⟩:=h.at_ i n q;exact⟨a,o,r,s,by rw[aF (aM j u)];exact j,l,ak.hide u n k⟩,λq f=>⟨by rw[aF (aM (h.tb q f).1 u)];exact(h.tb q f).1,(h.tb q f).2⟩⟩
theorem az.show {K H ι p g}(h:az K H (Ix.hide ι p) g):az K H ι g :=
 ⟨h.nd,h.len,λb e=>h.cP b (nW _ e),λi n q=>by obtain⟨a,o,k,l,f,j,c⟩:=h.at_ i n q;exact⟨a,o,k,l,f,j,ak.show n c⟩,h.tb⟩
theorem az.grow {K H ι p us v g}(u:H p=some (.lst us))(h:az K H (Ix.hide ι p) g):az K (upd H p (.lst v)) (Ix.hide ι p) g :=
 ⟨h.nd,h.len,λb f=>⟨(h.cP b f).1,by
   by_cases e:b=p
   . subst e;rw[aQ];simp
   . rw[aF e];exact(h.cP b f).2⟩,λi n q=>by
  obtain⟨a,o,s,j,l,r,k⟩:=h.at_ i n q;refine⟨a,o,s,j,?_,r,ak.grow u n k⟩;rw[aF (λe=>(h.cP p qc).1 (by rw[<- e];exact qt j))];exact l,λq c=>⟨by rw[aF (qd (h.tb q c).1 u (by simp))];exact(h.tb q c).1,(h.tb q c).2⟩⟩
noncomputable abbrev FE:=Sg->G->Option (D×G)
noncomputable abbrev FT:=Sg->G->Option (Bool×G)
noncomputable abbrev FA:=Sg->G->Option (List D×G)
noncomputable def fU (K:KW)(H:Hp)(h:Ix)(d:D)(i:G)(Q:VK):Prop:=∀g c v,Ext H h g c->az K g c i->Rel K g c d v->Q v g
noncomputable def Qk (K:KW)(H:Hp)(i:Ix)(ds:List D)(n:G)(Q:List V->Hp->Prop):Prop:=∀g c h,Ext H i g c->az K g c n->ak K g c ds h->Q h g
noncomputable def qv (K:KW)(H:Hp)(h:Ix)(i:G)(Q:Hp->Prop):Prop:=∀g c,Ext H h g c->az K g c i->Q g
inductive tD (K:KW)(f:FE)(σ:ko)(H:Hp)(Q:VK):Prop
 |mk (ι:Ix) (σd:Sg) (g:G) (d:D) (g':G) (h0:az K H ι g) (h1:bO K H ι σd σ) (h2:f σd g=some (d,g')) (h3:fU K H ι d g' Q):tD K f σ H Q
inductive iz (K:KW)(f:FA)(σ:ko)(H:Hp)(Q:(List V->Hp->Prop)):Prop
 |mk (ι:Ix) (σd:Sg) (g:G) (d:List D) (g':G) (h0:az K H ι g) (h1:bO K H ι σd σ) (h2:f σd g=some (d,g')) (h3:Qk K H ι d g' Q):iz K f σ H Q
inductive k6 (K:KW)(f:FT)(σ:ko)(H:Hp)(Q:(Bool->Hp->Prop)):Prop
 |mk (ι:Ix) (σd:Sg) (g:G) (b:Bool) (g':G) (h0:az K H ι g) (h1:bO K H ι σd σ) (h2:f σd g=some (b,g')) (h3:qv K H ι g' (Q b)):k6 K f σ H Q
structure DE (X:Cx)(e:Expr)(f:FE):Prop where of ::
 un:PE X e (tD X.kw f)
structure DA (X:Cx)(es:List Expr)(f:FA):Prop where of ::
 un:PA X es (iz X.kw f)
structure DT (X:Cx)(e:Expr)(f:FT):Prop where of ::
 un:PT X e (k6 X.kw f)
structure DW (X:Cx)(e:Expr)(f:FT):Prop where of ::
 un:PW X e (k6 X.kw f)
def PE.imp {t:TE}(h:PE X e t)(i:∀c H Q,t' c H Q->t c H Q):PE X e t':=λg s c H Q I q=>h g s c H Q I (i c H Q q)
def PT.imp {t t':TT}(h:PT X e t)(i:∀c H Q,t' c H Q->t c H Q):PT X e t':=λg s c H Q I q=>h g s c H Q I (i c H Q q)
def PW.imp {t t':TT}(h:PW X e t)(i:∀c H Q,t' c H Q->t c H Q):PW X e t':=λw g s c H Q I q=>h w g s c H Q I (i c H Q q)
def PA.imp {t t':TA}(h:PA X B t)(i:∀c H Q,t' c H Q->t c H Q):PA X B t':=λpos g s c H Q I q=>h pos g s c H Q I (i c H Q q)
def fU.mono {K H ι h f d g' Q}(e:Ext H ι h f)(p:fU K H ι d g' Q):fU K h f d g' Q:=λc a v b r q=>p c a v (e.trans b) r q
def qv.mono {K H ι h f g' Q}(e:Ext H ι h f)(p:qv K H ι g' Q):qv K h f g' Q:=λa b c r=>p a b (e.trans c) r
def tD.bind {K f}{ι c g d g'}(G0:az K H ι g)(i:bO K H ι c v)(h:f c g=some (d,g'))(k:∀p n u,Ext H ι p n->az K p n g'->bO K p n c v->Rel K p n d u->m u p):tD K f v H m :=
 ⟨ι,c,g,d,g',G0,i,h,λb a u e r q=>k b a u e r (i.ext e) q⟩
def iz.bind {K f}{Q:List V->Hp->Prop}{ι c g d g'}(G0:az K H ι g)(i:bO K H ι c v)(h:f c g=some (d,g'))(k:∀p n u,Ext H ι p n->az K p n g'->bO K p n c v->ak K p n d u->Q u p):iz K f v H Q :=
 ⟨ι,c,g,d,g',G0,i,h,λb a u e r q=>k b a u e r (i.ext e) q⟩
def k6.bind {K f}{ι c g d g'}(G0:az K H ι g)(i:bO K H ι c v)(h:f c g=some (d,g'))(k:∀p n,Ext H ι p n->az K p n g'->bO K p n c v->w d p):k6 K f v H w :=
 ⟨ι,c,g,d,g',G0,i,h,λa b e r=>k a b e r (i.ext e)⟩
noncomputable def fC (d:D):FE:=λ_ g=>some (d,g)
noncomputable def af (i:Nat):FE:=λc g=>match c[i]? with|some (some d)=>some (d,g)|_=>none
noncomputable abbrev a5:=af 1
noncomputable abbrev a6:=af 0
noncomputable abbrev a7:=af 2
noncomputable abbrev ba:=fC (.int 1)
noncomputable abbrev bg:=af 3
noncomputable abbrev b0:=fC (.int 0)
noncomputable abbrev b4:=fC (.int 2)
noncomputable abbrev cJ:=af 4
noncomputable abbrev dV:=af 5
noncomputable abbrev d4:=af 6
noncomputable abbrev ee:=af 7
noncomputable abbrev ef:=af 13
noncomputable abbrev er:=fC .ay
noncomputable abbrev eu:=af 8
noncomputable abbrev ew:=af 9
noncomputable abbrev eL:=fC (.int 3)
noncomputable abbrev eM:=af 11
noncomputable abbrev eR:=fC (.str "told")
noncomputable abbrev eW:=fC (.str "own")
noncomputable abbrev fb:=af 10
noncomputable abbrev fc:=fC (.int 4)
noncomputable abbrev fe:=af 12
noncomputable abbrev fh:=fC (.str "handed")
noncomputable abbrev fk:=fC (.str "toggles")
noncomputable abbrev ft:=fC (.str "read")
noncomputable abbrev fy:=fC (.str "sign")
noncomputable abbrev gD:=fC (.str "view")
noncomputable abbrev gU:=fC (.str "shared")
noncomputable abbrev hI:=fC (.str "signs")
noncomputable abbrev hW:=fC (.int 10)
noncomputable abbrev hY:=fC (.str "moves")
noncomputable abbrev ir:=fC (.bl true)
noncomputable abbrev i2:=fC (.str "call")
noncomputable abbrev i3:=fC (.str "box")
noncomputable abbrev i_:=fC (.str "once")
noncomputable abbrev jc:=fC (.str "shakes")
noncomputable abbrev jd:=fC (.int 2305843009213693951)
def Mc {i j pos}:DE X (.Constant (.int i) j pos) (fC (.int i)):=.of (PE.imp K0 λq H Q h=>by obtain⟨n,c,g,d,a,G0,b,h,p⟩:=h;cases h;exact p H n _ Ext.refl G0 (by simp[Rel]))
def Md {i j pos}:DE X (.Constant (.str i) j pos) (fC (.str i)):=.of (PE.imp K2 λq H Q h=>by obtain⟨n,c,g,d,a,G0,b,h,p⟩:=h;cases h;exact p H n _ Ext.refl G0 (by simp[Rel]))
def Ql {i j pos}:DE X (.Constant (.bool i) j pos) (fC (.bl i)):=.of (PE.imp PX λq H Q h=>by obtain⟨n,c,g,d,a,G0,b,h,p⟩:=h;cases h;exact p H n _ Ext.refl G0 (by simp[Rel]))
def Me {j pos}:DE X (.Constant .none j pos) er:=.of (PE.imp K1 λn H Q h=>by obtain⟨i,c,g,d,a,G0,b,h,p⟩:=h;cases h;exact p H i _ Ext.refl G0 (by simp[Rel]))
def Mf (i:Nat)(k:X.N[i]? = some x)(o:Bt X.env.scope x)(l:(x == ("__debug__":Str))=false)(pos:(x == ("__classdict__":Str))=false):DE X (.Name x q) (af i):=.of (PE.imp (KZ k o l pos) λu H Q h=>by
 obtain⟨n,j,g,d,r,G0,f,h,p⟩:=h;unfold af at h;split at h
 . rename_i b e
   obtain⟨rfl,rfl⟩:b=d/\g=r:=by cases h;exact⟨rfl,rfl⟩
   obtain⟨v,c,a⟩:=f.2 i _ e;exact⟨v,c,p H n v Ext.refl G0 a⟩
 . cases h)
def I_ {v:V}{d:D}(j:Gl X x)(f:X.mg x=some Z)(r:kr v Z)(u:∀K H n,Rel K H n d v)(i:(x == ("__debug__":Str))=false):DE X (.Name x q) (fC d):=.of (
 PE.imp (rJ j f r i) λy H Q h=>by obtain⟨n,c,g,d,a,G0,b,h,p⟩:=h;cases h;exact p H n _ Ext.refl G0 (u _ _ _))
inductive dW (K:KW)(o:D->D->G->Option (D×G))(x:V)(y:V)(H:Hp)(Q:VK):Prop
 |mk (ι:Ix) (g:G) (d1:D) (d2:D) (d:D) (g':G) (h0:az K H ι g) (h1:Rel K H ι d1 x) (h2:Rel K H ι d2 y) (h3:o d1 d2 g=some (d,g')) (h4:fU K H ι d g' Q):dW K o x y H Q
inductive Mg (K:KW)(o:D->G->Option (D×G))(x:V)(H:Hp)(Q:VK):Prop
 |mk (ι:Ix) (g:G) (d1:D) (d:D) (g':G) (h0:az K H ι g) (h1:Rel K H ι d1 x) (h2:o d1 g=some (d,g')) (h3:fU K H ι d g' Q):Mg K o x H Q
inductive kA (K:KW)(o:List D->G->Option (D×G))(xs:List V)(H:Hp)(Q:VK):Prop
 |mk (ι:Ix) (g:G) (ds:List D) (d:D) (g':G) (h0:az K H ι g) (h1:ak K H ι ds xs) (h2:o ds g=some (d,g')) (h3:fU K H ι d g' Q):kA K o xs H Q
noncomputable def aj (o:D->D->G->Option (D×G))(fa h:FE):FE:=λc g=>(fa c g).bind λr=>(h c r.2).bind λq=>o r.1 q.1 q.2
noncomputable def pf (o:D->G->Option (D×G))(fa:FE):FE:=λc g=>(fa c g).bind λr=>o r.1 r.2
def bind_some {i j:Type}{x:Option i}{f:i->Option j}{b:j}(h:x.bind f=some b):∃a,x=some a/\f a=some b:=by
 cases x with
 |none=>cases h|some a=>exact⟨a,rfl,h⟩
def qw {fa:FE}{n:FE}{K}{o:D->D->G->Option (D×G)}(h:tD K (aj o fa n) v H m):BG (dW K o) (tD K fa) (tD K n) v H m:=by obtain⟨E,z,g,d,r,G0,f,h,p⟩:=h;obtain⟨⟨c,I⟩,k,h⟩:=bind_some h;obtain⟨⟨y,B⟩,x,h⟩:=bind_some h;refine tD.bind G0 f k λJ C O s j e i=>?_;refine tD.bind j e x λQ l u a b R q=>?_;exact⟨l,B,c,y,d,r,b,Rel.ext a _ i,q,h,p.mono (s.trans a)⟩
def kB {fa:FE}{c:FE}{op:SW}{o:D->D->G->Option (D×G)}(j:bQ X (qC op) (dW X.kw o))(i:DE X e fa)(f:DE X J c):DE X (.BinOp e op J q) (aj o fa c):=.of (
 PE.imp (P8 j i.un f.un) λg H Q h=>qw h)
def Mh {fa:FE}{c:FE}{o:D->D->G->Option (D×G)}(k:bQ X (ra d) (dW X.kw o))(j:DE X e fa)(i:DE X J c)(f:Y2 d J=false):DE X (.Compare e [d] [J] q) (aj o fa c):=.of (
 PE.imp (IF k j.un i.un f) λg H Q h=>qw h)
def Qm {fa:FE}{op:UnaryOp}{o:D->G->Option (D×G)}(u:BF X (unaryOp op) (Mg X.kw o))(s:DE X e fa):DE X (.UnaryOp op e q) (pf o fa):=.of (
 PE.imp (P9 u s.un) λx H Q h=>by obtain⟨y,r,g,d,j,G0,c,h,p⟩:=h;obtain⟨⟨b,n⟩,i,h⟩:=bind_some h;refine tD.bind G0 c i λB k v l f a pos=>?_;exact⟨k,n,b,d,j,f,pos,h,p.mono l⟩)
noncomputable def d5 (r:Option (D×G)):Option (Bool×G):=r.bind λr=>match r.1 with|.bl e=>some (e,r.2)|_=>none
def vE {r:Option (D×G)}{g:G}(h:d5 r=some (a,g)):r=some (.bl a,g):=by
 obtain⟨⟨d,c⟩,b,h⟩:=bind_some h;cases d with
 |bl k=>cases h;exact b|_=>cases h
noncomputable def aB (f:FE):FT:=λc g=>d5 (f c g)
def EO {K f}(h:k6 K (aB f) v H w):uD (tD K f) v H w:=by
 obtain⟨u,q,g,b,r,G0,a,h,p⟩:=h;obtain⟨⟨d,x⟩,i,h⟩:=bind_some h;cases d with
 |bl k =>
  cases h;exact tD.bind G0 a i λn j y l e o c=>⟨b,by simpa[Rel]using c,p n j l e⟩
 |_=>cases h
def Ae {t:TE}(i:∀v H w,t' v H w->t v H w)(h:uD t' v H w):uD t v H w:=i v H _ h
def Mj {fa:FE}{c:FE}{o:D->D->G->Option (D×G)}(k:bQ X (ra d) (dW X.kw o))(j:DE X e fa)(i:DE X J c)(f:Y2 d J=false):DT X (.Compare e [d] [J] q) (aB (aj o fa c)):=.of (
 PT.imp (IG k j.un i.un f) λg H Q h=>Ae (λ_ _ _=>qw) (EO h))
noncomputable def jw (d:D)(g:G):Option Bool:=match d with
 |.ay=>some false|.bl e=>some e|.int i=>some (i != 0)|.tup c=>some (!c.isEmpty)|.lst c=>some (!c.isEmpty)|.eI=>some false|.ref n=>match g[n]? with|some c=>some (!c.isEmpty)|none=>none
 |.str _=>none|.bq _=>none|.fn _ _=>none
noncomputable def nH (f:FE):FT:=λc g=>(f c g).bind λr=>(jw r.1 r.2).map λb=>(b,r.2)
theorem ak.isEmpty {K H ι}{ds:List D}(c:ak K H ι ds h):ds.isEmpty=h.isEmpty:=by have:=c.length;cases ds<;>cases h<;>simp_all
def yj {K H ι g d v b}(G0:az K H ι g)(r:Rel K H ι d v)(h:jw d g=some b):Ez K v H b:=by
 cases d with
 |ay=>cases r;cases h;rfl|bl x=>cases r;cases h;rfl|int x=>cases r;cases h;rfl|str x=>cases h
 |tup p =>
  obtain⟨a,c,rfl,f,i⟩:=r;cases h;exact .inr (.inl ⟨c,f.sq,by rw[i.isEmpty]⟩)
 |lst p =>
  obtain⟨a,c,rfl,f,i⟩:=r;cases h;exact .inl ⟨c,f.sq,by rw[i.isEmpty]⟩
 |eI =>
  obtain⟨a,rfl,f,_⟩:=r;cases h;exact .inr (.inr ⟨[],f,rfl⟩)
 |ref n =>
  obtain⟨a,rfl,l⟩:=r;simp only[jw]at h;split at h
  . rename_i p e
    cases h;obtain⟨c,k,j⟩:=G0.at e l;exact .inl ⟨c,.of k,by rw[j.isEmpty]⟩
  . cases h
 |bq n=>cases h|fn x=>cases h
def Mk {fa:FE}(u:DE X e fa)(s:∀whole,isTrue e X.env whole=(do let n <- whole;Yj e.pos;zk [n] (truthy n))):DT X e (nH fa):=.of (
 PT.imp (EA u.un s) λy H Q h=>by
  obtain⟨B,q,g,b,r,G0,a,h,p⟩:=h;obtain⟨⟨d,v⟩,i,h⟩:=bind_some h;cases ht:jw d v with
  |none=>rw[ht]at h;cases h
  |some k =>
   rw[ht]at h;cases h;exact tD.bind G0 a i λx j n l c o f=>⟨b,yj c f ht,p x j l c⟩)
noncomputable def ib (h gb:FT):FT:=λc g=>(h c g).bind λr=>if r.1=true then gb c r.2 else some (false,r.2)
noncomputable def yk (h gb:FT):FT:=λc g=>(h c g).bind λr=>if r.1=true then some (true,r.2)else gb c r.2
noncomputable def ER (c:FT):FT:=λh g=>(c h g).bind λr=>some (!r.1,r.2)
def Ja {c:FT}(f:DT X e c):DW X (.BoolOp .And [e] q) c:=.of (Iv f.un)
def Ml {c:FT}(f:DT X e c):DW X (.BoolOp .Or [e] q) c:=.of (K3 f.un)
def Mm {n:FT}{gb:FT}(u:DT X e n)(s:DW X (.BoolOp .And (J::B) q) gb):DW X (.BoolOp .And (e::J::B) q) (ib n gb):=.of (
 PW.imp (K4 u.un s.un) λy H Q h=>by
  obtain⟨C,l,g,k,a,G0,j,h,p⟩:=h;obtain⟨⟨r,v⟩,o,h⟩:=bind_some h;refine k6.bind G0 j o λx b f c i=>?_;cases r with
  |true=>simp only[if_true]at h ⊢;exact⟨b,l,v,k,a,c,i,h,p.mono f⟩|false=>simp only[pA,if_false]at h ⊢;cases h;exact p x b f c)
def Qn {n:FT}{gb:FT}(u:DT X e n)(s:DW X (.BoolOp .Or (J::B) q) gb):DW X (.BoolOp .Or (e::J::B) q) (yk n gb):=.of (
 PW.imp (PY u.un s.un) λy H Q h=>by
  obtain⟨C,l,g,k,a,G0,j,h,p⟩:=h;obtain⟨⟨r,v⟩,o,h⟩:=bind_some h;refine k6.bind G0 j o λx b f c i=>?_;cases r with
  |false=>simp only[pA,if_false]at h ⊢;exact⟨b,l,v,k,a,c,i,h,p.mono f⟩|true=>simp only[if_true]at h ⊢;cases h;exact p x b f c)
def DW.dt {c:FT}(h:DW X e c):DT X e c:=.of (PW.pt h.un)
def Mn {n:FT}(r:DT X e n):DT X (.UnaryOp .Not e q) (ER n):=.of (
 PT.imp (K5 r.un) λv H Q h=>by obtain⟨x,l,g,k,o,G0,b,h,p⟩:=h;obtain⟨⟨a,y⟩,pos,h⟩:=bind_some h;cases h;exact k6.bind G0 b pos λu f i c j=>p u f i c)
noncomputable def qx (fa h:FE):FE:=λc g=>(d5 (fa c g)).bind λr=>if r.1=true then h c r.2 else some (.bl false,r.2)
noncomputable def ES (fa h:FE):FE:=λc g=>(d5 (fa c g)).bind λr=>if r.1=true then some (.bl true,r.2)else h c r.2
def Mp {fa:FE}{op}(h:DE X e fa):DE X (.BoolOp op [e] q) fa:=.of (K6 h.un)
def B5 {fa:FE}{n:FE}(u:DE X e fa)(s:DE X (.BoolOp .And (J::B) q) n):DE X (.BoolOp .And (e::J::B) q) (qx fa n):=.of (
 PE.imp (K7 u.un s.un) λC H Q h=>by
  obtain⟨E,o,g,d,r,G0,l,h,p⟩:=h;obtain⟨⟨f,x⟩,c,h⟩:=bind_some h;have c:=vE c;refine tD.bind G0 l c λy i v j b k a=>⟨f,by simpa[Rel]using a,?_⟩
  cases f with
  |true=>simp only[if_true]at h ⊢;exact⟨i,o,x,d,r,b,k,h,p.mono j⟩|false=>simp only[pA,if_false]at h ⊢;cases h;exact p y i _ j b (by simp[Rel]))
def Qo {fa:FE}{n:FE}(u:DE X e fa)(s:DE X (.BoolOp .Or (J::B) q) n):DE X (.BoolOp .Or (e::J::B) q) (ES fa n):=.of (
 PE.imp (P0 u.un s.un) λC H Q h=>by
  obtain⟨E,o,g,d,r,G0,l,h,p⟩:=h;obtain⟨⟨f,x⟩,c,h⟩:=bind_some h;have c:=vE c;refine tD.bind G0 l c λy i v j b k a=>⟨f,by simpa[Rel]using a,?_⟩
  cases f with
  |false=>simp only[pA,if_false]at h ⊢;exact⟨i,o,x,d,r,b,k,h,p.mono j⟩|true=>simp only[if_true]at h ⊢;cases h;exact p y i _ j b (by simp[Rel]))
noncomputable def jZ (h:FT)(fa i:FE):FE:=λc g=>(h c g).bind λr=>if r.1=true then fa c r.2 else i c r.2
def Mq {fa:FE}{n:FE}{x:FT}(v:DT X c x)(u:DE X e fa)(s:DE X J n):DE X (.IfExp c e J q) (jZ x fa n):=.of (
 PE.imp (En v.un u.un s.un) λB H Q h=>by
  obtain⟨C,f,g,d,j,G0,o,h,p⟩:=h;obtain⟨⟨r,y⟩,a,h⟩:=bind_some h;refine k6.bind G0 o a λE k l i b=>?_;cases r with
  |true=>simp only[if_true]at h ⊢;exact⟨k,f,y,d,j,i,b,h,p.mono l⟩|false=>simp only[pA,if_false]at h ⊢;exact⟨k,f,y,d,j,i,b,h,p.mono l⟩)
noncomputable def ag:FA:=λ_ g=>some ([],g)
noncomputable def aa (fa:FE)(fr:FA):FA:=λc g=>(fa c g).bind λr=>(fr c r.2).bind λq=>some (r.1::q.1,q.2)
def B6:DA X [] ag:=.of (PA.imp nA λn H Q h=>by obtain⟨i,c,g,d,a,G0,b,h,p⟩:=h;cases h;exact p H i _ Ext.refl G0 (by simp[ak]))
def rO {fa:FE}{fr:FA}(n:DE X e fa)(C:DA X B fr)(A:lY (e::B) X.env=(false,eval e X.env)::lY B X.env):DA X (e::B) (aa fa fr):=.of (
 PA.imp (kY n.un C.un A) λI H Q h=>by obtain⟨J,y,g,d,z,G0,f,h,p⟩:=h;obtain⟨⟨x,O⟩,k,h⟩:=bind_some h;obtain⟨⟨R,U⟩,s,h⟩:=bind_some h;cases h;refine tD.bind G0 f k λY E v r j c i=>?_;refine iz.bind j c s λl o u a b Z q=>?_;refine p l o _ (r.trans a) b ?_;simp only[ak];exact⟨_,_,rfl,Rel.ext a _ i,q⟩)
noncomputable def aC (n:Nat):Bool:=decide (n<=16777216)
def aC.le (h:aC i=true):i<=lX:=by rw[Hy];exact of_decide_eq_true h
noncomputable def aA (ds:List D)(g:G):Option (D×G):=if aC ds.length=true then some (.tup ds,g)else none
noncomputable def fP (ds:List D)(g:G):Option (D×G):=if aC ds.length=true then some (.lst ds,g)else none
noncomputable def mkRef (ds:List D)(g:G):Option (D×G):=if aC ds.length=true then some (.ref g.length,g ++ [ds])else none
def ET {K H ι g ds vs d g' Q}(G0:az K H ι g)(r:ak K H ι ds vs)(h:aA ds g=some (d,g'))(p:fU K H ι d g' Q):vs.length<=lX /\ ∀q,H q=none->Q (.ref q) (upd H q (.tup vs)):=by
 unfold aA at h;split at h
 . rename_i z
   cases h;refine⟨by rw[<- r.length];exact aC.le z,λq a=>p _ _ _ (Ext.lay a) (G0.lay a) ?_⟩;simp only[Rel];exact⟨q,vs,rfl,.inl ⟨.inl aQ,G0.fresh a⟩,ak.ext (Ext.lay a) _ r⟩
 . cases h
def EU {K H ι g ds vs d g' Q}(G0:az K H ι g)(r:ak K H ι ds vs)(h:fP ds g=some (d,g'))(p:fU K H ι d g' Q):vs.length<=lX /\ ∀q,H q=none->Q (.ref q) (upd H q (.lst vs)):=by
 unfold fP at h;split at h
 . rename_i z
   cases h;refine⟨by rw[<- r.length];exact aC.le z,λq a=>p _ _ _ (Ext.lay a) (G0.lay a) ?_⟩;simp only[Rel];exact⟨q,vs,rfl,.inl ⟨.inl aQ,G0.fresh a,G0.ia a⟩,ak.ext (Ext.lay a) _ r⟩
 . cases h
def EV {K H ι g ds vs d g' Q}(G0:az K H ι g)(r:ak K H ι ds vs)(h:mkRef ds g=some (d,g'))(p:fU K H ι d g' Q):vs.length<=lX /\ ∀q,H q=none->Q (.ref q) (upd H q (.lst vs)):=by
 unfold mkRef at h;split at h
 . rename_i z
   cases h;refine⟨by rw[<- r.length];exact aC.le z,λq a=>p _ _ _ (Ext.push a) (G0.push a r) ?_⟩;simp only[Rel];exact⟨q,rfl,eE.new G0.len⟩
 . cases h
noncomputable def aI (m:List D->G->Option (D×G))(fr:FA):FE:=λc g=>(fr c g).bind λr=>m r.1 r.2
def B7 {fr:FA}{es}(h:DA X B fr):DE X (.Tuple B es q) (aI aA fr):=.of (PE.imp (LF h.un) λn H Q h=>by obtain⟨r,k,g,d,l,G0,a,h,p⟩:=h;obtain⟨⟨i,u⟩,e,h⟩:=bind_some h;exact iz.bind G0 a e λx o v f c j b=>ET c b h (p.mono f))
def Mr {fr:FA}(h:DA X B fr):DE X (.List B q) (aI fP fr):=.of (PE.imp (BK h.un) λn H Q h=>by obtain⟨r,k,g,d,l,G0,a,h,p⟩:=h;obtain⟨⟨i,u⟩,e,h⟩:=bind_some h;exact iz.bind G0 a e λx o v f c j b=>EU c b h (p.mono f))
def Ms {fr:FA}(h:DA X B fr):DE X (.List B q) (aI mkRef fr):=.of (PE.imp (BK h.un) λn H Q h=>by obtain⟨r,k,g,d,l,G0,a,h,p⟩:=h;obtain⟨⟨i,u⟩,e,h⟩:=bind_some h;exact iz.bind G0 a e λx o v f c j b=>EV c b h (p.mono f))
set_option genInjectivity true in
inductive F where
 |nx|rt (d:D)|bk|ct
noncomputable abbrev FS:=Sg->G->Option (F×Sg×G)
noncomputable def uH (K:KW)(H:Hp)(i:Ix)(r:F)(b:Sg)(n:G)(a:Ends):Prop :=
 ∀h g,Ext H i h g->az K h g n->match r with
  |.nx=>∀c,bO K h g b c->a.nx c h|.bk=>∀c,bO K h g b c->a.bk c h|.ct=>∀c,bO K h g b c->a.ct c h|.rt d=>∀v,Rel K h g d v->a.rt v h
inductive GK (K:KW)(f:FS)(Dn:Ends)(σ:ko)(H:Hp):Prop
 |mk (ι:Ix) (σd:Sg) (g:G) (r:F) (cx:Sg) (g':G) (h0:az K H ι g) (h1:bO K H ι σd σ) (h2:f σd g=some (r,cx,g')) (h3:uH K H ι r cx g' Dn):GK K f Dn σ H
structure DS (X:Cx)(st:Stmt)(f:FS):Prop where of ::
 un:PS X st (GK X.kw f)
structure k8 (X:Cx)(pg:List Stmt)(f:FS):Prop where of ::
 un:hX X pg (GK X.kw f)
def PS.imp {e t':TS}(h:PS X t e)(i:∀g c H,t' g c H->e g c H):PS X t t':=λn s c H Q I q=>h n s c H Q I (i Q c H q)
def hX.imp {t t':TS}(h:hX X R t)(i:∀g c H,t' g c H->t g c H):hX X R t':=λn s c H Q I q=>h n s c H Q I (i Q c H q)
def uH.mono {K H ι j h r i g' Dn}(e:Ext H ι j h)(p:uH K H ι r i g' Dn):uH K j h r i g' Dn:=λa b f c=>p a b (e.trans f) c
noncomputable def aK:FS:=λc g=>some (.nx,c,g)
noncomputable def ax (c h:FS):FS:=λi g=>(c i g).bind λr=>match r.1 with|.nx=>h r.2.1 r.2.2|_=>some r
noncomputable def aH (f:FE):FS:=λc g=>(f c g).bind λr=>some (.rt r.1,c,r.2)
noncomputable def EW:FS:=λc g=>some (.bk,c,g)
noncomputable def kC (f:FE):FS:=λc g=>(f c g).bind λr=>some (.nx,c,r.2)
noncomputable def bM (c:FT)(i n:FS):FS:=λh g=>(c h g).bind λr=>if r.1=true then i h r.2 else n h r.2
def Jb:k8 X [] aK:=.of (hX.imp Iw λb i H h=>by obtain⟨n,f,g,r,e,c,G0,a,h,p⟩:=h;cases h;exact p H n Ext.refl G0 i a)
def EX {x:FS}{y:FS}(u:DS X t x)(v:k8 X R y):k8 X (t::R) (ax x y):=.of (hX.imp (Eo u.un v.un) λs E H h=>by
 obtain⟨C,l,g,r,i,o,G0,k,h,p⟩:=h;obtain⟨⟨e,f,B⟩,u,h⟩:=bind_some h;refine⟨C,l,g,e,f,B,G0,k,u,λn b c a=>?_⟩;cases e with
 |nx=>exact λq j=>⟨b,f,B,r,i,o,a,j,h,p.mono c⟩|bk=>cases h;exact p n b c a|ct=>cases h;exact p n b c a|rt d=>cases h;exact p n b c a)
def Jc {c:FS}(a:DS X t c):k8 X [t] c:=.of (Iy a.un)
def Jd:DS X (.Pass q) aK:=.of (PS.imp Iz λb i H h=>by obtain⟨n,f,g,r,e,c,G0,a,h,p⟩:=h;cases h;exact p H n Ext.refl G0 i a)
def Mt:DS X (.Break q) EW:=.of (PS.imp Ep λb i H h=>by obtain⟨n,f,g,r,e,c,G0,a,h,p⟩:=h;cases h;exact p H n Ext.refl G0 i a)
def Mu {n:FE}(x:DE X e n):DS X (.Return (some e) q) (aH n):=.of (PS.imp (La x.un) λs B H h=>by obtain⟨C,pos,g,r,k,u,G0,a,h,p⟩:=h;obtain⟨⟨l,E⟩,f,h⟩:=bind_some h;cases h;exact tD.bind G0 a f λy i v j c o b=>p y i j c v b)
def Je {n:FE}(y:DE X e n)(x:NM e none q.line X.env=pure false):DS X (.Expr e q) (kC n):=.of (PS.imp (IA y.un x) λs B H h=>by obtain⟨E,o,g,r,k,u,G0,b,h,p⟩:=h;obtain⟨⟨l,I⟩,f,h⟩:=bind_some h;cases h;exact tD.bind G0 b f λC i v j c a pos=>p C i j c B a)
def Mv {x j pos i}:DS X (.Expr (.Constant (.str x) j pos) i) aK:=.of (PS.imp K_ λb n H h=>by obtain⟨q,f,g,r,e,c,G0,a,h,p⟩:=h;cases h;exact p H q Ext.refl G0 n a)
def Qp {n:FS}{B:FS}{C:FT}{b:List Stmt}(z:DT X c C)(x:k8 X R n)(y:k8 X b B):DS X (.If c R b q) (bM C n B):=.of (PS.imp (P2 z.un x.un y.un) λv I H h=>by
 obtain⟨J,i,g,r,e,l,G0,s,h,p⟩:=h;obtain⟨⟨k,E⟩,u,h⟩:=bind_some h;refine k6.bind G0 s u λO o a j f=>?_;cases k with
 |true=>simp only[if_true]at h ⊢;exact⟨o,i,E,r,e,l,j,f,h,p.mono a⟩|false=>simp only[pA,if_false]at h ⊢;exact⟨o,i,E,r,e,l,j,f,h,p.mono a⟩)
noncomputable abbrev FG:=D->Sg->G->Option (Sg×G)
noncomputable abbrev ph:=List D->Sg->G->Option (Sg×G)
inductive Mw (K:KW)(f:FG)(v:V)(σ:ko)(H:Hp)(Q:(ko->Hp->Prop)):Prop
 |mk (ι:Ix) (σd:Sg) (g:G) (d:D) (cx:Sg) (g':G) (h0:az K H ι g) (h1:bO K H ι σd σ) (h2:Rel K H ι d v) (h3:f d σd g=some (cx,g')) (h4:∀H' ι' σ',Ext H ι H' ι'->az K H' ι' g'->bO K H' ι' cx σ'->Q σ' H'):Mw K f v σ H Q
inductive Mx (K:KW)(f:ph)(v:List V)(σ:ko)(H:Hp)(Q:(ko->Hp->Prop)):Prop
 |mk (ι:Ix) (σd:Sg) (g:G) (d:List D) (cx:Sg) (g':G) (h0:az K H ι g) (h1:bO K H ι σd σ) (h2:ak K H ι d v) (h3:f d σd g=some (cx,g')) (h4:∀H' ι' σ',Ext H ι H' ι'->az K H' ι' g'->bO K H' ι' cx σ'->Q σ' H'):Mx K f v σ H Q
structure DG (X:Cx)(tg:Expr)(f:FG):Prop where of ::
 un:PG X tg (Mw X.kw f)
structure B8 (X:Cx)(tg:List Expr)(f:ph):Prop where of ::
 un:oU X tg (Mx X.kw f)
def PG.imp {t t':TG}(h:PG X e t)(i:∀v c H Q,t' v c H Q->t v c H Q):PG X e t':=λg s c H v u Q I r q=>h g s c H v u Q I r (i v c H Q q)
def oU.imp {t t':sO}(h:oU X B t)(i:∀v c H Q,t' v c H Q->t v c H Q):oU X B t':=λg s c H v u Q I r q=>h g s c H v u Q I r (i v c H Q q)
noncomputable def gN (i:Nat):FG:=λd c g=>some (c.set i (some d),g)
theorem bO.set {K H ι c σ d v}(S:bO K H ι c σ)(r:Rel K H ι d v)(i:Nat):bO K H ι (c.set i (some d)) (σ.set i (some v)):=by
 refine⟨by simp[S.1],λj b q=>?_⟩;by_cases e:i=j
 . subst e
   have a:i < c.length:=by
    by_cases a:i < c.length
    . exact a
    . rw[acR.mpr (by simpa using a)]at q;cases q
   rw[ua a]at q;cases q;exact⟨v,by rw[ua (by rw[<- S.1];exact a)],r⟩
 . rw[Oc e]at q ⊢
   exact S.2 j b q
def Jf (f:X.N.Nodup)(j:X.N[i]? = some x)(l:Ea X.env.scope x)(k:X.fn x=true\/X.env.scope.names.lookup x=some .local):DG X (.Name x q) (gN i):=.of (
 PG.imp (IB f j l k) λv u H Q h=>by obtain⟨n,e,g,d,c,b,G0,a,r,h,p⟩:=h;cases h;exact p H n _ Ext.refl G0 (a.set r i))
noncomputable def gp:ph:=λds c g=>match ds with| []=>some (c,g)|_=>none
noncomputable def bV (t:FG)(u:ph):ph:=λds c g=>match ds with|d::r=>(t d c g).bind λq=>u r q.1 q.2| []=>none
def Jg:B8 X [] gp:=.of (oU.imp IC λv n H Q h=>by
 obtain⟨i,e,g,d,c,b,G0,a,r,h,p⟩:=h;cases d with
 |nil=>cases h;simp only[ak]at r;exact⟨r,p H i _ Ext.refl G0 a⟩|cons _ _=>cases h)
def EY {t:FG}{u:ph}(A:DG X e t)(C:B8 X B u)(I:(xW (e::B) X.env).map (·.2)=AR e X.env::(xW B X.env).map (·.2)):B8 X (e::B) (bV t u):=.of (oU.imp (Et A.un C.un I) λv σ H Q h=>by
 obtain⟨J,k,g,d,c,s,G0,j,r,h,p⟩:=h;cases d with
 |nil=>cases h
 |cons d ds =>
  obtain⟨O,z,rfl,R,U⟩:=r;obtain⟨⟨a,E⟩,A,h⟩:=bind_some h;exact⟨O,z,rfl,J,k,g,d,a,E,G0,j,R,A,λH1 y Y b l i=>⟨y,a,E,ds,c,s,l,i,ak.ext b _ U,h,λo n q x f Z=>p o n q (b.trans x) f Z⟩⟩)
noncomputable def gT (n:Nat)(t:ph):FG:=λd h g=>match d with|.tup c=>if c.length=n then t c h g else none|_=>none
def My {t:ph}(u:X.calm=true)(h:B8 X B t)(s:(xW B X.env).length=o)(n:(xW B X.env).findIdx? (·.1)=none):DG X (.Tuple B i q) (gT o t):=.of (PG.imp (Lb u h.un s n) λv C H Q h=>by
 obtain⟨x,k,g,d,c,l,G0,f,r,h,p⟩:=h;cases d with
 |tup y =>
  obtain⟨a,e,rfl,j,b⟩:=r;simp only[gT]at h;split at h
  . rename_i z
    exact⟨a,e,rfl,j.sq,by rw[<- b.length];exact z,x,k,g,y,c,l,G0,f,b,h,p⟩
  . cases h
 |_=>cases h)
noncomputable def aG (f:FE)(t:FG):FS:=λc g=>(f c g).bind λr=>(t r.1 c r.2).bind λq=>some (.nx,q.1,q.2)
def Jh {K t}{B:FE}{A σ H}(h:GK K (aG B t) A σ H):Eu (tD K B) (Mw K t) A σ H:=by obtain⟨I,f,g,r,J,O,G0,e,h,p⟩:=h;obtain⟨⟨a,C⟩,o,h⟩:=bind_some h;obtain⟨⟨j,E⟩,y,h⟩:=bind_some h;cases h;exact tD.bind G0 e o λQ u v x l c i=>⟨u,f,C,a,j,E,l,c,i,y,λq n k s b z=>p q n (x.trans s) b k z⟩
def vF {g:FE}{t:FG}(c:DE X e g)(f:DG X J t)(i:Yz [J] e q.line X.env=pure false)(hw:TF [J] e X.env=pure none)(b:(xW [J] X.env).map (·.2)= [AR J X.env]):DS X (.Assign [J] e q) (aG g t):=.of (PS.imp (Ld c.un f.un i hw b) λa n H h=>Jh h)
def B9 {n:FE}(A:X.N.Nodup)(C:X.N[i]? = some x)(J:Ea X.env.scope x)(I:DE X e n)(B:NM e (some (.Name x q)) p.line X.env=pure false)(E:X.fn x=true\/X.env.scope.names.lookup x=some .local):
  DS X (.Assign [.Name x q] e p) (aG n (gN i)):=.of (PS.imp (Le A C J I.un B E) λu Q H h=>by
 obtain⟨R,s,g,r,o,y,G0,b,h,pos⟩:=h;obtain⟨⟨z,U⟩,j,h⟩:=bind_some h;cases h;exact tD.bind G0 b j λO k v l f a c=>pos O k l f _ (a.set c i))
noncomputable def putD (o i v:D)(g:G):Option G:=match o,i with
 |.ref n,.int k=>match g[n]? with
  |some c=>match kZ c.length k with
   |some j=>some (g.set n (c.set j v))|none=>none
  |none=>none
 |_,_=>none
noncomputable abbrev FI:=Sg->G->Option (List D×G)
structure jC (H:Hp)(ι:Ix)(H':Hp)(ι':Ix):Prop where
 same:∀a o,H a=some o->a ∉ ι.ix->H' a=some o
 there:∀a,H a≠none->H' a≠none
 more:∃m,ι'.ix=ι.ix++m /\ ∀a∈m,H a=none
 cP:∃hs,ι'.hd=hs++ι.hd /\ ∀b∈hs,H b=none
 mU:∀i,i < ι.ix.length->ι'.kd i=ι.kd i
def Ext.eF {H ι a ι1}(e:Ext H ι a ι1):jC H ι a ι1:=⟨e.same,e.there,e.more,⟨[],e.cP,λ_ z=>by simp at z⟩,e.mU⟩
def jC.old {H ι i c}(a:jC H ι i c)(h:H f=some g)(n:f ∉ ι.ix):f ∉ c.ix:=λz=>by
 obtain⟨e,b,p⟩:=a.more;rw[b]at z;rcases mF.mp z with z|z
 . exact n z
 . rw[p f z]at h;cases h
def jC.EZ {H ι i c}(a:jC H ι i c)(h:H f=some g)(n:f ∉ ι.hd):f ∉ c.hd:=λz=>by
 obtain⟨e,b,p⟩:=a.cP;rw[b]at z;rcases mF.mp z with z|z
 . rw[p f z]at h;cases h
 . exact n z
def jC.at {H ι l k}(c:jC H ι l k)(h:eE ι i f a):eE k i f a:=by obtain⟨j,b,_⟩:=c.more;have e:=(l8.mp h.1).1;refine⟨?_,by rw[c.mU i e];exact h.2⟩;rw[b,m5 e];exact h.1
def mT.eF {K H ι c b a xs}(e:jC H ι c b)(h:mT K H ι a xs):mT K c b a xs:=by
 rcases h with⟨h|⟨o,h⟩,n,k⟩|h
 . exact .inl ⟨.inl (e.same _ _ h n),e.old h n,e.EZ h k⟩
 . exact .inl ⟨.inr ⟨o,e.same _ _ h n⟩,e.old h n,e.EZ h k⟩
 . exact .inr h
def pd.eF {K H ι c b a xs}(e:jC H ι c b)(h:pd K H ι a xs):pd K c b a xs:=by
 rcases h with⟨h|⟨o,h⟩,n⟩|h
 . exact .inl ⟨.inl (e.same _ _ h n),e.old h n⟩
 . exact .inl ⟨.inr ⟨o,e.same _ _ h n⟩,e.old h n⟩
 . exact .inr h
mutual
theorem Rel.eF {K H ι l k}(e:jC H ι l k):∀(d:D) {v:V},Rel K H ι d v->Rel K l k d v
 |.ay,v,h=>h|.bl _,v,h=>h|.int _,v,h=>h|.str _,v,h=>h|.tup p,v,h=>by simp only[Rel]at h ⊢;obtain⟨a,j,f,b,i⟩:=h;exact⟨a,j,f,b.eF e,ak.eF e p i⟩
 |.lst p,v,h=>by simp only[Rel]at h ⊢;obtain⟨a,j,f,b,i⟩:=h;exact⟨a,j,f,b.eF e,ak.eF e p i⟩
 |.eI,v,h=>by simp only[Rel]at h ⊢;obtain⟨a,f,b,i⟩:=h;exact⟨a,f,e.same _ _ b i,e.old b i⟩
 |.ref n,v,h=>by simp only[Rel]at h ⊢;obtain⟨a,f,b⟩:=h;exact⟨a,f,e.at b⟩
 |.bq n,v,h=>by simp only[Rel]at h ⊢;obtain⟨a,f,b⟩:=h;exact⟨a,f,e.at b⟩
 |.fn x ds,v,h=>by simp only[Rel]at h ⊢;obtain⟨a,j,f,b,i⟩:=h;exact⟨a,j,f,b.mono λc u z q=>⟨e.same _ _ q.1 q.2.1,e.old q.1 q.2.1,λy=>e.EZ q.1 (q.2.2 y)⟩,ak.eF e ds i⟩
theorem ak.eF {K H ι j i}(e:jC H ι j i):∀(ds:List D) {g:List V},ak K H ι ds g->ak K j i ds g
 | [],g,h=>h|d::ds,g,h=>by simp only[ak]at h ⊢;obtain⟨v,f,a,c,b⟩:=h;exact⟨v,f,a,Rel.eF e d c,ak.eF e ds b⟩
end
noncomputable def j2 (K:KW)(J:It)(H:Hp)(p:Ix)(ds:List D):Prop :=
 ∀(i:Nat) g c n,jC H p g c->az K g c n->(ds.length<=i->J.stop i g) /\ ∀d,ds[i]? = some d->J.go i g /\ ∀x h,J.By i g x h->Ext g c h c/\az K h c n/\Rel K h c d x
inductive Sd (K:KW)(f:FI)(σ:ko)(H:Hp)(R:(It->Hp->Prop)):Prop
 |mk (ι:Ix) (σd:Sg) (g:G) (ds:List D) (g':G) (h0:az K H ι g) (h1:bO K H ι σd σ) (h2:f σd g=some (ds,g')) (h3:∀H' ι' J,Ext H ι H' ι'->az K H' ι' g'->j2 K J H' ι' ds->R J H'):Sd K f σ H R
structure DI (X:Cx)(tg iter:Expr)(f:FI):Prop where of ::
 un:PI X tg iter (Sd X.kw f)
def PI.imp {t t':TI}(h:PI X J e t)(i:∀c H Q,t' c H Q->t c H Q):PI X J e t':=λg s c H Q I q=>h g s c H Q I (i c H Q q)
def j2.lst {K H ι a vs ds}(l:mT K H ι a vs)(o:ak K H ι ds vs):j2 K (Gs K a) H ι ds:=λi g k n b h =>
 ⟨λe=>⟨vs,(l.eF b).sq,by rw[<- o.length];exact e⟩,λd hd=>by obtain⟨v,c,f⟩:=(ak.eF b _ o).get hd;refine⟨⟨vs,v,(l.eF b).sq,c⟩,λx j y=>?_⟩;obtain⟨rfl,y⟩:=y;have:=y vs (l.eF b).sq;rw[c]at this;cases this;exact⟨Ext.refl,h,f⟩⟩
def j2.U8 {K H ι a vs ds}(l:pd K H ι a vs)(o:ak K H ι ds vs):j2 K (Ln K a) H ι ds:=λi g k n b h =>
 ⟨λe=>⟨vs,(l.eF b).sq,by rw[<- o.length];exact e⟩,λd hd=>by obtain⟨v,c,f⟩:=(ak.eF b _ o).get hd;refine⟨⟨vs,v,(l.eF b).sq,c⟩,λx j y=>?_⟩;obtain⟨rfl,y⟩:=y;have:=y vs (l.eF b).sq;rw[c]at this;cases this;exact⟨Ext.refl,h,f⟩⟩
def j2.fB {K H ι}:j2 K (Bz I i) H ι ((nN i).map λ(k:Nat)=>D.int (I+k)):=λl g j n f c =>
 ⟨λb=>(by show i<=l;simpa using b),λd hd=>by
  have a:l<i:=by have:=(l8.mp hd).1;simpa using this
  refine⟨a,λx h y=>?_⟩;obtain⟨rfl,rfl⟩:=y;have e:d=D.int (I+l):=by simpa[m2,Xw a]using hd.symm
  subst e;exact⟨Ext.refl,c,by simp[Rel]⟩⟩
noncomputable def uI (f:FE):FI:=λc g=>(f c g).bind λr=>match r.1 with|.tup h=>some (h,r.2)|_=>none
noncomputable def uJ (f:FE):FI:=λc g=>(f c g).bind λr=>match r.1 with|.lst h=>some (h,r.2)|_=>none
def Mz {n:FE}(y:DE X J n):DI X e J (uI n):=.of (PI.imp (Lo y.un) λE H Q h=>by
 obtain⟨I,u,g,ds,x,G0,f,h,p⟩:=h;obtain⟨⟨c,O⟩,k,h⟩:=bind_some h;cases c with
 |tup R =>
  cases h;refine tD.bind G0 f k λB o v q j s i=>?_;obtain⟨a,C,rfl,b,r⟩:=i;exact⟨a,rfl,⟨C,b.sq⟩,p B o _ q j (.U8 b r)⟩
 |_=>cases h)
def MA {n:FE}(y:DE X J n):DI X e J (uJ n):=.of (PI.imp (x4 y.un) λE H Q h=>by
 obtain⟨I,u,g,ds,x,G0,f,h,p⟩:=h;obtain⟨⟨c,O⟩,k,h⟩:=bind_some h;cases c with
 |lst R =>
  cases h;refine tD.bind G0 f k λB o v q j s i=>?_;obtain⟨a,C,rfl,b,r⟩:=i;exact⟨a,rfl,⟨C,b.sq⟩,p B o _ q j (.lst b r)⟩
 |_=>cases h)
noncomputable def fQ (i:Int):Bool:=L5 i.natAbs 4611686018427387903
def fQ.and (h:fQ I=true):-(2 ^ 62)<=I/\I<2 ^ 62:=by have:=RI h;lia
def fQ.of (e:-1000000<=I)(c:I<=1000000):fQ I=true:=Us (by lia)
noncomputable def iA (fr:FA):FI:=λc g=>(fr c g).bind λr=>match r.1 with| [.int j]=>if fQ j=true then some ((nN j.toNat).map λ(k:Nat)=>D.int (0+k),r.2)else none|_=>none
noncomputable def Se (fr:FA):FI:=λc g=>(fr c g).bind λr=>match r.1 with| [.int i,.int j]=>if(fQ i&&fQ j)=true then some ((nN (j-i).toNat).map λ(k:Nat)=>D.int (i+k),r.2)else none|_=>none
def Qq {fr:FA}(x:Gl X "range")(u:X.mg "range" = none)(y:DA X [J] fr)(s:lY [J] X.env = [(false,eval J X.env)]):DI X e (.Call (.Name "range" p) [J] [] q) (iA fr):=.of (
 PI.imp (BB x u y.un s) λB H Q h=>by
  obtain⟨C,E,g,ds,r,G0,b,h,p⟩:=h;obtain⟨⟨l,I⟩,f,h⟩:=bind_some h;refine iz.bind G0 b f λn i v k a o c=>?_;dsimp only at h;split at h
  . rename_i j
    split at h
    . rename_i z
      cases h;obtain⟨_,_,rfl,rfl,rfl⟩:=c;exact⟨j,rfl,(fQ.and z).1,(fQ.and z).2,p n i _ k a .fB⟩
    . cases h
  . cases h)
def Qr {fr:FA}(A:Gl X "range")(x:X.mg "range" = none)(y:DA X [J,c] fr)(B:lY [J,c] X.env = [(false,eval J X.env),(false,eval c X.env)])(C:lY [c] X.env = [(false,eval c X.env)]):DI X e (.Call (.Name "range" p) [J,c] [] q) (Se fr):=.of (
 PI.imp (BD A x y.un B C) λE H Q h=>by
  obtain⟨I,s,g,ds,u,G0,a,h,p⟩:=h;obtain⟨⟨O,R⟩,k,h⟩:=bind_some h;refine iz.bind G0 a k λn l v o f r b=>?_;dsimp only at h;split at h
  . rename_i i j
    split at h
    . rename_i z
      rw[la]at z;cases h;obtain⟨_,_,rfl,rfl,_,_,rfl,rfl,rfl⟩:=b;exact⟨i,j,rfl,⟨(fQ.and z.1).1,(fQ.and z.1).2,(fQ.and z.2).1,(fQ.and z.2).2⟩,p n l _ o f .fB⟩
    . cases h
  . cases h)
noncomputable def forL (t:FG)(b:FS):List D->FS
 | [],c,g=>some (.nx,c,g)
 |d::ds,c,g=>(t d c g).bind λq=>(b q.1 q.2).bind λr=>match r.1 with
  |.nx=>forL t b ds r.2.1 r.2.2|.ct=>forL t b ds r.2.1 r.2.2|.bk=>some (.nx,r.2.1,r.2.2)|.rt d=>some (.rt d,r.2.1,r.2.2)
noncomputable def fK (i:FI)(t:FG)(b:FS):FS:=λc g=>(i c g).bind λr=>forL t b r.1 c r.2
noncomputable def gA (c:FT)(b:FS):Nat->FS
 | 0,_,_=>none
 |n+1,h,g=>(c h g).bind λk=>if k.1=true then(b h k.2).bind λr=>match r.1 with
   |.nx=>gA c b n r.2.1 r.2.2|.ct=>gA c b n r.2.1 r.2.2|.bk=>some (.nx,r.2.1,r.2.2)|.rt d=>some (.rt d,r.2.1,r.2.2)
  else some (.nx,h,k.2)
noncomputable def B_ (n:Nat)(c:FT)(b:FS):FS:=gA c b n
inductive MB (X:Cx)(gc:FT)(b:FS)(H:Hp)(ι:Ix)(r:F)(cx:Sg)(g':G)(m:Nat)(σ2:ko)(H2:Hp):Prop
 |mk (ι2:Ix) (qy:Sg) (g2:G) (e2:Ext H ι H2 ι2) (G2:az X.kw H2 ι2 g2) (S2:bO X.kw H2 ι2 qy σ2) (hf:gA gc b m qy g2=some (r,cx,g')):MB X gc b H ι r cx g' m σ2 H2
def E2 {B:FT}{b:FS}(n:Nat)(C:Ut (model X.prog X.w) X.A X.env X.xe)(I:DT X c B)(E:k8 X R b):DS X (.While c R [] q) (B_ n B b):=.of (PS.imp (Ew C I.un E.un) λDn σ H h=>by
 obtain⟨J,O,g,r,x,U,G0,S0,h,p⟩:=h;refine⟨MB X B b H J r x U,⟨n,J,O,g,Ext.refl,G0,S0,h⟩,?_⟩;rintro m Q H2 ⟨ι2,qy,g2,Y,G2,S2,hf⟩;cases m with
 |zero=>cases hf
 |succ m =>
  simp only[gA]at hf;obtain⟨⟨k,g3⟩,h3,hf⟩:=bind_some hf;refine k6.bind G2 S2 h3 λH3 u z s Z=>?_;cases k with
  |false =>
   simp only[pA,if_false]at hf ⊢;cases hf;exact p H3 u (Y.trans z) s Q Z
  |true =>
   simp only[if_true]at hf ⊢;obtain⟨⟨y,o,j⟩,h4,hf⟩:=bind_some hf;refine⟨MB X B b H J r x U m,λσ5 H5 body=>⟨m,UY _,body⟩,?_⟩;refine⟨u,qy,g3,y,o,j,s,Z,h4,λH7 f e7 e=>?_⟩;have i:=Y.trans (z.trans e7);cases y with
   |nx=>exact λl a=>⟨f,o,j,i,e,a,hf⟩|ct=>exact λl a=>⟨f,o,j,i,e,a,hf⟩|bk=>cases hf;exact λl a=>p H7 f i e l a|rt d=>cases hf;exact λv r7=>p H7 f i e v r7)
noncomputable abbrev Fn:=List D->G->Option (D×G)
noncomputable def kD (K:KW)(n:Nat)(fn:Fn):Sp:=λa H Q _=>a.length=n /\ ∃c g ds d h,az K H c g/\ak K H c ds a/\fn ds g=some (d,h)/\fU K H c d h Q
mutual
noncomputable def bR (n:Nat):D->Bool
 |.ref k=>decide (k<n)|.bq k=>decide (k<n)|.tup c=>aP n c|.lst c=>aP n c|.fn _ c=>aP n c|_=>true
noncomputable def aP (n:Nat):List D->Bool
 | []=>true|d::ds=>bR n d&&aP n ds
end
noncomputable def B4 (n:Nat)(d:D)(c:G):Option (D×G):=
 if c.length=n then some (d,c)else
  if(c.take n).all (aP n)then
   match d with
   |.ref k=>if k<n then some (d,c.take n)else match c[k]? with
    |some g=>if aP n g then some (.lst g,c.take n)else none|none=>none
   |d=>if bR n d then some (d,c.take n)else none
  else none
noncomputable def aq (a:Bool)(e c:Nat)(b:FS):Fn:=λds g =>
 if ds.length=c then(b (ds.map some++l6 (e-c) none) g).bind λr=>match r.1 with
  |.rt d=>if a then some (d,r.2.2)else B4 g.length d r.2.2|.nx=>if a then some (.ay,r.2.2)else B4 g.length .ay r.2.2|_=>none
 else none
noncomputable def Ix.cut (c:Ix)(n:Nat):Ix:=⟨c.ix.take n,c.hd,c.kd⟩
mutual
theorem Rel.cut {K H ι}(n:Nat):∀(d:D) {v:V},bR n d=true->Rel K H ι d v->Rel K H (Ix.cut ι n) d v
 |.ay,v,_,h=>h|.bl _,v,_,h=>h|.int _,v,_,h=>h|.str _,v,_,h=>h
 |.tup p,v,z,h=>by
  simp only[Rel]at h ⊢;obtain⟨a,i,e,b,f⟩:=h;refine⟨a,i,e,?_,ak.cut n p z f⟩;rcases b with⟨b,hn⟩|b
  . exact .inl ⟨b,λm=>hn (M3 m)⟩
  . exact .inr b
 |.lst p,v,z,h=>by
  simp only[Rel]at h ⊢;obtain⟨a,i,e,b,f⟩:=h;refine⟨a,i,e,?_,ak.cut n p z f⟩;rcases b with⟨b,hn,hh⟩|b
  . exact .inl ⟨b,λm=>hn (M3 m),hh⟩
  . exact .inr b
 |.eI,v,_,h=>by simp only[Rel]at h ⊢;obtain⟨a,e,b,f⟩:=h;exact⟨a,e,b,λm=>f (M3 m)⟩
 |.ref k,v,z,h=>by simp only[Rel]at h ⊢;obtain⟨a,e,b⟩:=h;have j:k<n:=of_decide_eq_true z;exact⟨a,e,by show(ι.ix.take n)[k]? = some a;rw[XH j];exact b.1,b.2⟩
 |.bq k,v,z,h=>by simp only[Rel]at h ⊢;obtain⟨a,e,b⟩:=h;have j:k<n:=of_decide_eq_true z;exact⟨a,e,by show(ι.ix.take n)[k]? = some a;rw[XH j];exact b.1,b.2⟩
 |.fn x ds,v,z,h=>by simp only[Rel]at h ⊢;obtain⟨a,i,e,b,f⟩:=h;exact⟨a,i,e,b.mono λc u _ q=>⟨q.1,λm=>q.2.1 (M3 m),q.2.2⟩,ak.cut n ds z f⟩
theorem ak.cut {K H ι}(n:Nat):∀(ds:List D) {g:List V},aP n ds=true->ak K H ι ds g->ak K H (Ix.cut ι n) ds g
 | [],g,_,h=>h|d::ds,g,z,h=>by simp only[ak]at h ⊢;simp only[aP,la]at z;obtain⟨v,e,a,c,b⟩:=h;exact⟨v,e,a,Rel.cut n d z.1 c,ak.cut n ds z.2 b⟩
end
theorem az.cut {K H ι g}(n:Nat)(h:az K H ι g)(z:(g.take n).all (aP n)=true):az K H (Ix.cut ι n) (g.take n):=by
 refine⟨h.nd.sublist (aff _ _),by simp[Ix.cut,h.len],λb e=>⟨λm=>(h.cP b e).1 (M3 m),(h.cP b e).2⟩,λi p q=>?_,λq f=>⟨(h.tb q f).1,λm=>(h.tb q f).2 (M3 m)⟩⟩;have c:i<n:=by have:=(l8.mp q).1;rw[yX]at this;lia
 rw[XH c]at q;obtain⟨a,o,r,s,k,l,j⟩:=h.at_ i p q;refine⟨a,o,r,(by show(ι.ix.take n)[i]? = some a;rw[XH c];exact s),k,l,ak.cut n p ?_ j⟩;exact EN.mp z p (qt (i:=i) (by rw[XH c];exact q))
theorem Ext.cut {H ι H' b n}(e:Ext H ι H' b)(c:ι.ix.length=n):Ext H ι H' (Ix.cut b n):=by obtain⟨m,a,f⟩:=e.more;refine⟨e.same,e.there,⟨[],?_,λ_ z=>by simp at z⟩,e.cP,e.mU⟩;subst c;show b.ix.take _=_;rw[a];simp
def Ca {K H ι g H' A g' d E C v}(G0:az K H ι g)(e:Ext H ι H' A)(B:az K H' A g')(r:Rel K H' A d v)(h:B4 g.length d g'=some (C,E)):
   ∃n,Ext H ι H' n/\az K H' n E/\Rel K H' n C v:=by
 unfold B4 at h;split at h
 . cases h;exact⟨A,e,B,r⟩
 split at h
 . rename_i z
   refine⟨Ix.cut A g.length,e.cut G0.len,?_⟩;have p:=B.cut g.length z;split at h
   . rename_i k
     split at h
     . rename_i f
       cases h;exact⟨p,Rel.cut _ _ (decide_eq_true f) r⟩
     . rename_i f
       split at h
       . rename_i I q
         split at h
         . rename_i c
           cases h;refine⟨p,?_⟩;simp only[Rel]at r ⊢;obtain⟨a,rfl,b⟩:=r;obtain⟨o,s,x⟩:=B.at q b;refine⟨a,o,rfl,.inl ⟨.inl s,λm=>?_,λm=>(B.cP a m).1 (qt b.1)⟩,ak.cut _ _ c x⟩;obtain⟨j,i,l⟩:=NX.mp (show a∈A.ix.take g.length from m);have J:j<g.length:=by rw[yX]at i;lia
           have y:j < A.ix.length:=by rw[yX]at i;lia
           rw[ag2]at l;obtain⟨O,u⟩:=l8.mp b.1;have:j=k:=(afy B.nd).mp (l.trans u.symm);lia
         . cases h
       . cases h
   . split at h
     . rename_i c
       cases h;exact⟨p,Rel.cut _ _ c r⟩
     . cases h
 . cases h
def Ji {K:KW}{P n f e ps}{fn:Fn}(c:∀ds g,fn ds g=none):d_ k K.w K.fr K.mg A h_ P f e ps (kD K n fn):=
 ⟨λb H Q E t=>(by obtain⟨_,i,g,ds,d,a,_,_,h,_⟩:=t;rw[c]at h;cases h),λbase outer s H args p b Q E _ _ _ _ t=>(by obtain⟨_,i,g,ds,d,a,_,_,h,_⟩:=t;rw[c]at h;cases h)⟩
def Af {K H ι ds vs}(r:ak K H ι ds vs)(f:ds.length<=U.length):bO K H ι (ds.map some++l6 (U.length-ds.length) none) (p8 U vs):=by
 have e:=r.length;refine⟨by unfold p8;simp[e],λi d q=>?_⟩;have a:i<ds.length:=by
  by_cases a:i<ds.length
  . exact a
  . rw[th (by simpa using a),afL]at q
    split at q<;>cases q
 rw[m5 (by simpa using a),m2]at q;cases hd:ds[i]? with
 |none=>rw[hd]at q;cases q
 |some g =>
  rw[hd]at q;cases q;obtain⟨v,c,b⟩:=r.get hd;refine⟨v,?_,b⟩;unfold p8;rw[m5 (by rw[oY,<- e];exact a),m2,c];rfl
def Qu {K:KW}{C:Str}{ps:List Str}{b:FS}(F:x9 K.fr x C t f j)(S:jM U ps (aX t))(L:ps.length<=U.length)(M:∀(n:Value) (J:nc) (outer:List Env) (s:j0) (H:Hp) (E:XK),j.code=n->dy i (J.deeper (MT C (aX t) s.heap.objs.size f n)) ->
   k8 (lT K.lx h_ k K.w K.fr K.mg A U C (aX t) f n J outer s H E).ve (d7 t) b):d_ k K.w K.fr K.mg A h_ (i+1) f j ps (kD K ps.length (aq a U.length ps.length b)):=by
 refine F.ok (lx:=K.lx) S (λvs H Q E h=>h.1) (λn J outer s H vs Q E y hr h=>?_);obtain⟨u,ι,g,ds,d,g',G0,r,h,p⟩:=h;refine⟨_,(M n J outer s H E y hr).un,?_⟩;unfold aq at h;have I:ds.length=ps.length:=by rw[r.length];exact u
 rw[if_pos I]at h;obtain⟨⟨B,R,Y⟩,h1,h⟩:=bind_some h;refine⟨ι,_,g,B,R,Y,G0,Af r (by rw[I];exact L),by rw[I];exact h1,λO o q l=>?_⟩;have fin:∀{N v},Rel K O o N v->(if a then some (N,Y)else B4 g.length N Y)=some (d,g')->Q v O:=fun {N v} e c=>by
  cases a with
  |true=>simp only[if_true]at c;cases c;exact p O o v q l e
  |false =>
   simp only[pA,if_false]at c;obtain⟨Z,e2,z,r2⟩:=Ca G0 q l e c;exact p O Z v e2 z r2
 cases B with
 |rt N=>exact λv e=>fin e h|nx=>exact λσ' S'=>fin (v:=.ay) (by simp[Rel]) h|bk=>cases h|ct=>cases h
noncomputable def ao (fn:Fn)(fr:FA):FE:=λc g=>(fr c g).bind λr=>fn r.1 r.2
def pL {fr:FA}{fn:Fn}{K}(q:∀ds g r,fn ds g=some r->ds.length=i)(h:tD K (ao fn fr) v H m):uE (kD K i fn) [] E0 (iz K fr) v H m:=by obtain⟨x,o,g,d,f,G0,b,h,p⟩:=h;obtain⟨⟨ds,u⟩,e,h⟩:=bind_some h;refine iz.bind G0 b e λy n k j c l a=>?_;rw[tA];exact⟨by rw[<- a.length];exact q _ _ _ h,n,u,ds,d,f,c,a,h,p.mono j⟩
def Jj {fr:FA}{fn:Fn}(F:d_ X.prog X.w X.kw X.mg X.base h_ i f j U (kD X.kw o fn))(n:dy i X.A)(b:X.mg x=some (.ref f))(pos:KR X.kw (.ref f)=true)(c:Gj X.kw j U [])(s:∀ds g r,fn ds g=some r->ds.length=o)(fd:DA X (e::B) fr)(l:Gl X x)(u:(x == ("__debug__":Str))=false)(k:lY (e::B) X.env=(false,eval e X.env)::lY B X.env)(a:(su q (lY B X.env)).any (·.1)=false):
  DE X (.Call (.Name x p) (e::B) [] q) (ao fn fr):=.of (
 PE.imp (IH F n l b pos c .nil Aa fd.un u k a) λv H Q h=>pL s h)
def E3 {fn:Fn}(F:d_ X.prog X.w X.kw X.mg X.base h_ i f j U (kD X.kw o fn))(l:dy i X.A)(k:X.mg x=some (.ref f))(s:KR X.kw (.ref f)=true)(ps:Gj X.kw j U [])(u:∀ds g r,fn ds g=some r->ds.length=o)(fd:Gl X x)(v:(x == ("__debug__":Str))=false):
  DE X (.Call (.Name x p) [] [] q) (ao fn ag):=.of (
 PE.imp (EC F l fd k s ps .nil Aa v) λy H Q h=>by have pos:=pL u h;obtain⟨n,c,g,d,a,G0,b,h,p⟩:=pos;cases h;exact p H n [] Ext.refl G0 (by simp[ak]))
def tK {b:FS}:∀ds g r,aq a i o b ds g=some r->ds.length=o:=λds g r h=>by
 unfold aq at h;split at h
 . assumption
 . cases h
def E4 {fr:FA}{id:String}{o:Fn}(A:dX X (.builtin id) (kA X.kw o))(u:X.mg x=none)(z:Nu x=some (.builtin id))(v:DA X (e::B) fr)(y:Gl X x)(C:x ≠ "__name__")(E:(x == ("__debug__":Str))=false)(n:lY (e::B) X.env=(false,eval e X.env)::lY B X.env)(s:(su q (lY B X.env)).any (·.1)=false):DE X (.Call (.Name x p) (e::B) [] q) (ao o fr):=.of (
 PE.imp (ED A y u z v.un C E n s) λJ H Q h=>by obtain⟨O,r,g,d,i,G0,a,h,p⟩:=h;obtain⟨⟨ds,I⟩,f,h⟩:=bind_some h;exact iz.bind G0 a f λR j l k c pos b=>⟨j,I,ds,d,i,c,b,h,p.mono k⟩)
def Cb {fr:FA}{T:String}{o:Fn}(A:dX X (.type T) (kA X.kw o))(u:X.mg x=none)(z:Nu x=some (.type T))(v:DA X (e::B) fr)(y:Gl X x)(C:x ≠ "__name__")(E:(x == ("__debug__":Str))=false)(n:lY (e::B) X.env=(false,eval e X.env)::lY B X.env)(s:(su q (lY B X.env)).any (·.1)=false):DE X (.Call (.Name x p) (e::B) [] q) (ao o fr):=.of (
 PE.imp (BN A y u z v.un C E n s) λJ H Q h=>by obtain⟨O,r,g,d,i,G0,a,h,p⟩:=h;obtain⟨⟨ds,I⟩,f,h⟩:=bind_some h;exact iz.bind G0 a f λR j l k c pos b=>⟨j,I,ds,d,i,c,b,h,p.mono k⟩)
noncomputable def kP (g:Scope)(env:Env):List (Str×Addr):=(g.names.filterMap λx=>if x.2 == .free then(env.cells.lookup x.1).map λc=>(x.1,c)else none).reverse
def uw (h:∀x∈M.names,x.2 = .free->∃c,K.cells.lookup x.1=some c):Y7 M K=pure (kP M K):=by
 have i:∀(l:List (Str×v7)) (g:List (Str×Addr)),(∀x∈l,x.2 = .free->∃c,K.cells.lookup x.1=some c) ->
   (forIn l g λx r=>if(x.2 == vt)=true then(do let c <- cellOf K x.1;pure (T1 ((x.1,c)::r)))else pure (T1 r):Sem (List (Str×Addr)))=
     pure ((l.filterMap λx=>if x.2 == .free then(K.cells.lookup x.1).map λc=>(x.1,c)else none).reverse++g):=by
  intro l;induction l with
  |nil=>intro g _;rfl
  |cons x r p =>
   intro g e;rw[aeF];by_cases n:x.2 = .free
   . obtain⟨c,f⟩:=e x qc n
     have a:(x.2 == vt)=true:=by rw[n];rfl
     rw[if_pos a];simp only[cellOf,f,pure_bind,Bu,a,if_true,F1,List.reverse_cons,sP,aga];exact p _ λy b=>e y (nW _ b)
   . have a:(x.2 == vt)=false:=by simpa using n
     simp only[a,pA,if_false,pure_bind,Bu];exact p _ λy b=>e y (nW _ b)
 have:=i M.names [] h;rw[tA]at this;unfold Y7 kP;simp only[bind_pure_comp]at this ⊢;first
  | (simpa using this)
  |exact this
noncomputable def cellsOf (c:Scope)(env:Env)(C:Addr):List (Str×Addr):=tc (C+1) c.names (kP c env)
def k_ {k:v7}{r:List (Str×v7)}:tc i ((x,k)::r) n=if(k == v5)=true then tc (i+1) r ((x,i)::n)else tc i r n:=rfl
theorem kE {x:Str}{c:Addr}:∀{names:List (Str×v7)} {n:Nat} {g:List (Str×Addr)},(tc n names g).lookup x=some c->((x,v5)∈names/\n<=c)\/(g.lookup x=some c/\(x,v5) ∉ names)
 | [],_,_,h=>.inr ⟨h,by simp⟩
 | (y,k)::r,n,g,h=>by
  rw[k_]at h;split at h
  . rename_i a
    have a:k=v5:=by simpa using a
    subst a;rcases kE h with⟨h1,h2⟩|⟨h1,h2⟩
    . exact .inl ⟨nW _ h1,by lia⟩
    . by_cases e:x=y
      . subst e
        rw[vb,show(x == x)=true by simp]at h1;cases h1;exact .inl ⟨qc,lb _⟩
      . rw[vb,show(x == y)=false by simpa using e]at h1
        exact .inr ⟨h1,λz=>by rcases l2.mp z with z|z;(cases z;exact e rfl);exact h2 z⟩
  . rename_i a
    rcases kE h with⟨h1,h2⟩|⟨h1,h2⟩
    . exact .inl ⟨nW _ h1,h2⟩
    . exact .inr ⟨h1,λz=>by rcases l2.mp z with z|z;(cases z;exact a rfl);exact h2 z⟩
theorem qz {x:Str}{c:Addr}:∀{names:List (Str×v7)} {n:Nat} {g:List (Str×Addr)},(x,v5) ∉ names->g.lookup x=some c->(tc n names g).lookup x=some c
 | [],_,_,_,h=>h
 | (y,k)::r,n,g,i,h=>by
  have b:(x,v5) ∉ r:=λz=>i (nW _ z);rw[k_];split
  . rename_i a
    have a:k=v5:=by simpa using a
    subst a;refine qz b ?_;have e:x≠y:=λe=>i (by rw[e];exact qc);rw[vb,show(x == y)=false by simpa using e];exact h
  . exact qz b h
theorem vH {x:Str}:∀{names:List (Str×v7)} {n:Nat} {g:List (Str×Addr)},((x,v5)∈names \/ ∃c,g.lookup x=some c)->∃c,(tc n names g).lookup x=some c
 | [],_,_,h=>by rcases h with h|h;(cases h);exact h
 | (y,k)::r,n,g,h=>by
  rw[k_];split
  . rename_i a
    refine vH ?_;rcases h with h|⟨c,h⟩
    . rcases l2.mp h with z|z
      . cases z;exact .inr ⟨n,by simp⟩
      . exact .inl z
    . right
      rw[vb];split
      . exact⟨_,rfl⟩
      . exact⟨c,h⟩
  . rename_i a
    refine vH ?_;rcases h with h|h
    . rcases l2.mp h with z|z
      . cases z;exact absurd rfl a
      . exact .inl z
    . exact .inr h
theorem vI:∀{names:List (Str×v7)} {n:Nat} {g:List (Str×Addr)},(∀x c,g.lookup x=some c->c<n)->(∀x y c,g.lookup x=some c->g.lookup y=some c->x=y)->∀x y c,(tc n names g).lookup x=some c->(tc n names g).lookup y=some c->x=y
 | [],_,_,_,i=>i
 | (z,k)::r,n,g,p,i=>by
  intro x y c;rw[k_];split
  . refine vI (λx c h=>?_) (λx y c b a=>?_) x y c
    . rw[vb]at h
      split at h
      . cases h;exact UY _
      . exact H9 (p x c h)
    . rw[vb]at b a
      split at b
      . rename_i e
        cases b;split at a
        . rename_i f
          rw[eq_of_beq e,eq_of_beq f]
        . exact absurd (p y _ a) (Ac _)
      . split at a
        . cases a;exact absurd (p x _ b) (Ac _)
        . exact i x y c b a
  . exact vI p i x y c
theorem pM {M:Model}{A:nc}{E:Value->j0->Prop}:∀(names:List (Str×v7)) (g:List (Str×Addr)) (s:j0) (Q:List (Str×Addr)->j0->Prop),
  (∀x c,g.lookup x=some c->c<s.heap.objs.size) ->
  (∀n,(∀b o,s.heap.get? b=some o->n.get? b=some o)->(∀x c,(tc s.heap.objs.size names g).lookup x=some c->s.heap.objs.size<=c->n.IsCell c none)->Q (tc s.heap.objs.size names g) { s with heap:=n }) ->
  wpAny M A (forIn names g λx r=>if(x.2 == v5)=true then(do let c <- alloc { cls:=rn "cell",data:=X1 none };pure (T1 ((x.1,c)::r)))else pure (T1 r)) Q E s
 | [],g,s,Q,p,h=>by rw[ahY];exact kn (h s.heap (λ_ _ e=>e) λx c f j=>absurd (p x c f) (Nat.not_lt.mpr j))
 | (y,k)::r,g,s,Q,p,h=>by
  rw[aeF];rw[k_]at h;dsimp only;split
  . rename_i i
    rw[if_pos i]at h;refine jg (jg (ahb (kn ?_)));have sz:(s.heap.push { cls:=rn "cell",data:=X1 none }).objs.size=s.heap.objs.size+1:=GG ..;refine pM r _ _ Q (λx c e=>?_) λn l a=>?_
    . show c<(s.heap.push _).objs.size
      rw[sz];rw[vb]at e;split at e
      . cases e;exact UY _
      . exact H9 (p x c e)
    . have a:∀x c,(tc (s.heap.push { cls:=rn "cell",data:=X1 none }).objs.size r ((y,s.heap.objs.size)::g)).lookup x=some c->(s.heap.push { cls:=rn "cell",data:=X1 none }).objs.size<=c->n.IsCell c none:=a
      show Q (tc (s.heap.push { cls:=rn "cell",data:=X1 none }).objs.size r ((y,s.heap.objs.size)::g)) _;rw[sz]at a ⊢;refine h n (λb o e=>l b o (mn _ e)) λx c f j=>?_;rcases Nat.lt_or_eq_of_le j with e3|e3
      . exact a x c f e3
      . subst e3
        exact⟨_,l _ _ (n3 _ rfl),rfl⟩
  . rename_i i
    rw[if_neg i]at h;refine jg (kn ?_);exact pM r g s Q p h
def xO {A:Model}{Q:Env->j0->Prop}(r:∀env c,n.lookup env=some c->c<s.heap.objs.size)(h:∀p:Heap,p.Ns s.heap.objs.size (λ_=>none)->(∀b o,s.heap.get? b=some o->p.get? b=some o)->(∀env c,(tc (s.heap.objs.size+1) M.names n).lookup env=some c->s.heap.objs.size+1<=c->p.IsCell c none) ->
    Q (newEnv M s.heap.objs.size f (tc (s.heap.objs.size+1) M.names n) x none xa (some K) Y6) { s with heap:=p }):
   wpAny A O (newFunctionEnv M f n [] x none xa (some K)) Q E s:=by
 unfold newFunctionEnv;have sz:∀o:Obj,(s.heap.push o).objs.size=s.heap.objs.size+1:=λo=>GG ..;refine jg (ahb (jg ?_));refine pM M.names n _ _ (λenv c e=>?_) λg i a=>?_
 . show c<(s.heap.push _).objs.size
   rw[sz];exact H9 (r env c e)
 . refine jg ?_
   rw[ahY];refine kn (kn ?_);have a:∀env c,(tc (s.heap.push { cls:=rn (if(some K).isSome=true then "dict" else "frame"),data:=ah7 #[] }).objs.size M.names n).lookup env=some c->(s.heap.push { cls:=rn (if(some K).isSome=true then "dict" else "frame"),data:=ah7 #[] }).objs.size<=c->g.IsCell c none:=a;rw[sz]at a;have:=h g ⟨_,_,_,i _ _ (n3 _ rfl),rfl,by intro k j;simp at j,λ_=>rfl⟩ (λb o e=>i b o (mn _ e)) a;show Q (newEnv M s.heap.objs.size f (tc (s.heap.push { cls:=rn (if(some K).isSome=true then "dict" else "frame"),data:=ah7 #[] }).objs.size M.names n) x none xa (some K) Y6) { s with heap:=g };rw[sz];exact this
noncomputable def bh (X:Cx)(N:List Str)(scope:Scope)(C:Addr)(s3:j0)(H:Hp)(fp:List Addr)(a8:List (Addr×Obj)):Cx where
 prog:=X.prog
 w:=X.w
 K:=X.kw
 mg:=X.mg
 base:=X.base
 A:=X.A
 N:=N
 s₀:=s3
 H₀:=H
 env:=compEnvC scope (cellsOf scope X.env C) C X.env
 outer:=X.stack
 stack:=X.stack
 ex:=fp
 calm:=X.calm
 fn:=λx=>scope.names.any λy=>y.1 == x&&y.2 == .cell
 pn:=X.pn++a8
 xe:=λ_ _=>False
 lx:=X.lx
structure eY (X:Cx)(N:List Str)(fr:List (Option Nat))(scope:Scope):Prop where
 kind:scope.kind = .function
 cells:∀y∈scope.names,y.2 = .cell->scope.names.lookup y.1=some .cell
 names:∀y∈scope.names,y.2 = .local->scope.names.lookup y.1=some .local
 free:∀y∈scope.names,y.2 = .free->scope.names.lookup y.1=some .free/\(X.env.kindOf y.1=some .cell\/X.env.kindOf y.1=some .free)
 len:fr.length=N.length
 slots:∀(j i:Nat),fr[j]? = some (some i)->∃x,N[j]? = some x/\X.N[i]? = some x/\scope.names.lookup x=some .free
noncomputable def cq {a:Type}(fr:List (Option Nat))(c:List (Option a)):List (Option a):=fr.map λo=>match o with|some i=>(c[i]?).join|none=>none
def vJ:(Up M K).kind=M.kind:=rfl
def E5 (h:(x,f)∈kP M K):(x,vt)∈M.names/\K.cells.lookup x=some f:=by
 unfold kP at h;rw[aej,OW]at h;obtain⟨y,a,e⟩:=h;split at e
 . rename_i b
   cases c:K.cells.lookup y.1 with
   |none=>rw[c]at e;cases e
   |some g =>
    rw[c]at e;cases e;have:y.2=vt:=by simpa using b
    exact⟨by rw[<- this];exact a,c⟩
 . cases e
theorem mV {b:Type}:∀{l:List (Str×b)} {x:Str} {c:b},(x,c)∈l->∃d,l.lookup x=some d
 | [],_,_,h=>nomatch h
 | (y,d)::r,x,c,h=>by
  by_cases e:x=y
  . subst e;exact⟨d,by simp⟩
  . rcases l2.mp h with z|z
    . cases z;exact absurd rfl e
    . obtain⟨a,q⟩:=mV z
      exact⟨a,by rw[vb];simp[show(x == y)=false by simpa using e,q]⟩
def fH (h:(kP M K).lookup x=some f):(x,vt)∈M.names/\K.cells.lookup x=some f:=E5 (vD h)
def vK (b:(x,vt)∈M.names)(a:K.cells.lookup x=some f):(kP M K).lookup x=some f:=by
 have m:(x,f)∈kP M K:=by unfold kP;rw[aej,OW];exact⟨_,b,by simp[a]⟩
 obtain⟨d,q⟩:=mV m;have:=(fH q).2;rw[a]at this;cases this;exact q
def vL {scope:Scope}{env:Env}(h:(Up scope env).names.lookup x=some .cell\/(Up scope env).names.lookup x=some .free):(x,vt)∈scope.names\/(x,v5)∈scope.names:=by
 have m:∃k,(x,k)∈(Up scope env).names/\(k = .cell\/k = .free):=by
   rcases h with h|h
   . exact⟨_,vD h,.inl rfl⟩
   . exact⟨_,vD h,.inr rfl⟩
 obtain⟨k,m,a⟩:=m;unfold Up at m;rw[mM]at m;obtain⟨⟨n,b⟩,hm,e⟩:=m;dsimp only at e;split at e
 . rename_i z
   cases e;simp only[la]at z;have:b=vt:=by simpa using z.1.1
   subst this;exact .inl hm
 . cases e
   rcases a with rfl|rfl
   . exact .inr hm
   . exact .inl hm
theorem iB {env:Env}:∀{names:List (Str×v7)} {x:Str},names.lookup x=some .free ->
  (names.map λ(n,k)=>if(k == vt&&env.scope.kind == .function&&env.kindOf n == some .cell)then(n,v5)else(n,k)).lookup x=some .cell \/
  (names.map λ(n,k)=>if(k == vt&&env.scope.kind == .function&&env.kindOf n == some .cell)then(n,v5)else(n,k)).lookup x=some .free
 | [],_,h=>by simp at h
 | (n,k)::r,x,h=>by
  have g:=@iB env r x;show List.lookup x ((if(k == vt&&env.scope.kind == .function&&env.kindOf n == some .cell)=true then(n,v5)else(n,k))::_)=_\/List.lookup x ((if(k == vt&&env.scope.kind == .function&&env.kindOf n == some .cell)=true then(n,v5)else(n,k))::_)=_;cases c:x == n with
  |true =>
   simp only[vb,c]at h;cases h;split
   . left;simp[vb,c]
   . right;simp[vb,c]
  |false =>
   simp only[vb,c]at h;split
   . simp only[vb,c];exact g h
   . simp only[vb,c];exact g h
def Qv (I:jo X b v H s):∀x c,(kP M X.env).lookup x=some c->c<s.heap.objs.size:=λx c e=>by obtain⟨g,o,a,_⟩:=I.cell x c (fH e).2;exact mA a
def Ag {scope:Scope}{tk:Nat}(ok:eY X U z scope)(I:jo X b v H s)(B:∀fr∈T,fS X b H fr)(E:∀fr∈T,fr<s.heap.objs.size)(K:A.Ns s.heap.objs.size λ_=>none)(C:∀fr o,s.heap.get? fr=some o->A.get? fr=some o)(J:∀x c,(cellsOf scope X.env s.heap.objs.size).lookup x=some c->s.heap.objs.size+1<=c->A.IsCell c none):
   jo (bh X U scope s.heap.objs.size s H T b) [] (cq z v) H { s with heap:=A,toks:=tk }:=by
 have r:jo X b v H { s with heap:=A,toks:=tk }:=I.kept C;have u_:∀fr∈kz X.stack,fr∈X.env.locals::X.fs:=I.qg;have lc:∀x c,(cellsOf scope X.env s.heap.objs.size).lookup x=some c->(s.heap.objs.size+1<=c/\A.IsCell c none)\/X.env.cells.lookup x=some c:=λx c e=>by
   rcases kE e with⟨_,g⟩|⟨g,_⟩
   . exact .inl ⟨g,J x c e g⟩
   . exact .inr (fH g).2
 have lo:∀x c,X.env.cells.lookup x=some c->c<s.heap.objs.size:=λx c e=>by obtain⟨O,o,eo,_⟩:=I.cell x c e;exact mA eo
 have Si:∀y,(y,vt)∈scope.names->(y,v5) ∉ scope.names:=λy A l=>by have:=(ok.free _ A rfl).1;rw[show scope.names.lookup y=some .cell from ok.cells _ l rfl]at this;cases this
 refine⟨⟨I.ok.mod,?_,I.ok.glob,I.ok.blt,lb _,?_,?_,?_,I.ok.hd,I.ok.frames,.inl rfl,?_,I.bs,n7 I.ok.nq I.sz,?_,?_,I.stack,I.xY⟩,rfl,I.bare,Un.kept C,
   ⟨_,K,?_⟩,?_,I.aV.fresh (lb _),?_,?_,r.aV,?_⟩
 . show(Up scope X.env).kind = .function
   rw[vJ];exact ok.kind
 . refine vI (λx c e=>H9 (lo x c (fH e).2)) λx y c A l=>?_
   exact I.ok.inj x y c (fH A).2 (fH l).2
 . intro x h
   rcases vL (scope:=scope) (env:=X.env) h with m|m
   . obtain⟨c,Q⟩:=I.ok.has x (ok.free _ m rfl).2
     exact⟨c,qz (Si x m) (vK m Q)⟩
   . exact vH (.inl m)
 . intro x c h e
   rcases kE e with⟨_,g⟩|⟨_,g⟩
   . exact ad6 g
   . refine absurd ?_ g
     have h:(scope.names.any λy=>y.1 == x&&y.2 == .cell)=true:=h;rw[aek]at h;obtain⟨⟨y,k⟩,N,R⟩:=h;simp only[la]at R;have e3:k=v5:=by simpa using R.2
     rw[<- eq_of_beq R.1,<- e3];exact N
 . intro fr f
   refine⟨oZ (E fr f),λx c e=>?_⟩;rcases lc x c e with⟨g,_⟩|g
   . exact λq=>absurd (E fr f) (Nat.not_lt.mpr (by rw[<- q];exact ad6 g))
   . exact(B fr f).2.2.2.2.1 x c g
 . intro fr o e f
   obtain⟨_,_,_,g,_⟩:=B fr f;rcases g with g|g
   . exact I.ok.pH fr o e g
   . exact absurd (sY (sY (mA e) I.ok.nq) g) (Ac _)
 . intro fr f g
   obtain⟨_,n1,n2,_⟩:=B fr f;rcases l2.mp (u_ fr g)with q|q
   . exact n1 q
   . exact n2 q
 . intro j x O A l h3
   have a:(cq z v)[j]? = some (some O):=l;unfold cq at a;rw[m2]at a;cases Y:z[j]? with
   |none=>rw[Y]at a;cases a
   |some o =>
     rw[Y]at a;cases o with
     |none=>cases a
     |some i =>
       obtain⟨y,N,hi,qh⟩:=ok.slots j i Y;have e:x=y:=by have ym:U[j]? = some x:=A;rw[N]at ym;cases ym;rfl
       subst e;have Z:v[i]? = some (some O):=by
         simp only[F1,afh]at a;cases q:v[i]? with
         |none=>rw[q]at a;cases a|some w=>rw[q]at a;simp at a;rw[a]
       have m:=vD qh;obtain⟨_,uF⟩:=ok.free _ m rfl;obtain⟨mm,hn,hl⟩:=r.loc;obtain⟨u,ru,lk⟩:=hl i x O hi Z (by rcases uF with k|k;exact .inr (.inl k);exact .inr (.inr k));refine⟨u,ru,.inr ⟨iB qh,?_⟩⟩;rcases lk with⟨kl,_⟩|⟨_,c,Q,gk⟩
       . rcases uF with k|k<;>(rw[k]at kl;cases kl)
       . exact⟨c,qz (Si x m) (vK m Q),gk⟩
 . intro x c e
   rcases lc x c e with⟨_,g⟩|g
   . exact⟨_,g⟩
   . exact r.cell x c g
 . intro x c e
   rcases lc x c e with⟨g,_⟩|g
   . exact I.aV.fresh (ad6 g)
   . exact I.gH x c g
 . intro p hp
   have yh:p∈X.pn++b:=by have q:p∈(X.pn++b) ++ []:=hp;simpa using q
   obtain⟨e,n,ne,nf,d⟩:=r.pin p yh;refine⟨e,n,oZ ?_,λg=>?_,d⟩
   . exact mA (I.pin p yh).1
   . rcases l2.mp (u_ _ g)with q|q
     . exact ne q
     . exact nf q
 . show(cq z v).length=U.length
   unfold cq;rw[oY];exact ok.len
noncomputable def cQ (t:FG)(c:FT)(e:FE):List D->Sg->G->Option (List D×G)
 | [],_,g=>some ([],g)|d::ds,h,g=>(t d h g).bind λq=>(c q.1 q.2).bind λk=>if k.1=true then(e q.1 k.2).bind λr=>(cQ t c e ds q.1 r.2).bind λz=>some (r.1::z.1,z.2)else cQ t c e ds q.1 k.2
noncomputable def U9 (X:Cx)(g:List Expr)(t:TT):Prop :=
 ∀(i:List (Addr×Obj)) (s:j0) (h:ko) (H:Hp) (Q:Bool->Hp->Prop),jo X i h H s->t h H Q ->
  wpAny (model X.prog X.w) X.A (forIn g true λc r=>if r=true then do let ok <- isTrue c X.env (eval c X.env);pure (T1 ok)else pure (T1 r)) (TP X i h Q) X.xe s
structure gJ (X:Cx)(ifs:List Expr)(f:FT):Prop where of ::
 un:U9 X ifs (k6 X.kw f)
noncomputable def b9:FT:=λ_ g=>some (true,g)
def E6:gJ X [] b9:=.of (λn s q H Q I h=>by obtain⟨i,e,g,b,c,G0,a,h,p⟩:=h;cases h;exact wpAny_tests_nil ⟨H,I,p H i Ext.refl G0⟩)
def E_ {f:FT}(h:DT X c f):gJ X [c] f:=.of (λg s i H Q I q=>wpAny_tests_one (h.un g s i H Q I q))
def Ext.GL {y v H' s p x u}(a:Ext y v H' s)(b:Ext H' (Ix.hide s p) x u):Ext y v x ⟨u.ix,s.hd,u.kd⟩/\u=Ix.hide ⟨u.ix,s.hd,u.kd⟩ p:=by
 have j:u.hd=p::s.hd:=b.cP;obtain⟨k,e,g⟩:=a.more;obtain⟨f,r,B⟩:=b.more;refine⟨⟨λc o h n=>b.same c o (a.same c o h n) (a.old h n),λc h=>b.there c (a.there c h),⟨k++f,?_,λc z=>?_⟩,a.cP,λi l=>(b.mU i (show i < s.ix.length by rw[e,lN];lia)).trans (a.mU i l)⟩,?_⟩
 . show u.ix=_
   rw[r];show s.ix++f=_;rw[e,sP]
 . rcases mF.mp z with z|z
   . exact g c z
   . cases q:y c with
     |none=>rfl|some o=>exact absurd (B c z) (a.there c (by rw[q];simp))
 . cases u with
   |mk ix hd kd=>dsimp only at j;rw[j];rfl
def Ext.GO {f b H' ιo p o}(a:Ext f b H' ιo)(i:f p=none):Ext f b (upd H' p o) ιo :=
 ⟨λc u h n=>by rw[aF (aM h i)];exact a.same c u h n,λc h=>by
  by_cases e:c=p
  . subst e;rw[aQ];simp
  . rw[aF e];exact a.there c h,a.more,a.cP,a.mU⟩
def Ext.U_ {f e H' c p}(a:Ext f e H' c)(h:f p=none):jC f e H' (Ix.hide c p):=
 ⟨a.same,a.there,a.more,⟨[p],by show p::c.hd=_;rw[a.cP];rfl,λb z=>by simp at z;subst z;exact h⟩,a.mU⟩
noncomputable abbrev Sh:=G->Option (List D)
noncomputable abbrev qA:=Sg->G->Option (Sh×Nat×G)
noncomputable def Ah (K:KW)(J:It)(H:Hp)(q:Ix)(sh:Sh)(L:Nat):Prop :=
 ∀(i:Nat) g c n,jC H q g c->az K g c n->∀p,sh n=some p->p.length=L->(L<=i->J.stop i g) /\ ∀d,p[i]? = some d->J.go i g /\ ∀x h,J.By i g x h->Ext g c h c/\az K h c n/\Rel K h c d x
inductive MC (K:KW)(f:qA)(σ:ko)(H:Hp)(R:(It->Hp->Prop)):Prop
 |mk (ι:Ix) (σd:Sg) (g:G) (sh:Sh) (L:Nat) (g':G) (h0:az K H ι g) (h1:bO K H ι σd σ) (h2:f σd g=some (sh,L,g')) (h3:∀H' ι' J,Ext H ι H' ι'->az K H' ι' g'->Ah K J H' ι' sh L->R J H'):MC K f σ H R
structure vM (X:Cx)(tg iter:Expr)(f:qA):Prop where of ::
 un:PI X tg iter (MC X.kw f)
noncomputable def dY (sh:Sh)(L:Nat)(t:FG)(c:FT)(e:FE):Nat->Sg->G->Option (List D×G)
 | 0,_,g=>(sh g).bind λh=>if h.length=L then some ([],g)else none|r+1,i,g=>(sh g).bind λh=>if h.length=L then(h[L-(r+1)]?).bind λd=>(t d i g).bind λq=>(c q.1 q.2).bind λk=>if k.1=true then(e q.1 k.2).bind λa=>(dY sh L t c e r q.1 a.2).bind λz=>some (a.1::z.1,z.2)else dY sh L t c e r q.1 k.2 else none
def Ai {sh:Sh}{t:FG}{c:FT}{e:FE}{q:Sg}{g p:G}{all:List D}(h:dY sh i t c e 0 q g=some (all,p)):∃n,sh g=some n/\n.length=i/\all = []/\p=g:=by
 simp only[dY]at h;obtain⟨n,a,h⟩:=bind_some h;split at h
 . rename_i z
   cases h;exact⟨n,a,z,rfl,rfl⟩
 . cases h
def Aj {sh:Sh}{t:FG}{c:FT}{e:FE}{p:Sg}{g:G}{L:List D×G}(h:dY sh i t c e (o+1) p g=some L):∃n d,sh g=some n/\n.length=i/\n[i-(o+1)]? = some d/\((t d p g).bind λq=>(c q.1 q.2).bind λk=>if k.1=true then(e q.1 k.2).bind λr=>(dY sh i t c e o q.1 r.2).bind λz=>some (r.1::z.1,z.2)else dY sh i t c e o q.1 k.2)=some L:=by
 simp only[dY]at h;obtain⟨n,a,h⟩:=bind_some h;split at h
 . rename_i z
   obtain⟨d,hd,h⟩:=bind_some h;exact⟨n,d,a,z,hd,h⟩
 . cases h
inductive CompI (X':Cx)(t:FG)(c:FT)(e:FE)(fp:List Addr)(Dl:Addr)(tn:Nat->Heap->Prop)(sh:Sh)(L:Nat)(all:List D)(H1:Hp)(ι1:Ix)(g':G)(n:Nat)(s:j0):Prop
 |mk (i:Nat) (σ:ko) (H:Hp) (ιo:Ix) (σd:Sg) (g:G) (vs:List V) (acc more:List D) (hn:n=L+1-i) (pj:i<=L) (I:jo X' [] σ H s) (ti:tn i s.heap) (GP:∀b∈fp,H b=none) (E1:Ext H1 ι1 H ιo) (G1:az X'.kw H (Ix.hide ιo Dl) g) (S1:bO X'.kw H (Ix.hide ιo Dl) σd σ)
  (GQ:H Dl=some (.lst vs)) (vN:ak X'.kw H (Ix.hide ιo Dl) acc vs) (Cc:acc.length<=i) (hf:dY sh L t c e (L-i) σd g=some (more,g')) (ea:all=acc++more):CompI X' t c e fp Dl tn sh L all H1 ι1 g' n s
def Cd {X':Cx}{t:FG}{scope:FT}{P:FE}{ifs:It}{N:Addr}{O:Nat->Heap->Prop}{all:List D}{sh:Sh}{C:Ix}{g':G}{R:Result->j0->Prop}(W:X'.xe=λ_ _=>False)(S:X'.calm=true)(L:Turn X'.prog X'.w X'.kw e ifs T f O)(XJ:∀b∈T,fS X' [] X'.H₀ b)(Z:Ah X'.kw ifs H C sh i)(hD:H N=none)(hz:i<=lX)(U:DG X' e t)(Y:gJ X' B scope)(he:DE X' c P)(fin:∀s' σ' H' p vs,jo X' [] σ' H' s'->(∀b∈T,H' b=none)->Ext H C H' p->az X'.kw H' (Ix.hide p N) g'->H' N=some (.lst vs)->ak X'.kw H' (Ix.hide p N) all vs->R (.ok .next) s'):
   ∀(s:j0) (σ:ko) (K:Hp) (p:Ix) (σd:Sg) (g:G),jo X' [] σ K s->O 0 s.heap->(∀b∈T,K b=none)->Ext H C K p->az X'.kw K (Ix.hide p N) g->bO X'.kw K (Ix.hide p N) σd σ->K N=some (.lst [])->dY sh i t scope P i σd g=some (all,g') ->
    F2 (model X'.prog X'.w) X'.A (.compLoop (.ListComp c [⟨e,J,B,0⟩] M q) 0 (.ref f) (.ref N) X'.env) R s:=by
 intro s σ K p σd g I t0 Sj E0 G0 S0 hH qB;have pI:∀{H':Hp},(∀b∈T,H' b=none)->∀b∈T,fS X' [] H' b:=λhn b hb=>⟨hn b hb,(XJ b hb).2⟩
 refine codeAny_loop rfl (CompI X' t scope P T N O sh i all H C g') ?_ (i+1)
   ⟨0,σ,K,p,σd,g,[],[],all,rfl,rb _,I,t0,Sj,E0,G0,S0,hH,by simp[ak],lb _,by simpa using qB,rfl⟩
 clear qB hH S0 G0 E0 Sj t0 I g σd p K σ s;rintro n s ⟨elt,σ,K,p,σd,g,vs,acc,more,rfl,pj,I,ti,GP,E1,G1,S1,GQ,vN,Cc,hf,rfl⟩;show wpAny _ X'.A ((compTurn (.ListComp c [⟨e,J,B,0⟩] M q) 0 (.ref f) (.ref N) X'.env).onRaise (λx=>do noteFrame x X'.env;theTreesLotGoes x)) _ _ s;refine wpAny_noted ?_;rw[compTurn_list];refine jg (afb (jg ?_));have j1:=Z elt K (Ix.hide p N) g (E1.U_ hD) G1;by_cases di:elt<i
 . rw[show i-elt=(i-(elt+1))+1 by lia]at hf
   obtain⟨xs,d0,mX,MD,Ce,hf⟩:=Aj hf;rw[show i-(i-(elt+1)+1)=elt by lia]at Ce;obtain⟨st,go⟩:=j1 xs mX MD;obtain⟨go,yl⟩:=go d0 Ce;refine a_ (L.item X' rfl rfl rfl S elt [] s σ K _ I (pI GP) ti go) λr s4 aT=>?_;obtain⟨u,hr,h4⟩:=aT;subst hr;refine jg (a_ h4 λ_ s5 aT=>?_);obtain⟨x,H5,I5,r5,y5,t5,Ls⟩:=aT;obtain⟨e5,G5,XM⟩:=yl x H5 y5;obtain⟨⟨σ6,g6⟩,h6,hf⟩:=bind_some hf;obtain⟨⟨k7,g7⟩,h7,hf⟩:=bind_some hf;have ab:=I5.pinned (pI Ls) (L.obj _ _ t5);have lift:∀{α:Type} {tr:Sem α} {Q:α->j0->Prop} {E:Value->j0->Prop} {s:j0},wpAny (model X'.prog X'.w) X'.A tr Q X'.xe s->wpAny (model X'.prog X'.w) X'.A tr Q E s:=λh=>Yq h (λ_ _ tg=>tg) λ_ _ z=>by rw[W]at z;exact z.elim
   have again:∀{s9:j0} {σ9:ko} {fp:Hp} {ι9:Ix} {GR:Sg} {g9:G} {GU:List V} {acc9:List D} {oB:List D},jo X' ([]++nz T s5.heap) σ9 fp s9->Ext H C fp ι9->az X'.kw fp (Ix.hide ι9 N) g9->bO X'.kw fp (Ix.hide ι9 N) GR σ9 ->
     fp N=some (.lst GU)->ak X'.kw fp (Ix.hide ι9 N) acc9 GU->acc9.length<=elt+1->dY sh i t scope P (i-(elt+1)) GR g9=some (oB,g')->acc++more=acc9++oB ->
     ∃m,m<i+1-elt/\CompI X' t scope P T N O sh i (acc++more) H C g' m s9:=by
    intro s9 σ9 fp ι9 GR g9 GU acc9 oB I9 E9 G9 S9 h9 r9 l9 f9 a9;refine⟨i+1-(elt+1),by lia,elt+1,σ9,fp,ι9,GR,g9,GU,acc9,oB,rfl,di,I9.lS,L.keep _ _ _ t5 λb hb o P=>(I9.pin (b,o) (Gk _ (Gk _ (jH hb P)))).1,λb hb=>?_,E9,G9,S9,h9,r9,l9,f9,a9⟩;obtain⟨o,P,d⟩:=L.obj _ _ t5 b hb;exact(I9.pin (b,o) (Gk _ (Gk _ (jH hb P)))).2.1
   refine jg (lift (a_ (U.un _ s5 σ H5 x u (λσ' H'=>∃k,Ext H5 (Ix.hide p N) H' k/\az X'.kw H' k g6/\bO X'.kw H' k σ6 σ') ab r5 ⟨Ix.hide p N,σd,g,d0,σ6,g6,G5,S1.ext e5,XM,h6,λH6 k GV e6 G6 S6=>⟨k,e6,G6,S6⟩⟩) λ_ s6 q6=>?_));obtain⟨GV,H6,I6,k,e6,G6,S6⟩:=q6;refine jg (lift (a_ (Y.un _ s6 GV H6 (λb H'=>b=k7 /\ ∃l,Ext H6 k H' l/\az X'.kw H' l g7) I6 ⟨k,σ6,g6,k7,g7,G6,S6,h7,λH7 l e7 G7=>⟨rfl,l,e7,G7⟩⟩) λok s7 q7=>?_));obtain⟨H7,I7,rfl,l,e7,G7⟩:=q7;have GW:=(e5.trans e6).trans e7;obtain⟨E7,XO⟩:=E1.GL GW;have XQ:H7 N=some (.lst vs):=GW.same N _ GQ (G1.cP N qc).1;have r7:=ak.ext GW _ vN;have S7:=S6.ext e7;cases ok with
   |false =>
    simp only[pA,if_false]at hf;refine kn ⟨rfl,?_⟩;rw[XO]at G7 S7 r7;exact again I7 E7 G7 S7 XQ r7 (by lia) hf rfl
   |true =>
    simp only[if_true]at hf;obtain⟨⟨d8,g8⟩,h8,hf⟩:=bind_some hf;obtain⟨⟨oB,g9⟩,h9,hf⟩:=bind_some hf;obtain⟨rfl,rfl⟩:d8::oB=more/\g9=g':=by cases hf;exact⟨rfl,rfl⟩
    refine jg (jg (lift (a_ (he.un _ s7 GV H7 (λv H'=>∃ι8,Ext H7 l H' ι8/\az X'.kw H' ι8 g8/\Rel X'.kw H' ι8 d8 v) I7 ⟨l,σ6,g7,d8,g8,G7,S7,h8,λH8 ι8 v e8 G8 r8=>⟨ι8,e8,G8,r8⟩⟩) λy s8 q8=>?_)));obtain⟨v8,H8,I8,XR,ι8,e8,G8,r8⟩:=q8;have ME:=GW.trans e8;obtain⟨E8,XS⟩:=E1.GL ME;have Cf:H8 N=some (.lst vs):=ME.same N _ GQ (G1.cP N qc).1;have GX:=ak.ext ME _ vN;have S8:=S7.ext e8;have hlen:vs.length<lX:=by rw[<- vN.length];lia
    rw[XS]at G8 S8 GX r8;refine jg (lift (a_ (tf (X:=X') _ s8 GV H8 (.ref N) [v8] (.ref N) [y] (λ_ H'=>H'=upd H8 N (.lst (vs ++ [v8]))) I8 rfl (.cons XR .nil) ⟨N,vs,v8,rfl,rfl,Cf,hlen,rfl⟩) λ_ s9 q9=>?_));obtain⟨_,fp,I9,_,rfl⟩:=q9;refine kn (kn ⟨rfl,?_⟩);refine again (acc9:=acc ++ [d8]) I9 (E8.GO hD) (G8.grow Cf) ⟨S8.1,λj d tg=>let⟨v,a,b⟩:=S8.2 j d tg;⟨v,a,Rel.grow Cf d b⟩⟩ aQ ?_ (by simp;lia) h9 (by simp);exact ak.append (ak.grow Cf _ GX) (by simp only[ak];exact⟨v8,[],rfl,Rel.grow Cf _ r8,rfl⟩)
 . have ei:elt=i:=by lia
   subst ei;rw[Xy]at hf;obtain⟨xs,mX,MD,rfl,rfl⟩:=Ai hf;obtain⟨st,go⟩:=j1 xs mX MD;refine a_ (L.done X' rfl rfl rfl S _ [] s σ K _ I (pI GP) ti (st (lb _))) λr s4 aT=>?_;obtain⟨hr,I4⟩:=aT;subst hr;exact kn (fin s4 σ K p vs I4 GP E1 G1 GQ (by simpa using vN))
noncomputable def bA (mk:List D->G->Option (D×G))(a:FI)(fr:List (Option Nat))(t:FG)(c:FT)(e:FE):FE:=λh g=>(a h g).bind λr=>if aC r.1.length=true then(cQ t c e r.1 (cq fr h) r.2).bind λq=>mk q.1 q.2 else none
noncomputable def j4 (mk:List D->G->Option (D×G))(a:qA)(fr:List (Option Nat))(t:FG)(c:FT)(e:FE):FE:=λh g=>(a h g).bind λr=>if aC r.2.1=true then(dY r.1 r.2.1 t c e r.2.1 (cq fr h) r.2.2).bind λq=>mk q.1 q.2 else none
noncomputable def bH (ds:List D)(g:G):Option (D×G):=some (.lst ds,g)
noncomputable def jx (ds:List D)(g:G):Option (D×G):=some (.ref g.length,g ++ [ds])
def bO.sub {K H ι e σ}(fr:List (Option Nat))(h:bO K H ι e σ):bO K H ι (cq fr e) (cq fr σ):=by
 refine⟨by simp[cq],λj d q=>?_⟩;unfold cq at q ⊢;rw[m2]at q ⊢;cases hf:fr[j]? with
 |none=>rw[hf]at q;cases q
 |some o =>
  rw[hf]at q;cases o with
  |none=>cases q
  |some i =>
   have c:e[i]? = some (some d):=by
    simp only[F1,afh]at q;cases z:e[i]? with
    |none=>rw[z]at q;cases q|some w=>rw[z]at q;simp at q;rw[q]
   obtain⟨v,b,a⟩:=h.2 i d c;exact⟨v,by simp[b],a⟩
def nI {fi:qA}{t:FG}{elt:FT}{N:FE}{Y:List (Addr×Obj)}{ι:Ix}{n:Sg}{g g1 g':G}{all:List D}{sh:Sh}(W:X.xe=λ_ _=>False)(σ:X.calm=true)(ok:eY X U z M)(E:vM X e J fi)(S:∀C R H fp Y,DG (bh X U M C R H fp Y) e t/\gJ (bh X U M C R H fp Y) B elt/\DE (bh X U M C R H fp Y) c N)(fr:∀x,y3 J X.env x=pure x)(I:jo X Y v H s)(G0:az X.kw H ι g)(K:bO X.kw H ι n v)(P:fi n g=some (sh,i,g1))(hz:aC i=true)(O:dY sh i t elt N i (cq z n) g1=some (all,g'))(fin:∀s' H' ιo vs Dl C,jo X Y v H' s'->fS X Y H' C->(∃m,s'.heap.Ns C m)->Ext H ι H' ιo->az X.kw H' (Ix.hide ιo Dl) g'->H' Dl=some (.lst vs)->ak X.kw H' (Ix.hide ιo Dl) all vs->Dl ∉ ιo.hd->H Dl=none->compPost (model X.prog X.w) X.A X.xe use Q (.ref Dl) C (.ok .next) s'):
  wpAny (model X.prog X.w) X.A (comprehension (.ListComp c [⟨e,J,B,0⟩] M q) M X.env p (newList []) false (eval J X.env) use) Q X.xe s:=by
 have free:∀x∈M.names,x.2 = .free->∃elt,X.env.cells.lookup x.1=some elt:=λx hx hk=>I.ok.has x.1 (ok.free x hx hk).2;refine wpAny_comprehension_free (use:=use) rfl fr (uw free) ok.kind ok.names (a_ (E.un Y s v H (λiter H'=>∃h,Ext H ι H' h/\az X.kw H' h g1/\Ah X.kw iter H' h sh i) I ⟨ι,n,g,sh,i,g1,G0,K,P,λH1 h iter r G1 J1=>⟨h,r,G1,J1⟩⟩) λxv s1 ym=>a_ ym λLm Z q2=>?_);obtain⟨it,fp,tn,iter,H1,rfl,I1,T,t1,f1,h,r,G1,J1⟩:=q2;refine x3 ?_;have k:H1 Z.heap.objs.size=none:=I1.aV.fresh (lb _);generalize MF:({ Z with heap:=Z.heap.push { cls:=.type "list",dict:=none,data:=.seq ([]:List Value).toArray } }:j0)=R;have y:jo X Y v (upd H1 Z.heap.objs.size (.lst [])) R:=by rw[<- MF];exact I1.laid (t':=Z.toks) (λb u N=>mn _ N) (lb _) ⟨rb _,[],0,.nil,n3 _ rfl⟩
 have k3:∀b o,Z.heap.get? b=some o->R.heap.get? b=some o:=λb o N=>by rw[<- MF];exact mn _ N
 have Sk:R.heap.objs.size=Z.heap.objs.size+1:=by rw[<- MF];exact GG ..
 have tI:∀b∈fp,b<Z.heap.objs.size:=λb f=>let⟨o,eo,_⟩:=T.obj _ _ t1 b f;mA eo;have L:∀b∈fp,fS X Y (upd H1 Z.heap.objs.size (.lst [])) b:=λb f=>⟨by rw[aF (oZ (tI b f))];exact(f1 b f).1,(f1 b f).2⟩
 refine xO (Qv y) λh4 Va k4 kc=>?_;have I4:=Ag (tk:=R.toks) ok y L (λb f=>by rw[Sk];exact H9 (tI b f)) Va k4 kc;obtain⟨hg,hi,he⟩:=S R.heap.objs.size R (upd H1 Z.heap.objs.size (.lst [])) fp Y;have t4:tn 0 h4:=T.keep _ _ _ t1 λb f o N=>k4 b o (k3 b o N);have fx:∀b∈fp,fS (bh X U M R.heap.objs.size R (upd H1 Z.heap.objs.size (.lst [])) fp Y) [] (upd H1 Z.heap.objs.size (.lst [])) b:=λb f=>by
  refine⟨(L b f).1,?_,?_,.inl f,?_,?_⟩
  . exact oZ (by rw[Sk];exact H9 (tI b f))
  . exact I4.ok.va b f
  . exact(I4.ok.KU b f).2
  . intro ifs hp
    have yh:ifs∈X.pn++Y:=by have tg:ifs∈(X.pn++Y) ++ []:=hp;simpa using tg
    exact(f1 b f).2.2.2.2.2 ifs yh
 have loop:F2 (model X.prog X.w) X.A (.compLoop (.ListComp c [⟨e,J,B,0⟩] M q) 0 (.ref it) (.ref Z.heap.objs.size) (compEnvC M (cellsOf M X.env R.heap.objs.size) R.heap.objs.size X.env))
    (compPost (model X.prog X.w) X.A X.xe use Q (.ref Z.heap.objs.size) R.heap.objs.size) { R with heap:=h4 }:=by
  refine Cd (X':=bh X U M R.heap.objs.size R (upd H1 Z.heap.objs.size (.lst [])) fp Y) (all:=all) (g':=g') rfl σ T fx J1 k (aC.le hz) hg hi he ?_ _ _ _ h (cq z n) g1 I4 t4 (λb f=>(L b f).1) ((Ext.refl (H:=H1) (ι:=h)).GO k) (G1.hide k) ?_ aQ O
  . intro s' σ' H' ιo vs l Z5 E' G' XT r'
    have I5:jo X Y v H' s':=y.PV (ch:=fp) l.os l.base l.aV l.bare λb f=>⟨(L b f).2.2.2.1,(L b f).2.1,(L b f).2.2.2.2.1,(L b f).2.2.2.2.2⟩
    obtain⟨m,hm,_⟩:=l.loc;refine fin s' H' ιo vs _ _ I5 ?_ ⟨m,hm⟩ (r.trans E') G' XT r' ?_ ?_
    . have pos:=y.ny (H':=H') (b:=R.heap.objs.size) (lb _) l.free
      exact pos
    . rw[E'.cP];exact G1.ia k
    . cases tg:H Z.heap.objs.size with
      |none=>rfl|some o=>exact absurd k (r.there _ (by rw[tg];simp))
  . have S1:bO X.kw H1 h (cq z n) (cq z v):=(K.ext r).sub z
    exact⟨S1.1,λj d tg=>let⟨dq,a,b⟩:=S1.2 j d tg;⟨dq,a,Rel.hide k d b⟩⟩
 exact codeAny_compStart_list loop (T.self _ 0 _ _ _ t4 loop)
def j5 {H ι H' a K g' all vs b d h Q}(e:Ext H ι H' a)(f:az K H' (Ix.hide a b) g')(hD:H' b=some (.lst vs))(r:ak K H' (Ix.hide a b) all vs)(i:b ∉ a.hd)(j:bH all g'=some (d,h))(p:fU K H ι d h Q):Q (.ref b) H':=by cases j;refine p H' a _ e f.show ?_;simp only[Rel];exact⟨b,vs,rfl,.inl ⟨.inl hD,(f.cP b qc).1,i⟩,ak.show _ r⟩
def az.MG {K H ι g p J C}(h:az K H (Ix.hide ι p) g)(A:H p=some (.lst C))(B:p ∉ ι.hd)(r:ak K H (Ix.hide ι p) J C):az K H (ι.more p 0) (g ++ [J]):=by
 have XU:p ∉ ι.ix:=(h.cP p qc).1;have R:∀{n:Nat} {a:Addr} {b:Bool},eE (Ix.hide ι p) n a b->eE (ι.more p 0) n a b:=fun {n a b} f=>by
   have O:n < ι.ix.length:=(l8.mp f.1).1;refine⟨?_,?_⟩
   . show(ι.ix ++ [p])[n]? = some a
     rw[m5 O];exact f.1
   . show kb (if n=ι.ix.length then 0 else ι.kd n)=b
     rw[if_neg (by lia)];exact f.2
 have up:∀(d:D) (v:V),Rel K H (Ix.hide ι p) d v->Rel K H (ι.more p 0) d v:=λd=>by
   refine D.rec (motive_1:=λd=>∀v,Rel K H (Ix.hide ι p) d v->Rel K H (ι.more p 0) d v) (motive_2:=λds=>∀C,ak K H (Ix.hide ι p) ds C->ak K H (ι.more p 0) ds C)
     ?_ ?_ ?_ ?_ ?_ ?_ ?_ ?_ ?_ ?_ ?_ ?_ d
   . intro v h;simpa[Rel]using h
   . intro b v h;simpa[Rel]using h
   . intro b v h;simpa[Rel]using h
   . intro b v h;simpa[Rel]using h
   . intro J I v h
     simp only[Rel]at h ⊢;obtain⟨a,E,j,f,s⟩:=h;refine⟨a,E,j,?_,I _ s⟩;rcases f with⟨f,n⟩|f
     . refine .inl ⟨f,λz=>?_⟩
       rcases mF.mp z with z|z
       . exact n z
       . simp at z;subst z
         rcases f with f|⟨o,f⟩<;>(rw[A]at f;cases f)
     . exact .inr f
   . intro J I v h
     simp only[Rel]at h ⊢;obtain⟨a,E,j,f,s⟩:=h;refine⟨a,E,j,?_,I _ s⟩;rcases f with⟨f,n,k⟩|f
     . refine .inl ⟨f,λz=>?_,λz=>k (nW _ z)⟩
       rcases mF.mp z with z|z
       . exact n z
       . simp at z;subst z;exact k qc
     . exact .inr f
   . intro v h
     simp only[Rel]at h ⊢;obtain⟨a,j,f,s⟩:=h;refine⟨a,j,f,λz=>?_⟩;rcases mF.mp z with z|z
     . exact s z
     . simp at z;subst z;rw[A]at f;cases f
   . intro n v h
     simp only[Rel]at h ⊢;obtain⟨a,j,f⟩:=h;exact⟨a,j,R f⟩
   . intro n v h
     simp only[Rel]at h ⊢;obtain⟨a,j,f⟩:=h;exact⟨a,j,R f⟩
   . intro x ds I v h
     simp only[Rel]at h ⊢;obtain⟨a,E,j,f,s⟩:=h;refine⟨a,E,j,f.mono λc u z q=>⟨q.1,λm=>?_,λy m=>q.2.2 y (nW _ m)⟩,I _ s⟩;rcases mF.mp m with m|m
     . exact q.2.1 m
     . simp at m;have y:=q.1;rw[m,A]at y;rw[<- wi y]at z;cases z
   . intro C h;simpa[ak]using h
   . intro d ds L_ B1 C h
     simp only[ak]at h ⊢;obtain⟨v,Q,j,f,s⟩:=h;exact⟨v,Q,j,L_ v f,B1 Q s⟩
 have U:∀(ds:List D) (C:List V),ak K H (Ix.hide ι p) ds C->ak K H (ι.more p 0) ds C:=λds=>by
   induction ds with
   |nil=>intro C h;simpa[ak]using h
   |cons d ds I =>
     intro C h;simp only[ak]at h ⊢;obtain⟨v,Q,j,f,s⟩:=h;exact⟨v,Q,j,up d v f,I Q s⟩
 refine⟨?_,by simp[<- h.len,Ix.hide,Ix.more],λb hb=>⟨λz=>?_,(h.cP b (nW _ hb)).2⟩,λi Y q=>?_,λq f=>⟨(h.tb q f).1,λm=>?_⟩⟩
 . show(ι.ix ++ [p]).Nodup
   rw[Qs];refine⟨h.nd,by simp,λa ha b hb=>?_⟩;simp at hb;subst hb;intro e;subst e;exact XU ha
 . rcases mF.mp z with z|z
   . exact(h.cP b (nW _ hb)).1 z
   . simp at z;subst z;exact B hb
 . have O:ι.ix.length=g.length:=h.len
   by_cases Z:i<g.length
   . rw[m5 Z]at q
     obtain⟨a,o,E,h1,h2,ov,h3⟩:=h.at_ i Y q;refine⟨a,o,E,(by show(ι.ix ++ [p])[i]? = some a;rw[m5 (by rw[O];exact Z)];exact h1),h2,?_,U _ _ h3⟩;show OV K _ _ (if i=ι.ix.length then 0 else ι.kd i) o E;rw[if_neg (by lia)];exact ov
   . rw[th (by lia)]at q
     have GJ:i-g.length=0:=by
       cases e:i-g.length with
       |zero=>rfl|succ k=>rw[e]at q;simp at q
     rw[GJ]at q;have e:J=Y:=by simpa using q
     subst e;refine⟨p,_,C,?_,A,?_,U _ _ r⟩
     . show(ι.ix ++ [p])[i]? = some p
       rw[th (by rw[O];lia),O,GJ];rfl
     . show OV K _ _ (if i=ι.ix.length then 0 else ι.kd i) _ C
       rw[if_pos (by lia)];exact .l C
 . rcases mF.mp m with m|m
   . exact(h.tb q f).2 m
   . simp at m;have z:=(h.tb q f).1;rw[m,A]at z;cases z
def vO {H ι H' f K g' all vs h d k Q}(e:Ext H ι H' f)(q:H h=none)(j:az K H' (Ix.hide f h) g')(hD:H' h=some (.lst vs))(r:ak K H' (Ix.hide f h) all vs)(l:h ∉ f.hd)(o:jx all g'=some (d,k))(p:fU K H ι d k Q):Q (.ref h) H':=by
 cases o;obtain⟨m,g,b⟩:=e.more;refine p H' (f.more h 0) _ ⟨e.same,e.there,⟨m ++ [h],by show f.ix ++ [h]=_;rw[g,sP],λa z=>?_⟩,e.cP,λi c=>?_⟩ (j.MG hD l r) ?_
 . rcases mF.mp z with z|z
   . exact b a z
   . simp at z;subst z;exact q
 . show(if i=f.ix.length then 0 else f.kd i)=ι.kd i
   rw[if_neg (by rw[g,lN];lia)];exact e.mU i c
 . simp only[Rel]
   exact⟨h,rfl,eE.new j.len⟩
def vP {fi:qA}{t:FG}{O:FT}{pos:FE}(K:X.xe=λ_ _=>False)(R:X.calm=true)(ok:eY X U z M)(A:vM X e J fi)(E:∀C Z H fp Y,DG (bh X U M C Z H fp Y) e t/\gJ (bh X U M C Z H fp Y) B O/\DE (bh X U M C Z H fp Y) c pos)(ifs:∀x,y3 J X.env x=pure x):DE X (.ListComp c [⟨e,J,B,0⟩] M q) (j4 bH fi z t O pos):=.of (by
 intro Y s σ H Q I h;obtain⟨ι,σd,g,d,gg,G0,j,h,p⟩:=h;obtain⟨⟨sh,L,g1⟩,tg,h⟩:=bind_some h;dsimp only at h;split at h
 . rename_i u
   obtain⟨⟨all,g'⟩,h2,h⟩:=bind_some h;rw[eval_ListComp];refine nI (use:=none) K R ok A E ifs I G0 j tg u h2 λk H' ιo vs i C n fC v e' a hD r l qB=>?_;obtain⟨m,hm⟩:=v;refine⟨m,hm,λvQ sb=>⟨.ref i,H',?_,rfl,j5 e' a hD r l h p⟩⟩;obtain⟨f0,f1,f2,f3,f4,f⟩:=fC;exact n.turned (t':=k.toks) (λb o y pos=>sb.extBut b o y pos) f0 f1 f3 f4 f
 . cases h)
def nJ {fi:qA}{t:FG}{iter:FT}{N:FE}{mk:List D->G->Option (D×G)}(px:∀{H ι Z n g' all vs R d gg Q},Ext H ι Z n->H R=none->az X.kw Z (Ix.hide n R) g'->Z R=some (.lst vs)->ak X.kw Z (Ix.hide n R) all vs->R ∉ n.hd->mk all g'=some (d,gg)->fU X.kw H ι d gg Q->Q (.ref R) Z)(Y:X.xe=λ_ _=>False)(fr:X.calm=true)(ok:eY X U z M)(scope:vM X e J fi)(P:∀C s3 H fp a8,DG (bh X U M C s3 H fp a8) e t/\gJ (bh X U M C s3 H fp a8) B iter/\DE (bh X U M C s3 H fp a8) c N)(tg:X.N.Nodup)(O:X.N[i]? = some x)(W:Ea X.env.scope x)(S:NM (.ListComp c [⟨e,J,B,0⟩] M r) (some (.Name x q)) p.line X.env=pure true)(K:∀x,y3 J X.env x=pure x)(T:X.fn x=true\/X.env.scope.names.lookup x=some .local):DS X (.Assign [.Name x q] (.ListComp c [⟨e,J,B,0⟩] M r) p) (aG (j4 mk fi z t iter N) (gN i)):=.of (by
 intro a8 s σ H y I h;obtain⟨ι,E,g,ifs,cx,gg,G0,u,h0,elt⟩:=h;obtain⟨⟨d,XX⟩,ym,hr⟩:=bind_some h0;have eG:some (F.nx,E.set i (some d),XX)=some (ifs,cx,gg):=hr;clear h0;obtain⟨⟨sh,L,g1⟩,h1,f⟩:=bind_some (x:=fi E g) ym;dsimp only at f;split at f
 . rename_i hz
   obtain⟨⟨all,g'⟩,h2,h4⟩:=bind_some f;rw[exec_Assign_Name_used _ _ _ _ S];refine jg (afb (jg ?_));show wpAny _ X.A (do let _ <- comprehension (.ListComp c [⟨e,J,B,0⟩] M r) M X.env _ (newList []) false (eval J X.env) (some (AR (.Name x q) X.env))) _ _ s;refine jg (Yq (nI (use:=some (AR (.Name x q) X.env)) (Q:=λ_ l=>SP X a8 y .next l) Y fr ok scope P K I G0 u h1 hz h2 λl Z n vs R C I' fC Cg e' G' hD ifs hn qB=>?_) (λ_ l hq=>kn (kn hq)) λ_ _ N=>N);obtain⟨m,hm⟩:=Cg;show wpAny _ X.A (AR (.Name x q) X.env (.ref R)) _ _ _;refine wpAny_assign_Name (sL I' tg O W (v:=.ref R) rfl (λvh k aT=>?_) T);obtain⟨a,sb,j⟩:=aT;obtain⟨f0,f1,f2,f3,f4,f5⟩:=fC;have Ci:C≠a:=by
    rcases j with rfl|j
    . exact f1
    . exact λpos=>f4 _ _ j pos.symm
   obtain⟨oc,es,ep,ho,rest⟩:=hm;refine⟨m,⟨oc,es,ep,(sb.2 C Ci).trans ho,rest⟩,λvQ XY=>?_⟩;refine⟨σ.set i (some (.ref R)),Z,k.turned (t':=vh.toks) (λb o hb N=>XY.extBut b o hb N) f0 f1 f3 f4 f5,?_⟩;cases eG;exact px (Q:=λv Z=>y.nx (σ.set i (some v)) Z) e' qB G' hD ifs hn h4 λH2 ι2 v e2 G2 r2=>elt H2 ι2 e2 G2 _ ((u.ext e2).set r2 i)
 . cases f)
def tL {fi:qA}{t:FG}{O:FT}{pos:FE}(K:X.xe=λ_ _=>False)(R:X.calm=true)(ok:eY X U z M)(A:vM X e J fi)(E:∀C Z H fp Y,DG (bh X U M C Z H fp Y) e t/\gJ (bh X U M C Z H fp Y) B O/\DE (bh X U M C Z H fp Y) c pos)(ifs:∀x,y3 J X.env x=pure x):DE X (.ListComp c [⟨e,J,B,0⟩] M q) (j4 jx fi z t O pos):=.of (by
 intro Y s σ H Q I h;obtain⟨ι,σd,g,d,gg,G0,j,h,p⟩:=h;obtain⟨⟨sh,L,g1⟩,u,h⟩:=bind_some h;dsimp only at h;split at h
 . rename_i v
   obtain⟨⟨all,g'⟩,h2,h⟩:=bind_some h;rw[eval_ListComp];refine nI (use:=none) K R ok A E ifs I G0 j u v h2 λk H' ιo vs i C I' fC y e' a hD r l tg=>?_;obtain⟨m,hm⟩:=y;refine⟨m,hm,λvQ sb=>⟨.ref i,H',?_,rfl,vO e' tg a hD r l h p⟩⟩;obtain⟨f0,f1,f2,f3,f4,f⟩:=fC;exact I'.turned (t':=k.toks) (λb o n pos=>sb.extBut b o n pos) f0 f1 f3 f4 f
 . cases h)
noncomputable def Cj (a:FI):qA:=λc g=>(a c g).map λr=>(λ_=>some r.1,r.1.length,r.2)
def nL {B:FI}(h:DI X e J B):vM X e J (Cj B):=.of (PI.imp h.un λR H Q q=>by
 obtain⟨n,j,g,sh,L,z,G0,f,v,p⟩:=q;obtain⟨⟨ds,C⟩,o,E⟩:=nP.mp v;cases E;exact⟨n,j,g,ds,C,G0,f,o,λx a A u l k=>p x a A u l λi I s O r b U c y=>by cases c;exact k i I s O r b⟩)
theorem rP {ds:List D}{t:FG}{c:FT}{e:FE}:∀(k:Nat) (i:Sg) (g:G),k<=ds.length->dY (λ_=>some ds) ds.length t c e k i g=cQ t c e (ds.drop (ds.length-k)) i g
 | 0,i,g,_=>by simp[dY,cQ]
 |k+1,i,g,h=>by
  have a:ds.length-(k+1)<ds.length:=by lia
  rw[MP a,show ds.length-(k+1)+1=ds.length-k by lia];simp only[dY,cQ,k9,if_true,lC a];refine congrArg _ (funext λq=>congrArg _ (funext λb=>?_));split
  . refine congrArg _ (funext λr=>?_)
    rw[rP k _ _ (by lia)]
  . rw[rP k _ _ (by lia)]
def oC {mk:List D->G->Option (D×G)}{a:FI}{t:FG}{c:FT}{e:FE}:bA mk a z t c e=j4 mk (Cj a) z t c e:=by
 funext σ g;unfold bA j4 Cj;cases a σ g with
 |none=>rfl
 |some r =>
  simp only[k9,F1];rw[rP _ _ _ (lb _),Xy,ad2]
def Jk {u:FI}{t:FG}{v:FT}{g:FE}(i:X.xe=λ_ _=>False)(h:X.calm=true)(ok:eY X U z M)(a:DI X e J u)(f:∀C n H p r,DG (bh X U M C n H p r) e t/\gJ (bh X U M C n H p r) B v/\DE (bh X U M C n H p r) c g)(b:∀x,y3 J X.env x=pure x):DE X (.ListComp c [⟨e,J,B,0⟩] M q) (bA bH u z t v g):=by
 rw[oC];exact vP i h ok (nL a) f b
def Ak {R:FI}{t:FG}{k:FT}{g:FE}(A:X.xe=λ_ _=>False)(y:X.calm=true)(ok:eY X U z M)(j:DI X e J R)(s:∀C E H I O,DG (bh X U M C E H I O) e t/\gJ (bh X U M C E H I O) B k/\DE (bh X U M C E H I O) c g)(l:X.N.Nodup)(Y:X.N[i]? = some x)(Q:Ea X.env.scope x)(u:NM (.ListComp c [⟨e,J,B,0⟩] M r) (some (.Name x q)) p.line X.env=pure true)(o:∀x,y3 J X.env x=pure x)(v:X.fn x=true\/X.env.scope.names.lookup x=some .local):
  DS X (.Assign [.Name x q] (.ListComp c [⟨e,J,B,0⟩] M r) p) (aG (bA bH R z t k g) (gN i)):=
 by rw[oC];exact nJ (λa _ h hD n b f Z=>j5 a h hD n b f Z) A y ok (nL j) s l Y Q u o v
def xP {Y:FI}{t:FG}{l:FT}{g:FE}(E:X.xe=λ_ _=>False)(I:X.calm=true)(ok:eY X U z M)(k:DI X e J Y)(u:∀C O H Q R,DG (bh X U M C O H Q R) e t/\gJ (bh X U M C O H Q R) B l/\DE (bh X U M C O H Q R) c g)(o:X.N.Nodup)(s:X.N[i]? = some x)(A:Ea X.env.scope x)(v:NM (.ListComp c [⟨e,J,B,0⟩] M r) (some (.Name x q)) p.line X.env=pure true)(Z:∀x,y3 J X.env x=pure x)(y:X.fn x=true\/X.env.scope.names.lookup x=some .local):
  DS X (.Assign [.Name x q] (.ListComp c [⟨e,J,B,0⟩] M r) p) (aG (bA jx Y z t l g) (gN i)):=
 by rw[oC];exact nJ (λa j h hD n b f tg=>vO a j h hD n b f tg) E I ok (nL k) u o s A v Z y
noncomputable def jJ (sh:Sh)(L:Nat)(t:FG)(b:FS):Nat->FS
 | 0,h,g=>(sh g).bind λc=>if c.length=L then some (.nx,h,g)else none
 |r+1,h,g=>(sh g).bind λc=>if c.length=L then(c[L-(r+1)]?).bind λd=>(t d h g).bind λq=>(b q.1 q.2).bind λa=>match a.1 with
   |.nx=>jJ sh L t b r a.2.1 a.2.2|.ct=>jJ sh L t b r a.2.1 a.2.2|.bk=>some (.nx,a.2.1,a.2.2)|.rt d=>some (.rt d,a.2.1,a.2.2)
  else none
noncomputable def Al (a:qA)(t:FG)(b:FS):FS:=λc g=>(a c g).bind λr=>jJ r.1 r.2.1 t b r.2.1 c r.2.2
inductive Fb (X:Cx)(t:FG)(b:FS)(sh:Sh)(L:Nat)(H1:Hp)(ι1:Ix)(r:F)(cx:Sg)(g':G)(i:Nat)(σ2:ko)(H2:Hp):Prop
 |mk (ι2:Ix) (qy:Sg) (g2:G) (e2:Ext H1 ι1 H2 ι2) (G2:az X.kw H2 ι2 g2) (S2:bO X.kw H2 ι2 qy σ2) (hf:jJ sh L t b (L-i) qy g2=some (r,cx,g')):Fb X t b sh L H1 ι1 r cx g' i σ2 H2
def Jl {E:qA}{t:FG}{b:FS}(I:Ut (model X.prog X.w) X.A X.env X.xe)(N:X.calm=true)(C:vM X J e E)(M:DG X J t)(K:k8 X R b)(O:∀x,y3 e X.env x=pure x):DS X (.For J e R [] q) (Al E t b):=.of (PS.imp (Lp I N C.un M.un K.un O) λDn σ H h=>by
 obtain⟨ι,Y,g,r,cx,g',G0,S0,h,p⟩:=h;obtain⟨⟨sh,L,g1⟩,h1,h⟩:=bind_some h;refine⟨ι,Y,g,sh,L,g1,G0,S0,h1,λH1 n body j G1 J1=>?_⟩;dsimp only at h;refine⟨λi m Q l=>m=L-i/\i<=L/\Fb X t b sh L H1 n r cx g' i Q l,
   ⟨L,by simp,rb _,n,Y,g1,Ext.refl,G1,S0.ext j,by simpa using h⟩,?_⟩
 rintro i m Q l ⟨rfl,C,s,qy,g2,e2,G2,S2,hf⟩;have j1:=J1 i l s g2 e2.eF G2;by_cases di:i<L
 . rw[show L-i=(L-(i+1))+1 by lia]at hf
   simp only[jJ]at hf;obtain⟨xs,o,hf⟩:=bind_some hf;split at hf
   . rename_i u
     obtain⟨d0,Ce,hf⟩:=bind_some hf;rw[show L-(L-(i+1)+1)=i by lia]at Ce;obtain⟨⟨Z,g3⟩,h3,hf⟩:=bind_some hf;obtain⟨⟨r4,z,B⟩,h4,hf⟩:=bind_some hf;obtain⟨st,go⟩:=j1 xs o u;obtain⟨go,yl⟩:=go d0 Ce;refine .inr ⟨go,λσ5 H5=>Fb X t b sh L H1 n r cx g' (i+1) σ5 H5,?_,?_⟩
     . rintro σ5 H5 ⟨ι5,XZ,g5,e5,G5,S5,h5⟩
       exact⟨L-(i+1),by lia,rfl,di,ι5,XZ,g5,e5,G5,S5,h5⟩
     . intro x H' y
       obtain⟨e3,G3,r3⟩:=yl x H' y;refine⟨s,qy,g2,d0,Z,g3,G3,S2.ext e3,r3,h3,λH6 ι6 σ6 e6 G6 S6=>?_⟩;refine⟨ι6,Z,g3,r4,z,B,G6,S6,h4,λH7 k e7 c=>?_⟩;have f:=e2.trans (e3.trans (e6.trans e7));cases r4 with
       |nx=>exact λU a=>⟨k,z,B,f,c,a,hf⟩|ct=>exact λU a=>⟨k,z,B,f,c,a,hf⟩|bk=>cases hf;exact λU a=>p H7 k (j.trans f) c U a|rt d=>cases hf;exact λv r7=>p H7 k (j.trans f) c v r7
   . cases hf
 . have tg:i=L:=by lia
   subst tg;rw[Xy]at hf;simp only[jJ]at hf;obtain⟨xs,o,hf⟩:=bind_some hf;split at hf
   . rename_i u
     cases hf;obtain⟨st,_⟩:=j1 xs o u;exact .inl ⟨st (lb _),p l s (j.trans e2) G2 Q S2⟩
   . cases hf)
theorem yo {ds:List D}{t:FG}{b:FS}:∀(k:Nat) (c:Sg) (g:G),k<=ds.length->jJ (λ_=>some ds) ds.length t b k c g=forL t b (ds.drop (ds.length-k)) c g
 | 0,c,g,_=>by simp[jJ,forL]
 |k+1,c,g,h=>by
  have a:ds.length-(k+1)<ds.length:=by lia
  rw[MP a,show ds.length-(k+1)+1=ds.length-k by lia];simp only[jJ,forL,k9,if_true,lC a,yo k _ _ (ad6 h)]<;>rfl
def MH {a:FI}{t:FG}{b:FS}:fK a t b=Al (Cj a) t b:=by
 funext σ g;unfold fK Al Cj;cases a σ g with
 |none=>rfl
 |some r =>
  simp only[k9,F1];rw[yo _ _ _ (lb _),Xy,ad2]
def MJ {c:FI}{t:FG}{b:FS}(f:Ut (model X.prog X.w) X.A X.env X.xe)(k:X.calm=true)(i:DI X e J c)(j:DG X e t)(h:k8 X R b)(l:∀x,y3 J X.env x=pure x):DS X (.For e J R [] q) (fK c t b):=by
 rw[MH];exact Jl f k (nL i) j h l
noncomputable def bD (c:Int->Int->Bool)(f:Int->Int->Int)(a b:D)(g:G):Option (D×G):=match a,b with
 |.int i,.int j=>if c i j=true then some (.int (f i j),g)else none|_,_=>none
noncomputable def qD (f:Int->Int->Bool)(b a:D)(g:G):Option (D×G):=match b,a with
 |.int i,.int j=>some (.bl (f i j),g)|_,_=>none
noncomputable def cA (_ _:Int):Bool:=true
noncomputable def cu (i j:Int):Bool:=L5 i.natAbs 18446744073709551615||L5 j.natAbs 18446744073709551615
noncomputable def dS (_ j:Int):Bool:=L5 1 j.toNat&&L5 j.toNat 1073741823
noncomputable def cI (_ j:Int):Bool:=L5 1 j.toNat
noncomputable def jK (i j:Int):Bool:=(match j with|.ofNat n=>L5 n 1000000|.negSucc _=>false)&&L5 i.natAbs 18446744073709551615
section
def lg {c:Int->Int->Prop}{A:Int->Int->Int}(h:bQ X C (rI c λi j=>.int (A i j)))(B:∀i j,l i j=true->c i j):bQ X C (dW X.kw (bD l A)):=by
 intro n s E H x y v u Q I k f q;obtain⟨J,g,e,o,d,r,G0,a,b,q,p⟩:=q;cases e with
 |int i =>
  cases o with
  |int j =>
   simp only[Rel]at a b;subst a;subst b;simp only[bD]at q;split at q
   . rename_i z
     cases q;exact h n s E H _ _ v u Q I k f ⟨i,j,rfl,rfl,B i j z,p H J _ Ext.refl G0 (by simp[Rel])⟩
   . cases q
  |_=>cases q
 |_=>cases q
def yp {g:Int->Int->V}{x y:V}(h:rI (λ_ _=>True) g x y H m):oV g x y H m:=by obtain⟨i,j,a,b,_,q⟩:=h;exact⟨i,j,a,b,q⟩
def bQ.imp {r c:R2}(h:bQ X C r)(i:∀x y H Q,c x y H Q->r x y H Q):bQ X C c:=λg s n H x y v u Q I a b q=>h g s n H x y v u Q I a b (i _ _ _ _ q)
def MK:bQ X (qC .Sub) (dW X.kw (bD cA (· - ·))):=lg (bQ.imp Lw λ_ _ _ _=>yp) λ_ _ _=>trivial
def Jm:bQ X (qC .Add) (dW X.kw (bD cA (· + ·))):=lg (bQ.imp Lv λ_ _ _ _=>yp) λ_ _ _=>trivial
def Jn:bQ X (qC .Mult) (dW X.kw (bD cu (· * ·))):=lg Ly λi j h=>by
 unfold cu at h;simp only[uG]at h;rcases h with h|h
 . have:=RI h
   exact .inl ⟨by lia,by lia⟩
 . have:=RI h
   exact .inr ⟨by lia,by lia⟩
def Jo:bQ X (qC .FloorDiv) (dW X.kw (bD dS (· / ·))):=lg ID λi j h=>by unfold dS at h;simp only[la]at h;have b:=RI h.1;have a:=RI h.2;exact⟨by lia,by lia⟩
def ML:bQ X (qC .Mod) (dW X.kw (bD cI (· % ·))):=lg Lz λi j h=>by have a:=RI (show L5 1 j.toNat=true from h);show 0<j;lia
def MM:bQ X (qC .Pow) (dW X.kw (bD jK (λi j=>i ^ j.toNat))):=lg LA λi j h=>by
 unfold jK at h;simp only[la]at h;have a:=RI h.2;cases j with
 |ofNat n =>
  have b:=RI (show L5 n 1000000=true from h.1);exact⟨ae5 n,(by show((n:Nat):Int)<=1000000;lia),(by lia)⟩
 |negSucc n=>exact absurd h.1 (by simp)
def uK (h:bQ X C (oV λi j=>.bl (l i j))):bQ X C (dW X.kw (qD l)):=by
 intro n s r H x y v u Q I e k q;obtain⟨B,g,c,f,d,o,G0,a,b,q,p⟩:=q;cases c with
 |int i =>
  cases f with
  |int j =>
   simp only[Rel]at a b;subst a;subst b;cases q;exact h n s r H _ _ v u Q I e k ⟨i,j,rfl,rfl,p H B _ Ext.refl G0 (by simp[Rel])⟩
  |_=>cases q
 |_=>cases q
def Qw:bQ X (ra .Lt) (dW X.kw (qD λi j=>decide (i<j))):=uK P_
def Qx:bQ X (ra .LtE) (dW X.kw (qD λi j=>decide (i<=j))):=uK Qa
def Qy:bQ X (ra .Gt) (dW X.kw (qD λi j=>decide (j<i))):=uK Qb
def Qz:bQ X (ra .GtE) (dW X.kw (qD λi j=>decide (j<=i))):=uK Qc
noncomputable def kQ (d:D)(g:G):Option (D×G):=match d with|.int i=>some (.int (-i),g)|_=>none
def MN:BF X (unaryOp .USub) (Mg X.kw kQ):=by
 intro h s n H x v Q I b q;obtain⟨r,g,c,d,e,G0,a,q,p⟩:=q;cases c with
 |int i =>
  cases a;cases q;exact LB h s n H _ v Q I b ⟨i,rfl,p H r _ Ext.refl G0 (by simp[Rel])⟩
 |_=>cases q
mutual
noncomputable def flat:D->Bool
 |.ref _=>false|.eI=>false|.bq _=>false|.fn _ _=>false|.tup c=>bC c|.lst c=>bC c|_=>true
noncomputable def bC:List D->Bool
 | []=>true|d::ds=>flat d&&bC ds
end
mutual
noncomputable def bB:D->D->Bool
 |.ay,d=>match d with|.ay=>true|_=>false
 |.bl a,d=>match d with|.bl b=>a == b|.int b=>(if a then 1 else 0)== b|_=>false
 |.int a,d=>match d with|.bl b=>a == (if b then 1 else 0)|.int b=>a == b|_=>false
 |.str a,d=>match d with|.str b=>a == b|_=>false
 |.tup c,d=>match d with|.tup g=>gK c g|_=>false
 |.lst c,d=>match d with|.lst g=>gK c g|_=>false
 |_,_=>false
noncomputable def gK:List D->List D->Bool
 | [],[]=>true|x::c,y::g=>bB x y&&gK c g|_,_=>false
end
mutual
noncomputable def dep:D->Nat
 |.tup c=>dA c+1|.lst c=>dA c+1|_=>0
noncomputable def dA:List D->Nat
 | []=>0|d::ds=>max (dep d) (dA ds)
end
mutual
theorem j6:∀d:D,flat d=true->bB d d=true
 |.ay,_=>by simp[bB]|.bl _,_=>by simp[bB]|.int _,_=>by simp[bB]|.str _,_=>by simp[bB]|.tup c,h=>by simp only[bB];exact nM c h|.lst c,h=>by simp only[bB];exact nM c h
theorem nM:∀ds:List D,bC ds=true->gK ds ds=true
 | [],_=>by simp[gK]|d::ds,h=>by simp only[bC,la]at h;simp only[gK,la];exact⟨j6 d h.1,nM ds h.2⟩
end
theorem pN:∀c g:List D,gK c g=((nN (min c.length g.length)).all (λj=>bB (c[j]?.getD .ay) (g[j]?.getD .ay))&&c.length == g.length)
 | [],[]=>by simp[gK]| [],y::g=>by simp[gK]|x::c,[]=>by simp[gK]|x::c,y::g=>by simp only[gK,pN c g,vq,Nat.succ_min_succ,afY,Z4,ac7,ahl,List.all_map,MZ,List.getElem?_cons_succ];rw[Bool.and_assoc];congr 2;simp
def oD {g:List V}(I:jo X b v H s)(i:fg X.kw H f h)(n:dD X.kw H f g):False:=by obtain⟨p,_,c,_⟩:=I.tuple i;obtain⟨a,_,e,_⟩:=I.list n;exact SeqAt.ne_of_list_tuple e.isList c rfl
mutual
theorem Rel.inj {J:List (Addr×Obj)}{O:ko}{H:Hp}{s:j0}{B:Ix}(I:jo X J O H s):∀(Q g:D) {v:V},flat Q=true->flat g=true->Rel X.kw H B Q v->Rel X.kw H B g v->Q=g
 |.ay,g,v,_,p,r,q=>by cases r;cases g<;>simp_all[Rel,flat]|.bl _,g,v,_,p,r,q=>by cases r;cases g<;>simp_all[Rel,flat]|.int _,g,v,_,p,r,q=>by cases r;cases g<;>simp_all[Rel,flat]|.str _,g,v,_,p,r,q=>by cases r;cases g<;>simp_all[Rel,flat]
 |.tup R,g,v,u,p,r,q=>by
  obtain⟨a,j,rfl,f,i⟩:=r;cases g with
  |tup C =>
   obtain⟨h,U,e,b,c⟩:=q;cases e;have:=I.nu f.sq b.sq;subst this;rw[ak.inj I R C u p i c]
  |lst C =>
   obtain⟨h,U,e,b,c⟩:=q;cases e;exact(oD I f.sq b.sq).elim
  |eI=>cases p|ref n=>cases p|bq n=>cases p|fn x=>cases p|_=>simp[Rel]at q
 |.lst R,g,v,u,p,r,q=>by
  obtain⟨a,j,rfl,f,i⟩:=r;cases g with
  |lst C =>
   obtain⟨h,U,e,b,c⟩:=q;cases e;have:=I.lR f.sq b.sq;subst this;rw[ak.inj I R C u p i c]
  |tup C =>
   obtain⟨h,U,e,b,c⟩:=q;cases e;exact(oD I b.sq f.sq).elim
  |eI=>cases p|ref n=>cases p|bq n=>cases p|fn x=>cases p|_=>simp[Rel]at q
 |.eI,g,v,u,_,_,_=>by cases u|.ref _,g,v,u,_,_,_=>by cases u|.bq _,g,v,u,_,_,_=>by cases u|.fn _ _,g,v,u,_,_,_=>by cases u
theorem ak.inj {J:List (Addr×Obj)}{O:ko}{H:Hp}{s:j0}{B:Ix}(I:jo X J O H s):∀(ds y:List D) {E:List V},bC ds=true->bC y=true->ak X.kw H B ds E->ak X.kw H B y E->ds=y
 | [],y,E,_,_,r,q=>by
  cases r;cases y with
  |nil=>rfl|cons e y=>simp[ak]at q
 |d::ds,y,E,u,p,r,q=>by
  obtain⟨v,k,rfl,b,f⟩:=r;cases y with
  |nil=>simp[ak]at q
  |cons e y =>
   obtain⟨j,i,a,h,c⟩:=q;cases a;simp only[bC,la]at u p;rw[Rel.inj I d e u.1 p.1 b h,ak.inj I ds y u.2 p.2 f c]
end
def Rel.yq {K H ι d v b t}(r:Rel K H ι d v)(f:kr v (.float b t)):False:=by
 cases d with
 |ay=>cases r;cases f|bl _=>cases r;cases f|int _=>cases r;obtain⟨t,e⟩:=f;cases e
 |str _=>cases r;obtain⟨t,e⟩:=f;cases e
 |tup _=>obtain⟨a,c,rfl,_⟩:=r;cases f
 |lst _=>obtain⟨a,c,rfl,_⟩:=r;cases f
 |eI=>obtain⟨a,rfl,_⟩:=r;cases f
 |ref _=>obtain⟨a,rfl,_⟩:=r;cases f
 |bq _=>obtain⟨a,rfl,_⟩:=r;cases f
 |fn _=>obtain⟨a,_,rfl,_⟩:=r;cases f
def in1_units (A:nc):A.in1.units=A.units+1:=rfl
section
open SeqAt
def qE {v:Value}(h:RcAt O s Z v a)(e:Z=v->a=true)(f:∀b t,Z ≠ .float b t):EqAt O s Z v a:=λprog w E Q A=>by
 unfold eqBool;refine sZ ?_;refine zX (λc=>?_) (λ_=>?_)
 . rw[e (eq_of_beq c)]at A
   exact jg (yn (kn A))
 . cases Z with
   |float b t=>exact absurd rfl (f b t)|_=>exact jg (h prog w E _ (Te A))
inductive Kd (s:j0):D->Value->Prop
 |ay:Kd s .ay .none
 |bl:∀b,Kd s (.bl b) (.bool b)
 |int:∀b t,Kd s (.int b) (.int b t)
 |str:∀b t,Kd s (.str b) (.str b t)
 |tup:∀xs a av,s.heap.IsTuple a av->Kd s (.tup xs) (.ref a)
 |lst:∀xs a av,s.heap.IsList a av->Kd s (.lst xs) (.ref a)
def kd {c:Ix}(I:jo X b v H s){d:D}{x:V}(f:flat d=true)(r:Rel X.kw H c d x)(h:kr x Z):Kd s d Z:=by
 cases d with
 |ay=>cases r;cases h;exact .ay|bl u=>cases r;cases h;exact .bl u|int u=>cases r;obtain⟨t,rfl⟩:=h;exact .int u t
 |str u=>cases r;obtain⟨t,rfl⟩:=h;exact .str u t
 |tup _=>obtain⟨a,_,rfl,q,_⟩:=r;cases h;obtain⟨_,_,t,_⟩:=I.tuple q.sq;exact .tup _ _ _ t
 |lst _=>obtain⟨a,_,rfl,q,_⟩:=r;cases h;obtain⟨_,_,t,_⟩:=I.list q.sq;exact .lst _ _ _ t.isList
 |_=>cases f
noncomputable def mix:D->D->Bool
 |.tup _,.tup _=>false|.lst _,.lst _=>false|_,_=>true
set_option maxHeartbeats 4000000 in
def gE {a b : D}{v: Value}(c : Kd s a Z)(g : Kd s b v)(m : mix a b = true)(hu : O.units + dep a < cLine): RcAt O s Z v (bB a b) /\ RcNeAt O s Z v (!bB a b):= by
 have hu : O.units < cLine := by lia
 cases c <;> cases g <;> first
   | (cases m; done)
   | (simp only[bB, XI, agc]
      with_reducible constructor <;> first
       |exact .none_none
       |exact .none_bool _
       |exact .none_int _ _
       |exact .none_str _ _
       |exact .none_tuple ‹_› (by lia)
       |exact .none_list ‹_› (by lia)
       |exact .bool_none _
       |exact .bool_bool _ _
       |exact .bool_int _ _ _
       |exact .bool_str _ _ _
       |exact .bool_tuple _ ‹_› (by lia)
       |exact .bool_list _ ‹_› (by lia)
       |exact .int_none _ _
       |exact .int_bool _ _ _
       |exact .int_int _ _ _ _
       |exact .int_str _ _ _ _
       |exact .int_tuple _ _ ‹_› (by lia)
       |exact .int_list _ _ ‹_› (by lia)
       |exact .str_none _ _
       |exact .str_bool _ _ _
       |exact .str_int _ _ _ _
       |exact .str_str _ _ _ _
       |exact .str_tuple _ _ ‹_› (by lia)
       |exact .str_list _ _ ‹_› (by lia)
       |exact .tuple_none ‹_› (by lia)
       |exact .tuple_bool _ ‹_› (by lia)
       |exact .tuple_int _ _ ‹_› (by lia)
       |exact .tuple_str _ _ ‹_› (by lia)
       |exact .tuple_list ‹_› ‹_› (by lia)
       |exact .list_none ‹_› (by lia)
       |exact .list_bool _ ‹_› (by lia)
       |exact .list_int _ _ ‹_› (by lia)
       |exact .list_str _ _ ‹_› (by lia)
       |exact .list_tuple ‹_› ‹_› (by lia))
section
variable {ι:Ix}
mutual
theorem GZ (I:jo X b v H s):∀(Z O:D) {A:nc} {x y:V} {u R:Value},flat Z=true->flat O=true->Rel X.kw H ι Z x->Rel X.kw H ι O y->kr x u->kr y R->A.units+dep Z<cLine->RcAt A s u R (bB Z O)/\RcNeAt A s u R (!bB Z O)
 |.tup B,O,A,x,y,u,R,p,C,E,Q,J,rv,hu=>by
  cases O with
  |tup n =>
   obtain⟨a,U,rfl,hq,hr⟩:=E;cases J;obtain⟨z,eH,q,_⟩:=I.tuple hq.sq;obtain⟨a',Y,rfl,cK,eG⟩:=Q;cases rv;obtain⟨i,qF,o,_⟩:=I.tuple cK.sq;simp only[dep]at hu;simp only[bB,pN];rw[show B.length=z.toArray.size by rw[m3,<- eH.length];exact hr.length,show n.length=i.toArray.size by rw[m3,<- qF.length];exact eG.length];have k:=rQ I B n (A:=A.in1) p C hr eG eH qF (by rw[in1_units];lia);exact⟨.tuples q o (by lia) λj l r=>by simpa using k j (by simpa using l) (by simpa using r),.tuples q o (by lia) λj l r=>by simpa using k j (by simpa using l) (by simpa using r)⟩
  |_=>exact gE (kd I p E J) (kd I C Q rv) rfl hu
 |.lst B,O,A,x,y,u,R,p,C,E,Q,J,rv,hu=>by
  cases O with
  |lst n =>
   obtain⟨a,U,rfl,hq,hr⟩:=E;cases J;obtain⟨z,eH,q,_⟩:=I.list hq.sq;obtain⟨a',Y,rfl,cK,eG⟩:=Q;cases rv;obtain⟨i,qF,o,_⟩:=I.list cK.sq;simp only[dep]at hu;simp only[bB,pN];rw[show B.length=z.toArray.size by rw[m3,<- eH.length];exact hr.length,show n.length=i.toArray.size by rw[m3,<- qF.length];exact eG.length];by_cases hs:z.toArray.size=i.toArray.size
   . rw[show(z.toArray.size == i.toArray.size)=true by simpa using hs,Bool.and_true,<- hs,Nat.min_self]
     have k:=rQ I B n (A:=A.in1) p C hr eG eH qF (by rw[in1_units];lia);exact⟨.lists q.isList o.isList hs (by lia) λj l r=>by simpa using k j (by simpa using l) (by simpa using r),.lists q.isList o.isList hs (by lia) λj l r=>by simpa using k j (by simpa using l) (by simpa using r)⟩
   . rw[show(z.toArray.size == i.toArray.size)=false by simpa using hs,Bool.and_false,agc]
     exact⟨.lists_lengths q.isList o.isList (by simpa using hs) (by lia),.lists_lengths q.isList o.isList (by simpa using hs) (by lia)⟩
  |_=>exact gE (kd I p E J) (kd I C Q rv) rfl hu
 |.ay,_,_,_,_,_,_,a,g,c,d,e,f,h=>gE (kd I a c e) (kd I g d f) rfl h|.bl _,_,_,_,_,_,_,a,g,c,d,e,f,h=>gE (kd I a c e) (kd I g d f) rfl h|.int _,_,_,_,_,_,_,a,g,c,d,e,f,h=>gE (kd I a c e) (kd I g d f) rfl h|.str _,_,_,_,_,_,_,a,g,c,d,e,f,h=>gE (kd I a c e) (kd I g d f) rfl h|.eI,_,_,_,_,_,_,a,g,c,d,e,f,h=>gE (kd I a c e) (kd I g d f) rfl h|.ref _,_,_,_,_,_,_,a,g,c,d,e,f,h=>gE (kd I a c e) (kd I g d f) rfl h|.bq _,_,_,_,_,_,_,a,g,c,d,e,f,h=>gE (kd I a c e) (kd I g d f) rfl h|.fn _ _,_,_,_,_,_,_,a,g,c,d,e,f,h=>gE (kd I a c e) (kd I g d f) rfl h
theorem rQ (I:jo X b v H s):∀(B n:List D) {A:nc} {U Y:List V} {us zs:List Value},bC B=true->bC n=true->ak X.kw H ι B U->ak X.kw H ι n Y->Vals U us->Vals Y zs->A.units+dA B<cLine ->
  ∀(j:Nat) (h1:j<us.length) (h2:j<zs.length),EqAt A s us[j] zs[j] (bB (B[j]?.getD .ay) (n[j]?.getD .ay))
 | [],n,A,U,Y,us,zs,_,_,E,_,J,_,_,j,h1,_=>by cases E;cases J;simp at h1
 |d::ds,n,A,U,Y,us,zs,p,C,E,Q,J,rz,hu,j,h1,h2=>by
  obtain⟨R,o,rfl,a,l⟩:=E;simp only[dA]at hu;simp only[bC,la]at p;cases J with
  |cons G_ X0 =>
   cases n with
   |nil=>cases Q;cases rz;simp at h2
   |cons e es =>
    obtain⟨w,wr,rfl,hw,i⟩:=Q;simp only[bC,la]at C;cases rz with
    |cons Sn X2 =>
     cases j with
     |zero =>
      have rc:=(GZ I d e (A:=A) p.1 C.1 a hw G_ Sn (by lia)).1;simp only[List.getElem_cons_zero,ac7,ahl];refine qE rc (λc=>?_) (λg t f=>Rel.yq a (by rw[f]at G_;exact G_));subst c;have k:=G_.inj Sn;subst k;have h:=Rel.inj I d e p.1 C.1 a hw;subst h;exact j6 d p.1
     |succ j =>
      have:=rQ I ds es (A:=A) p.2 C.2 l i X0 X2 (by lia) j (by simpa using h1) (by simpa using h2);simpa using this
end
end
end
noncomputable def oEq (a b:D)(g:G):Option (D×G):=if(flat a&&flat b&&decide (dep a<=60))=true then some (.bl (bB a b),g)else none
def QA (hu:X.A.units+64<cLine):bQ X (ra .Eq) (dW X.kw oEq):=by
 intro r s B H x y v u Q I b c q;obtain⟨n,g,a,h,d,i,G0,e,f,q,p⟩:=q;unfold oEq at q;split at q
 . rename_i z
   simp only[la,decide_eq_true_eq]at z;cases q;exact(GZ I a h z.1.1 z.1.2 e f b c (by lia)).1 _ _ _ _ ⟨.bl _,H,I,rfl,p H n _ Ext.refl G0 (by simp[Rel])⟩
 . cases q
noncomputable def gq:D->Bool
 |.ay=>true|_=>false
noncomputable def Fc (b a:D)(g:G):Option (D×G):=match a with|.ay=>some (.bl (gq b),g)|_=>none
noncomputable def An (b a:D)(g:G):Option (D×G):=match a with|.ay=>some (.bl (!gq b),g)|_=>none
def yr {K H ι d v}(r:Rel K H ι d v):decide (v=V.ay)=gq d:=by
 cases d with
 |ay=>cases r;rfl|bl _=>cases r;rfl|int _=>cases r;rfl|str _=>cases r;rfl|tup _=>obtain⟨a,b,rfl,_⟩:=r;rfl
 |lst _=>obtain⟨a,b,rfl,_⟩:=r;rfl
 |eI=>obtain⟨a,rfl,_⟩:=r;rfl
 |ref _=>obtain⟨a,rfl,_⟩:=r;rfl
 |bq _=>obtain⟨a,rfl,_⟩:=r;rfl
 |fn _=>obtain⟨a,_,rfl,_⟩:=r;rfl
def MU:bQ X (ra .Is) (dW X.kw Fc):=by
 intro n s r H x y v u Q I a b q;obtain⟨B,g,h,f,d,i,G0,c,e,q,p⟩:=q;cases f with
 |ay =>
  cases e;simp only[Fc]at q;cases q;exact LC n s r H _ _ v u Q I a b ⟨rfl,by rw[yr c];exact p H B _ Ext.refl G0 (by simp[Rel])⟩
 |_=>cases q
def Jp:bQ X (ra .IsNot) (dW X.kw An):=by
 intro n s r H x y v u Q I a b q;obtain⟨B,g,h,f,d,i,G0,c,e,q,p⟩:=q;cases f with
 |ay =>
  cases e;simp only[An]at q;cases q;refine IE n s r H _ _ v u Q I a b ⟨rfl,?_⟩;rw[yr c];exact p H B _ Ext.refl G0 (by simp[Rel])
 |_=>cases q
noncomputable def aW (d:D)(g:G):Option (List D):=match d with
 |.tup c=>some c|.lst c=>some c|.ref n=>g[n]?|_=>none
def kF {K H ι g d v xs}(G0:az K H ι g)(r:Rel K H ι d v)(h:aW d g=some xs):∃a p,v = .ref a/\(dD K H a p\/fg K H a p)/\ak K H ι xs p:=by
 cases d with
 |tup q=>cases h;obtain⟨a,p,rfl,c,b⟩:=r;exact⟨a,p,rfl,.inr c.sq,b⟩
 |lst q=>cases h;obtain⟨a,p,rfl,c,b⟩:=r;exact⟨a,p,rfl,.inl c.sq,b⟩
 |ref n =>
  obtain⟨a,rfl,i⟩:=r;obtain⟨p,f,e⟩:=G0.at h i;exact⟨a,p,rfl,.inl (.of f),e⟩
 |_=>cases h
noncomputable def dP (b a:D)(g:G):Option (D×G):=match a with
 |.int i=>(aW b g).bind λc=>(cF c i).map λd=>(d,g)|_=>none
def Jq {K H ι}{g:List D}{d:D}(r:ak K H ι g h)(i:cF g I=some d):∃v,cF h I=some v/\Rel K H ι d v:=by unfold cF at i ⊢;rw[<- r.length];obtain⟨j,e,b⟩:=bind_some i;obtain⟨v,a,c⟩:=r.get b;exact⟨v,by rw[e];exact a,c⟩
def Jr:mR X (dW X.kw dP):=by
 intro value slice n s B H x y v u Q I f h q k;obtain⟨C,g,R,E,d,U,G0,l,r,q,p⟩:=q;cases E with
 |int i =>
  cases r;simp only[dP]at q;obtain⟨J,o,q⟩:=bind_some q;cases h2:cF J i with
  |none=>rw[h2]at q;cases q
  |some e =>
   rw[h2]at q;cases q;obtain⟨a,c,rfl,b,O⟩:=kF G0 l o;obtain⟨w,j,z⟩:=Jq O h2;have fin:=p H C w Ext.refl G0 z;rcases b with b|b
   . exact BO value slice n s B H _ _ v u Q I f h (.inl ⟨a,c,i,w,rfl,rfl,b,j,fin⟩) k
   . exact BO value slice n s B H _ _ v u Q I f h (.inr (.inl ⟨a,c,i,w,rfl,rfl,b,j,fin⟩)) k
 |_=>cases q
noncomputable def bw (ds:List D)(g:G):Option (D×G):=match ds with| [d]=>(aW d g).map λc=>(.int c.length,g)|_=>none
def MV:dX X (.builtin "len") (kA X.kw bw):=by
 intro u s x H E y Q I r q;obtain⟨B,g,ds,d,j,G0,c,q,p⟩:=q;cases ds with
 |nil=>cases q|cons e C =>
 cases C with
 |cons _ _=>cases q
 |nil =>
  simp only[bw]at q;cases n:aW e g with
  |none=>rw[n]at q;cases q
  |some J =>
   rw[n]at q;cases q;obtain⟨v,_,rfl,h,rfl⟩:=c;obtain⟨a,b,rfl,f,i⟩:=kF G0 h n;exact vp u s x H _ y Q I r ⟨a,b,rfl,f,by rw[<- i.length];exact p H B _ Ext.refl G0 (by simp[Rel])⟩
noncomputable def kR (ds:List D)(g:G):Option (D×G):=match ds with| [.int i,.int j]=>some (.int (if j<i then j else i),g)|_=>none
def MW (c:X.calm=true):dX X (.builtin "min") (kA X.kw kR):=by
 intro h s i H v n Q I r q;obtain⟨u,g,ds,d,b,G0,a,q,p⟩:=q;unfold kR at q;split at q
 . cases q
   obtain⟨_,_,rfl,rfl,_,_,rfl,rfl,rfl⟩:=a;exact BJ c h s i H _ n Q I r ⟨_,_,rfl,p H u _ Ext.refl G0 (by simp[Rel])⟩
 . cases q
noncomputable def j7 (ds:List D)(g:G):Option (D×G):=match ds with| [.int i]=>some (.int i,g)| [.bl k]=>some (.int (if k then 1 else 0),g)|_=>none
def MX:dX X (.type "int") (kA X.kw j7):=by
 intro c s h H u i Q I r q;obtain⟨n,g,ds,d,b,G0,a,q,p⟩:=q;unfold j7 at q;split at q
 . cases q
   obtain⟨_,_,rfl,rfl,rfl⟩:=a;exact sR c s h H _ i Q I r (.inl ⟨_,rfl,p H n _ Ext.refl G0 (by simp[Rel])⟩)
 . cases q
   obtain⟨_,_,rfl,rfl,rfl⟩:=a;exact sR c s h H _ i Q I r (.inr ⟨_,rfl,p H n _ Ext.refl G0 (by simp[Rel])⟩)
 . cases q
noncomputable def fL (ds:List D)(g:G):Option (D×G):=match ds with| [d]=>(aW d g).bind λc=>if aC c.length=true then some (.tup c,g)else none|_=>none
def MY:dX X (.type "tuple") (kA X.kw fL):=by
 intro B s C H U E Q I r q;obtain⟨J,g,ds,d,Y,G0,o,q,p⟩:=q;cases ds with
 |nil=>cases q|cons e O =>
 cases O with
 |cons _ _=>cases q
 |nil =>
  simp only[fL]at q;obtain⟨Z,f,q⟩:=bind_some q;split at q
  . rename_i z
    cases q;obtain⟨v,_,rfl,h,rfl⟩:=o;cases e with
    |tup zs =>
     cases f;obtain⟨a,n,rfl,b,j⟩:=h;exact mS B s C H _ E Q I r ⟨a,n,rfl,.inr ⟨b.sq,p H J _ Ext.refl G0 (by simp only[Rel];exact⟨a,n,rfl,b,j⟩)⟩⟩
    |_ =>
     obtain⟨a,n,rfl,b,j⟩:=kF G0 h f;have R:dD X.kw H a n:=by
      rcases b with b|b
      . exact b
      . exfalso
        first
         | (cases f;done)
         | (obtain⟨x,Ha,i,u,_⟩:=h;cases i;exact oD I b u.sq)
         | (obtain⟨x,i,k⟩:=h;cases i;obtain⟨ws,y,h2⟩:=G0.at f k;exact oD I b (.of y))
     refine mS B s C H _ E Q I r ⟨a,n,rfl,.inl ⟨R,λl c=>p _ _ _ (Ext.lay c) (G0.lay c) ?_⟩⟩;simp only[Rel];exact⟨l,n,rfl,.inl ⟨.inl aQ,G0.fresh c⟩,ak.ext (Ext.lay c) _ j⟩
  . cases q
end
end
variable {r:List D}{a:G}{c:D}{h:Sg}{l:Fn}{C:FE}
section
open PyProof.Rows
open Sem (wp)
open Builtin
variable {Z:TO}
def bao (l b:Addr)(p v:Array Value)(n u:Nat)(o r:Option Addr)(k q:Array (Option Value))(x:p.isEmpty=true):
  Meets (sk.«tuple.__add__» ⟨[.ref l,.ref b],[]⟩) (λ_ R s=>s.heap.get? l=some { cls:=.type "tuple",dict:=o,data:=.seq p n,slots:=k }/\s.heap.get? b=some { cls:=.type "tuple",dict:=r,data:=.seq v u,slots:=q }/\R (.ok (.ret (yE b))) { s with heap:=s.heap,toks:=s.toks }):=
 .of_wp λprog w A R s h=>by obtain⟨j,g,d,e,os⟩:=s;obtain⟨a,c,h⟩:=h;have y:=Z6;have B:=ac3;have f:=afZ;have C:=AutoSeq1.sub_tuple_list;have i:=AutoSeq1.sub_list_tuple;wp_walk using L2 a,L2 c;exact⟨_,rfl,h⟩
def pO:fillsNumberSlot (.type "tuple") "mul" = pure false :=
 afr (id:="tuple.__mul__") (r:=some (.builtin "tuple.__rmul__")) F.slot_tuple_mul.lookup (by decide +kernel) F.slot_tuple_rmul.lookup (by decide +kernel)
def vS:agm (.type "tuple")=pure (some (.builtin "tuple.__mul__")):=by unfold agm;rw[ael (T:="tuple") (name:="__mul__") (id:="tuple.__mul__") F.slot_tuple_mul.lookup (by decide +kernel),ael (T:="tuple") (name:="__rmul__") (id:="tuple.__rmul__") F.slot_tuple_rmul.lookup (by decide +kernel)];rfl
def ux (a:Int)(t:Tok)(l:Addr)(p:Array Value)(n:Nat)(i:Option Addr)(f:Array (Option Value)):
  Meets (sk.«int.__mul__» ⟨[.int a t,.ref l],[]⟩) (λ_ R s=>s.heap.get? l=some { cls:=.type "tuple",dict:=i,data:=.seq p n,slots:=f }/\R (.ok (.ret agn)) s):=
 .of_wp λprog w A R s h=>by obtain⟨e,g,d,c,os⟩:=s;obtain⟨b,h⟩:=h;wp_walk;exact⟨_,rfl,h⟩
def Ao (l:Addr)(p:Array Value)(n:Nat)(e:Option Addr)(j:Array (Option Value))(x:Int)(u:Tok)(i:¬(decide (x < -(2 ^ 63))||decide (x>=2 ^ 63))=true)(o:¬(p.isEmpty||x == 1)=true)(q:¬(decide (x<=0)||p.isEmpty)=true)
  (f:¬(p.size:Int)*x>(2 ^ 63-1) / 8) (k:¬af0 ((p.size:Int)*x)=true) (r:((l6 x.toNat p).foldl (· ++ ·) #[]).size<=lX):
  Meets (sk.«tuple.__mul__» ⟨[.ref l,.int x u],[]⟩) (λ_ R s=>s.heap.get? l=some { cls:=.type "tuple",dict:=e,data:=.seq p n,slots:=j }/\R (.ok (.ret (yE s.heap.objs.size))) { s with heap:=s.heap.push { cls:=rn "tuple",data:=Data.seq ((l6 x.toNat p).foldl (· ++ ·) #[]) },toks:=s.toks }):=
 .of_wp λprog w A R s h=>by
  obtain⟨c,g,d,b,os⟩:=s;obtain⟨a,h⟩:=h;have v:=Z6;have y:=ac3
  wp_walk using L2 a
  refine Z3 (decide_eq_false i) ?_
  wp_walk using L2 a
  refine Z3 (decide_eq_false f) ?_
  wp_walk using L2 a
  exact⟨_,rfl,h⟩
def xQ (l:Addr)(p:Array Value)(n:Nat)(e:Option Addr)(i:Array (Option Value))(x:Int)(u:Tok)(f:¬(decide (x < -(2 ^ 63))||decide (x>=2 ^ 63))=true)(j:(p.isEmpty||x == 1)=true):
  Meets (sk.«tuple.__mul__» ⟨[.ref l,.int x u],[]⟩) (λ_ R s=>s.heap.get? l=some { cls:=.type "tuple",dict:=e,data:=.seq p n,slots:=i }/\R (.ok (.ret (yE l))) { s with heap:=s.heap,toks:=s.toks }):=
 .of_wp λprog w A R s h=>by
  obtain⟨c,g,d,b,os⟩:=s;obtain⟨a,h⟩:=h;have q:=Z6;have r:=ac3
  wp_walk using L2 a
  refine Z3 (decide_eq_false f) ?_
  wp_walk using L2 a
  exact⟨_,rfl,h⟩
def xR (l:Addr)(p:Array Value)(n:Nat)(e:Option Addr)(i:Array (Option Value))(x:Int)(u:Tok)(f:¬(decide (x < -(2 ^ 63))||decide (x>=2 ^ 63))=true)(j:¬(p.isEmpty||x == 1)=true)(k:(decide (x<=0)||p.isEmpty)=true):
  Meets (sk.«tuple.__mul__» ⟨[.ref l,.int x u],[]⟩) (λ_ R s=>s.heap.get? l=some { cls:=.type "tuple",dict:=e,data:=.seq p n,slots:=i }/\R (.ok (.ret (yE s.heap.objs.size))) { s with heap:=s.heap.push { cls:=rn "tuple",data:=Data.seq #[] },toks:=s.toks }):=
 .of_wp λprog w A R s h=>by
  obtain⟨c,g,d,b,os⟩:=s;obtain⟨a,h⟩:=h;have q:=Z6;have r:=ac3
  wp_walk using L2 a
  refine Z3 (decide_eq_false f) ?_
  wp_walk using L2 a
  exact⟨_,rfl,h⟩
noncomputable def QB (K:KW):R2:=λx y H Q=>∃a k c,x = .int k/\y = .ref a/\fg K H a c /\ -(2 ^ 63)<=k/\k<2 ^ 63/\c.length*k.toNat<=16777216 /\
 ((c = []\/k=1)->Q (.ref a) H)/\(c ≠ []->k<=0->∀p,H p=none->Q (.ref p) (upd H p (.tup [])))/\(c ≠ []->2<=k->∀p,H p=none->Q (.ref p) (upd H p (.tup (l6 k.toNat c).flatten)))
def Js:bQ X (qC .Mult) (QB X.kw):=by
 intro a8 s σ H x y v u Q I R Y h;obtain⟨a,k,p,rfl,rfl,hq,h1,h2,o,Z,q0,q2⟩:=h;cases Y;obtain⟨t,rfl⟩:=R;obtain⟨c,r,ht,X4⟩:=I.tuple hq;have z:=r.length;obtain⟨⟨cls,i,data,j⟩,f,C,n,hd⟩:=id ht;simp only at C hd;subst C hd;have q:¬(decide (k < -(2 ^ 63))||decide (k>=2 ^ 63))=true:=by rw[uG,decide_eq_true_eq,decide_eq_true_eq];lia
 refine PySem.lm_binaryOp_repeat_right (T:="tuple") (U:="int") (by decide) (λs'=>afo s' k t) ⟨_,f,rfl⟩ F.fills_int_mul pO F.slot_int_mul PySem.lm_noRepeat_int vS F.slot_int_index.lookup
   (Of F.slot_int_mul (afo s k t) F.entry_int_mul (F.args_int_mul_2 _ _) (ux k t a c.toArray n i j) ⟨f,rfl,⟨_,f,rfl⟩,?_⟩)
 by_cases g:p = []\/k=1
 . refine Of F.slot_tuple_mul ⟨_,f,rfl⟩ F.entry_tuple_mul (F.args_tuple_mul_2 _ _) (xQ a c.toArray n i j k t q ?_) ⟨f,.ref a,H,I,rfl,Z g⟩
   rcases g with g|g
   . subst g
     cases r;simp
   . subst g;simp
 . have l:p ≠ []:=λe=>g (.inl e)
   have M1:k≠1:=λe=>g (.inr e);have E:c ≠ []:=λe=>l (by subst e;cases r;rfl);have n1:¬(c.toArray.isEmpty||k == 1)=true:=by simp[E,M1]
   have fresh:H s.heap.objs.size=none:=I.aV.fresh (lb _);by_cases B:k<=0
   . refine Of F.slot_tuple_mul ⟨_,f,rfl⟩ F.entry_tuple_mul (F.args_tuple_mul_2 _ _) (xR a c.toArray n i j k t q n1 (by simp[B])) ⟨f,?_⟩
     refine⟨.ref _,_,I.laid (t':=s.toks) (λb u e=>mn _ e) (lb _) ?_,rfl,q0 l B _ fresh⟩;exact⟨rb _,[],.nil,⟨_,n3 _ rfl,rfl,⟨_,rfl⟩,rfl⟩⟩
   . have J:ahx (λx1 x2=>x1++x2) #[] (l6 k.toNat c.toArray)=(l6 k.toNat c).flatten.toArray:=by
       have:=bal c k.toNat [];rw[OQ]at this;exact this
     have hs:lX=16777216:=Hy;have jB:(c.length:Int)*k<=16777216:=by have O:((p.length*k.toNat:Nat):Int)<=16777216:=Int.ofNat_le.mpr o;rw[ahD,V5 (by lia),z]at O;exact O
     refine Of F.slot_tuple_mul ⟨_,f,rfl⟩ F.entry_tuple_mul (F.args_tuple_mul_2 _ _) (Ao a c.toArray n i j k t q n1 (by simp[B,E]) (by rw[m3];lia) ?_ ?_) ⟨f,?_⟩
     . rw[m3]
       unfold af0;simp;lia
     . rw[J,m3,len_rep,<- z,TR,hs];exact o
     . rw[J]
       refine⟨.ref _,_,I.laid (t':=s.toks) (λb u e=>mn _ e) (lb _) ?_,rfl,q2 l (by lia) _ fresh⟩;exact⟨by rw[len_rep,TR,hs];exact o,_,r.rep k.toNat,⟨_,n3 _ rfl,rfl,⟨_,rfl⟩,rfl⟩⟩
theorem ak.rep {K H ι}{c:List D}{g:List V}(r:ak K H ι c g):∀k:Nat,ak K H ι (l6 k c).flatten (l6 k g).flatten
 | 0=>by simp[ak]|k+1=>by rw[TM,TM,Dx,Dx];exact ak.append r (ak.rep r k)
noncomputable def bJ (b a:D)(g:G):Option (D×G):=match b,a with
 |.int i,.int j=>if cu i j=true then some (.int (i*j),g)else none|.int k,.tup c=>if(fQ k&&aC (c.length*k.toNat))=true then some (.tup (l6 k.toNat c).flatten,g)else none|_,_=>none
def vU:bQ X (qC .Mult) (dW X.kw bJ):=by
 intro E s J H x y v u Q I O R q;obtain⟨C,g,d1,d2,d,U,G0,h,l,q,p⟩:=q;unfold bJ at q;split at q
 . split at q
   . rename_i i j z
     exact Jn E s J H x y v u Q I O R ⟨C,g,.int i,.int j,d,U,G0,h,l,by simp only[bD];rw[if_pos z];exact q,p⟩
   . cases q
 . split at q
   . rename_i k n z
     simp only[la]at z;have z1:=fQ.and z.1;have Y:=aC.le z.2;cases q;simp only[Rel]at h l;obtain⟨a,r,rfl,hq,e⟩:=l;subst h;have o:=e.length;have new:∀{zs:List D} {B:List V},ak X.kw H C zs B->zs=(l6 k.toNat n).flatten->∀q,H q=none->Q (.ref q) (upd H q (.tup B)):=fun {zs B} Z ez q b=>by subst ez;refine p _ _ _ (Ext.lay b) (G0.lay b) ?_;simp only[Rel];exact⟨q,B,rfl,.inl ⟨.inl aQ,G0.fresh b⟩,ak.ext (Ext.lay b) _ Z⟩
     refine Js E s J H _ _ v u Q I O R ⟨a,k,r,rfl,rfl,hq.sq,(by lia),(by lia),by rw[<- o];exact Y,λc=>?_,λhx hk=>?_,λhx hk=>?_⟩
     . refine p H C _ Ext.refl G0 ?_
       simp only[Rel];refine⟨a,r,rfl,hq,?_⟩;rcases c with c|c
       . subst c
         have:n = []:=adf (by simpa using o);subst this;have f:(l6 k.toNat ([]:List D)).flatten = []:=by simp
         rw[f];exact e
       . subst c
         have f:(l6 (1:Int).toNat n).flatten=n:=by simp
         rw[f];exact e
     . refine new (zs:=[]) (by simp[ak]) ?_
       have:k.toNat=0:=by lia
       rw[this];simp
     . exact new (e.rep k.toNat) rfl
   . cases q
 . cases q
def Fe:bQ X (qC .Add) (λx y H Q=>∃a b p,x = .ref a/\y = .ref b/\fg X.kw H a []/\fg X.kw H b p/\Q (.ref b) H):=by
 intro R s U H x y v u Q I k r h;obtain⟨a,b,p,rfl,rfl,o,hb,q⟩:=h;cases k;cases r;obtain⟨l,z,p1,_⟩:=I.tuple o;obtain⟨B,Y,C,_⟩:=I.tuple hb;obtain⟨⟨cls,E,data,sl⟩,e,i,n,hd⟩:=id p1;obtain⟨⟨Z,J,data2,O⟩,c,f,j,g⟩:=id C;simp only at i hd f g;subst i hd f g;exact afA ⟨_,e,rfl⟩ ⟨_,c,rfl⟩ afB ags ad8 ad4 (adN _ _)
  (bao a b l.toArray B.toArray n j E J sl O (by cases z;simp)) ⟨e,c,.ref b,H,I,rfl,q⟩
def Jt:bQ X (qC .Add) (λx y H Q=>∃a b B C,x = .ref a/\y = .ref b/\dD X.kw H a B/\dD X.kw H b C/\B.length+C.length<=lX /\ ∀p,H p=none->Q (.ref p) (upd H p (.lst (B++C)))):=by
 intro a8 s σ H x y v u Q I O R h;obtain⟨a,b,B,C,rfl,rfl,ha,hb,r,q⟩:=h;cases O;cases R;obtain⟨c,j,p1,_⟩:=I.list ha;obtain⟨f,z,U,_⟩:=I.list hb;obtain⟨⟨cls,dd,data,sl⟩,n,o,E,l,hd⟩:=id p1;obtain⟨⟨LH,vk,data2,Y⟩,n2,i,J,k,g⟩:=id U;simp only at E hd J g l k;subst E hd J g l k;have e:c.toArray++f.toArray=(c++f).toArray:=by simp
 have Z:c.length+f.length<=lX:=by rw[<- j.length,<- z.length];exact r
 refine afA ⟨_,o,rfl⟩ ⟨_,i,rfl⟩ noFill_list_add seq_list_add PySem.F.slot_list_add PySem.F.entry_list_add (PySem.F.args_list_add_2 _ _) (list_addW a b c.toArray f.toArray n n2 none none sl Y (by simpa using Z)) ⟨o,i,?_⟩;rw[e];exact⟨.ref _,_,I.UU (t':=s.toks) (j.append z) (by rw[lN];exact r),rfl,q _ I.fresh⟩
noncomputable def iZ (d:D)(g:G):Option (List D):=match d with
 |.lst c=>some c|.ref n=>g[n]?|_=>none
def l7 {K H ι g d v xs}(G0:az K H ι g)(r:Rel K H ι d v)(h:iZ d g=some xs):∃a p,v = .ref a/\dD K H a p/\ak K H ι xs p:=by
 cases d with
 |lst q =>
  cases h;obtain⟨a,p,rfl,f,c⟩:=r;exact⟨a,p,rfl,f.sq,c⟩
 |ref n =>
  obtain⟨a,rfl,i⟩:=r;obtain⟨p,e,b⟩:=G0.at h i;exact⟨a,p,rfl,.of e,b⟩
 |_=>cases h
noncomputable def aJ (b a:D)(g:G):Option (D×G):=match b,a with
 |.int i,.int j=>some (.int (i+j),g)|.tup c,.tup h=>if aC (c.length+h.length)=true then some (.tup (c++h),g)else none|.str i,.str j=>if aC (i.length+j.length)=true then some (.str (i++j),g)else none
 |b,a=>match iZ b g,iZ a g with
  |some c,some h=>if aC (c.length+h.length)=true then some (.lst (c++h),g)else none|_,_=>none
def M4:bQ X (qC .Add) (dW X.kw aJ):=by
 intro n s B H x y v u Q I r C q;obtain⟨O,g,d1,d2,d,g',G0,k,l,q,p⟩:=q;unfold aJ at q;split at q
 . rename_i i j
   exact Jm n s B H x y v u Q I r C ⟨O,g,.int i,.int j,d,g',G0,k,l,q,p⟩
 . split at q
   . rename_i U Y z
     cases q;simp only[Rel]at k l;obtain⟨a,o,rfl,hq,h⟩:=k;obtain⟨b,E,rfl,J,f⟩:=l;by_cases Z:o = []
     . subst Z
       have:U = []:=adf (by simpa using h.length);subst this;refine Fe n s B H _ _ v u Q I r C ⟨a,b,E,rfl,rfl,hq.sq,J.sq,p H O _ Ext.refl G0 ?_⟩;simp only[Rel,OQ];exact⟨b,E,rfl,J,f⟩
     . refine IM n s B H _ _ v u Q I r C ⟨a,b,o,E,rfl,rfl,hq.sq,J.sq,Z,by rw[<- h.length,<- f.length];exact aC.le z,λe=>?_,λe R c=>?_⟩
       . subst e
         have:Y = []:=adf (by simpa using f.length);subst this;refine p H O _ Ext.refl G0 ?_;simp only[Rel,tA];exact⟨a,o,rfl,hq,h⟩
       . refine p _ _ _ (Ext.lay c) (G0.lay c) ?_
         simp only[Rel];exact⟨R,_,rfl,.inl ⟨.inl aQ,G0.fresh c⟩,ak.ext (Ext.lay c) _ (ak.append h f)⟩
   . cases q
 . split at q
   . rename_i x1 y1 z
     cases q;simp only[Rel]at k l;subst k l;exact zW n s B H _ _ v u Q I r C ⟨x1,y1,rfl,rfl,aC.le z,p H O _ Ext.refl G0 (by simp[Rel])⟩
   . cases q
 . split at q
   . rename_i U Y e1 e2
     split at q
     . rename_i z
       cases q;obtain⟨a,o,rfl,hq,h⟩:=l7 G0 k e1;obtain⟨b,E,rfl,J,f⟩:=l7 G0 l e2;refine Jt n s B H _ _ v u Q I r C ⟨a,b,o,E,rfl,rfl,hq,J,by rw[<- h.length,<- f.length];exact aC.le z,λR c=>?_⟩;refine p _ _ _ (Ext.lay c) (G0.lay c) ?_;simp only[Rel];exact⟨R,_,rfl,.inl ⟨.inl aQ,G0.fresh c,G0.ia c⟩,ak.ext (Ext.lay c) _ (ak.append h f)⟩
     . cases q
   . cases q
noncomputable abbrev FO:=Sg->G->Option (Option Int×G)
inductive So (K:KW)(f:FO)(σ:ko)(H:Hp)(Q:(Option Int->Hp->Prop)):Prop
 |mk (ι:Ix) (σd:Sg) (g:G) (o:Option Int) (g':G) (h0:az K H ι g) (h1:bO K H ι σd σ) (h2:f σd g=some (o,g')) (h3:qv K H ι g' (Q o)):So K f σ H Q
structure DO (X:Cx)(e:Option Expr)(f:FO):Prop where of ::
 un:PO X e (So X.kw f)
def PO.imp {e:Option Expr}{g:TO}(h:PO X e Z)(i:∀c H Q,g c H Q->Z c H Q):PO X e g:=λn s c H Q I q=>h n s c H Q I (i c H Q q)
noncomputable def eh:FO:=λ_ g=>some (none,g)
noncomputable def aY (f:FE):FO:=λc g=>(f c g).bind λr=>match r.1 with|.int i=>some (some i,r.2)|_=>none
def Ju:DO X none eh:=.of (PO.imp IK λn H Q h=>by obtain⟨i,c,g,o,a,G0,b,h,p⟩:=h;cases h;exact p H i Ext.refl G0)
def yt (h:DE X e C):DO X (some e) (aY C):=.of (PO.imp (IL h.un) λu H Q h=>by
 obtain⟨x,r,g,o,s,G0,a,h,p⟩:=h;obtain⟨⟨d,y⟩,j,h⟩:=bind_some h;cases d with
 |int i =>
  cases h;exact tD.bind G0 a j λn k v l c q b=>⟨i,by simpa[Rel]using b,p n k l c⟩
 |_=>cases h)
noncomputable def pe (c:List D)(a b:Option Int):List D:=(c.drop (bj c.length 0 a)).take (bj c.length c.length b-bj c.length 0 a)
noncomputable def lj (n:Nat)(a b:Option Int):Bool:=decide (bj n 0 a=0)&&decide (bj n n b=n)
noncomputable def M5 (d:D)(a b:Option Int)(g:G):Option (D×G):=match d with
 |.tup c=>if lj c.length a b=true then none else some (.tup (pe c a b),g)|.lst c=>some (.lst (pe c a b),g)|.ref n=>match g[n]? with|some c=>some (.lst (pe c a b),g)|none=>none
 |_=>none
def ak.M6 {K H ι}{c:List V}(g:ak K H ι r c)(b a:Option Int):ak K H ι (pe r b a) (nC c b a):=by unfold pe nC;rw[<- g.length];exact ak.take _ (ak.drop _ g)
noncomputable def M7 (K:KW):V->Option Int->Option Int->Hp->VK->Prop:=λx c a H Q=>LK K x c a H Q\/LU K x c a H Q
def Jv:o_ X (M7 X.kw):=by
 intro g s n H x v b i p c j Q I a f e pu h;rcases h with h|h
 . exact LL g s n H x v b i p c j Q I a f e pu h
 . exact IQ g s n H x v b i p c j Q I a f e pu h
def big (I:jo X b v H s):NV<s.heap.objs.size:=by obtain⟨o,g,c,e,_⟩:=I.mod.glob;have a:=mA (I.bk _ _ e);exact afD (by decide) a
def Ff:DE X (.Dict [] [] q) (fC .eI):=.of (by
 intro i s n H Q I h;obtain⟨r,c,g,d,f,G0,a,h,p⟩:=h;cases h;have hf:H s.heap.objs.size=none:=I.aV.fresh (lb _);refine wpAny_Dict_empty ⟨.ref s.heap.objs.size,upd H s.heap.objs.size (.dK []),I.laid (t':=s.toks) (λb u e=>mn _ e) (lb _) ?_,rfl,p _ _ _ (Ext.lay hf) (G0.lay hf) ?_⟩
 . exact⟨rb _,beq_eq_false_iff_ne.mpr (ta (oZ (big I))),[],.nil,Heap.DictOf.new _⟩
 . simp only[Rel]
   exact⟨_,rfl,aQ,G0.fresh hf⟩)
end
section
open PyProof.Rows
noncomputable def oLt:=qD λi j=>decide (i<j)
noncomputable def oLe:=qD λi j=>decide (i<=j)
noncomputable def nO:=qD λi j=>decide (j<i)
noncomputable def Hb:=qD λi j=>decide (j<=i)
noncomputable def rR (S:Scope)(a N:List Str)(fr:List (Option Nat))(c:Scope):Bool :=
 decide (c.kind = .function)&&c.names.all (λy=>!decide (y.2 = .cell)||decide (c.names.lookup y.1=some .cell))&&c.names.all (λy=>!decide (y.2 = .local)||decide (c.names.lookup y.1=some .local)) &&
 c.names.all (λy=>!decide (y.2 = .free)||(decide (c.names.lookup y.1=some .free)&&(decide (S.names.lookup y.1=some .cell)||decide (S.names.lookup y.1=some .free)))) &&
 decide (fr.length=N.length)&&(nN fr.length).all (λj=>match fr[j]? with
  |some (some i)=>match N[j]? with
   |some x=>decide (a[i]? = some x)&&decide (c.names.lookup x=some .free)|none=>false
  |_=>true)
def Co {S:Scope}{s:List Str}(v:X.env.scope=S)(u:X.N=s)(h:rR S s U z M=true):eY X U z M:=by
 unfold rR at h;simp only[la,decide_eq_true_eq,EN,uG,vR,decide_eq_false_iff_not]at h;obtain⟨⟨⟨⟨⟨o,c⟩,b⟩,k⟩,q⟩,r⟩:=h;refine⟨o,λy a e=>?_,λy a e=>?_,λy a e=>?_,q,λj i hf=>?_⟩
 . rcases c y a with N|N
   . exact absurd e N
   . exact N
 . rcases b y a with N|N
   . exact absurd e N
   . exact N
 . rcases k y a with N|N
   . exact absurd e N
   . refine⟨N.1,?_⟩
     show X.env.scope.names.lookup y.1=_\/X.env.scope.names.lookup y.1=_;rw[v];exact N.2
 . have f:j∈nN z.length:=Cn.mpr (l8.mp hf).1
   have:=r j f;rw[hf]at this;dsimp only at this;split at this
   . rename_i x l
     simp only[la,decide_eq_true_eq]at this;exact⟨x,l,by rw[u];exact this.1,this.2⟩
   . cases this
noncomputable def cy (f:FE):FI:=λh g=>(f h g).bind λr=>match r.1 with|.tup c=>some (c,r.2)|.lst c=>some (c,r.2)|_=>none
def vW (o:DE X J C):DI X e J (cy C):=.of (by
 intro q s r H R I h;obtain⟨u,a,g,ds,b,G0,f,h,p⟩:=h;obtain⟨⟨j,x⟩,i,n⟩:=bind_some h;cases j with
 |tup v =>
  have c:uI C a g=some (ds,b):=by unfold uI;rw[i];exact n
  exact(Mz o).un q s r H R I ⟨u,a,g,ds,b,G0,f,c,p⟩
 |lst v =>
  have c:uJ C a g=some (ds,b):=by unfold uJ;rw[i];exact n
  exact(MA o).un q s r H R I ⟨u,a,g,ds,b,G0,f,c,p⟩
 |_=>cases n)
end
section
variable {Z U:FT}{m:List D->G->Option (D×G)}{b T:FS}{Y:FE}{k:Bool}{t:FG}{X:FA}{j:Int}{R:ph}{Q:FI}{g:G}
@[simp] def uL {d}:fC d h g=some (d,g):=rfl
@[simp] def oE:af i h g=(match h[i]? with|some (some d)=>some (d,g)|_=>none):=rfl
@[simp] def vX {o:D->D->G->Option (D×G)}:aj o C Y h g=(C h g).bind λr=>(Y h r.2).bind λq=>o r.1 q.1 q.2:=rfl
@[simp] def X5 {o:D->G->Option (D×G)}:pf o C h g=(C h g).bind λr=>o r.1 r.2:=rfl
@[simp] def X6:d5 (some (.bl k,g))=some (k,g):=rfl
@[simp] def cN:aB C h g=d5 (C h g):=rfl
@[simp] def Jw:nH C h g=(C h g).bind λr=>(jw r.1 r.2).map λb=>(b,r.2):=rfl
@[simp] def Sq:jw (.bl k) g=some k:=rfl
@[simp] def QC:jw (.int I) g=some (I != 0):=rfl
@[simp] def rS:ib Z U h g=(Z h g).bind λr=>if r.1=true then U h r.2 else some (false,r.2):=rfl
@[simp] def Cr:yk Z U h g=(Z h g).bind λr=>if r.1=true then some (true,r.2)else U h r.2:=rfl
@[simp] def WK:ER Z h g=(Z h g).bind λr=>some (!r.1,r.2):=rfl
@[simp] def Vb:qx C Y h g=(d5 (C h g)).bind λr=>if r.1=true then Y h r.2 else some (.bl false,r.2):=rfl
@[simp] def WL:ES C Y h g=(d5 (C h g)).bind λr=>if r.1=true then some (.bl true,r.2)else Y h r.2:=rfl
@[simp] def yu:jZ Z C Y h g=(Z h g).bind λr=>if r.1=true then C h r.2 else Y h r.2:=rfl
@[simp] def cG:ag h g=some ([],g):=rfl
@[simp] def bS:aa C X h g=(C h g).bind λr=>(X h r.2).bind λq=>some (r.1::q.1,q.2):=rfl
@[simp] def ji:aI m X h g=(X h g).bind λr=>m r.1 r.2:=rfl
def Jx:aC i=decide (i<=16777216):=rfl
@[simp] def QD (h:i<=16777216):aC i=true:=decide_eq_true h
@[simp] def Sr:aA r g=if aC r.length=true then some (.tup r,g)else none:=rfl
@[simp] def Ss:fP r g=if aC r.length=true then some (.lst r,g)else none:=rfl
@[simp] def Su:mkRef r g=if aC r.length=true then some (.ref g.length,g ++ [r])else none:=rfl
@[simp] def Vc:aK h g=some (.nx,h,g):=rfl
@[simp] def oF:ax b T h g=(b h g).bind λr=>match r.1 with|.nx=>T r.2.1 r.2.2|_=>some r:=rfl
@[simp] def yw:aH C h g=(C h g).bind λr=>some (.rt r.1,h,r.2):=rfl
@[simp] def vY:bM Z b T h g=(Z h g).bind λr=>if r.1=true then b h r.2 else T h r.2:=rfl
@[simp] def Vd:kC C h g=(C h g).bind λr=>some (.nx,h,r.2):=rfl
@[simp] def oG:aG C t h g=(C h g).bind λr=>(t r.1 h r.2).bind λq=>some (.nx,q.1,q.2):=rfl
@[simp] def ZM:gN i c h g=some (h.set i (some c),g):=rfl
@[simp] def Ve:gp [] h g=some (h,g):=rfl
@[simp] def Sv:bV t R (c::r) h g=(t c h g).bind λq=>R r q.1 q.2:=rfl
@[simp] def ZN:gT i R (.tup r) h g=if r.length=i then R r h g else none:=rfl
@[simp] def fV:ao l X h g=(X h g).bind λr=>l r.1 r.2:=rfl
@[simp] def lq:fK Q t b h g=(Q h g).bind λr=>forL t b r.1 h r.2:=rfl
@[simp] def WM:cy C h g=(C h g).bind λr=>match r.1 with|.tup c=>some (c,r.2)|.lst c=>some (c,r.2)|_=>none:=rfl
@[simp] def Vf:uI C h g=(C h g).bind λr=>match r.1 with|.tup c=>some (c,r.2)|_=>none:=rfl
@[simp] def Vg:uJ C h g=(C h g).bind λr=>match r.1 with|.lst c=>some (c,r.2)|_=>none:=rfl
@[simp] def fW:bA m Q z t Z C h g=(Q h g).bind λr=>if aC r.1.length=true then(cQ t Z C r.1 (cq z h) r.2).bind λq=>m q.1 q.2 else none:=rfl
@[simp] def WN:bH r g=some (.lst r,g):=rfl
@[simp] def Vh:b9 h g=some (true,g):=rfl
@[simp] def X7 {c:Int->Int->Bool}{f:Int->Int->Int}:bD c f (.int I) (.int j) g=if c I j=true then some (.int (f I j),g)else none:=rfl
@[simp] def Vi:cA I j=true:=rfl
@[simp] def X8:oLt (.int I) (.int j) g=some (.bl (decide (I<j)),g):=rfl
@[simp] def X9:oLe (.int I) (.int j) g=some (.bl (decide (I<=j)),g):=rfl
@[simp] def X_:nO (.int I) (.int j) g=some (.bl (decide (j<I)),g):=rfl
@[simp] def Ya:Hb (.int I) (.int j) g=some (.bl (decide (j<=I)),g):=rfl
@[simp] def WO:kQ (.int I) g=some (.int (-I),g):=rfl
@[simp] def lu:aJ (.int I) (.int j) g=some (.int (I+j),g):=rfl
@[simp] def Jy:bJ (.int I) (.int j) g=if cu I j=true then some (.int (I*j),g)else none:=rfl
@[simp] def Yb:dP c (.int I) g=(aW c g).bind λh=>(cF h I).map λe=>(e,g):=rfl
@[simp] def WQ:aW (.tup r) g=some r:=rfl
@[simp] def WR:aW (.lst r) g=some r:=rfl
@[simp] def WS:aW (.ref i) g=g[i]?:=rfl
@[simp] def WT:bw [c] g=(aW c g).map λh=>(.int h.length,g):=rfl
@[simp] def WU:kR [.int I,.int j] g=some (.int (if j<I then j else I),g):=rfl
@[simp] def Vj:j7 [.bl k] g=some (.int (if k then 1 else 0),g):=rfl
@[simp] def Vk:j7 [.int I] g=some (.int I,g):=rfl
@[simp] def yx:fL [c] g=(aW c g).bind λh=>if aC h.length=true then some (.tup h,g)else none:=rfl
@[simp] def WV:oEq (.int I) (.int j) g=some (.bl (I == j),g):=rfl
@[simp] def WW {j:Bool}:oEq (.bl k) (.bl j) g=some (.bl (k == j),g):=rfl
@[simp] def WX {j:Str}:oEq (.str x) (.str j) g=some (.bl (x == j),g):=rfl
@[simp] def WY:Fc c .ay g=some (.bl (gq c),g):=rfl
@[simp] def Vl:An c .ay g=some (.bl (!gq c),g):=rfl
def aU {σ':Sg}(f:r.length=o)(h:b (r.map some++l6 (i-o) none) g=some (.rt c,σ',a))(ds:a.length=g.length):aq false i o b r g=some (c,a):=by
 unfold aq;rw[if_pos f,h];have e:B4 g.length c a=some (c,a):=by unfold B4;rw[if_pos ds]
 simpa using e
def yy {σ':Sg}(e:r.length=o)(h:b (r.map some++l6 (i-o) none) g=some (.rt c,σ',a)):aq true i o b r g=some (c,a):=by unfold aq;rw[if_pos e,h];rfl
theorem dG {t:FG}{c:FT}{e:FE}{h:D->D}(I:Sg->Prop):∀(ds:List D) (p:Sg) (g:G),I p->(∀d∈ds,∀p,I p->∃n,t d p g=some (n,g)/\c n g=some (true,g)/\e n g=some (h d,g)/\I n)->cQ t c e ds p g=some (ds.map h,g)
 | [],_,_,_,_=>rfl|d::ds,p,g,q,hh=>by obtain⟨n,i,b,a,f⟩:=hh d qc p q;simp only[cQ,i,b,a,k9,if_true,dG I ds n g f λx j=>hh x (nW _ j),wh]
@[simp] def Vm {a:Type}{c:List (Option a)}:cq [] c = []:=rfl
@[simp] def Sw {a:Type}{c:List (Option a)}:cq (none::z) c=none::cq z c:=rfl
@[simp] def Sy {a:Type}{c:List (Option a)}:cq (some i::z) c=(c[i]?).join::cq z c:=rfl
end
section
open PyProof.Rows
variable {b:Bool}
noncomputable def Ap (c:Bool):D->Bool
 |.bl b=>b == c|_=>false
noncomputable def isLit (a b:D):Option Bool:=match b with
 |.ay=>some (gq a)|.bl c=>some (Ap c a)|_=>none
noncomputable def jk (c a:D)(g:G):Option (D×G):=(isLit c a).map λb=>(.bl b,g)
noncomputable def uM (c a:D)(g:G):Option (D×G):=(isLit c a).map λb=>(.bl (!b),g)
def Ct {K H ι d v u c}(r:Rel K H ι d v)(f:kr v u):(u == Y0 c)=Ap c d/\PySem.plainIs u (.bool c)=true:=by
 cases d with
 |ay=>cases r;cases f;exact⟨rfl,rfl⟩|bl b=>cases r;cases f;exact⟨by cases b<;>cases c<;>rfl,rfl⟩|int _=>cases r;obtain⟨t,rfl⟩:=f;exact⟨rfl,rfl⟩
 |str _=>cases r;obtain⟨t,rfl⟩:=f;exact⟨rfl,rfl⟩
 |tup _=>obtain⟨a,e,rfl,_⟩:=r;cases f;exact⟨rfl,rfl⟩
 |lst _=>obtain⟨a,e,rfl,_⟩:=r;cases f;exact⟨rfl,rfl⟩
 |eI=>obtain⟨a,rfl,_⟩:=r;cases f;exact⟨rfl,rfl⟩
 |ref _=>obtain⟨a,rfl,_⟩:=r;cases f;exact⟨rfl,rfl⟩
 |bq _=>obtain⟨a,rfl,_⟩:=r;cases f;exact⟨rfl,rfl⟩
 |fn _=>obtain⟨a,_,rfl,_⟩:=r;cases f;exact⟨rfl,rfl⟩
def QE:bQ X (ra .Is) (dW X.kw jk):=by
 intro r s B H x y v u Q I a b q;obtain⟨n,g,i,k,d,j,G0,f,h,q,p⟩:=q;cases k with
 |ay=>exact MU r s B H x y v u Q I a b ⟨n,g,i,.ay,d,j,G0,f,h,q,p⟩
 |bl c =>
  cases h;cases b;simp only[jk,isLit,F1]at q;cases q;obtain⟨e,z⟩:=Ct (c:=c) f a;refine wpAny_is_plain z ?_;rw[e];exact⟨.bl _,H,I,rfl,p H n _ Ext.refl G0 (by simp[Rel])⟩
 |_=>cases q
def Jz:bQ X (ra .IsNot) (dW X.kw uM):=by
 intro r s B H x y v u Q I a b q;obtain⟨n,g,i,k,d,j,G0,f,h,q,p⟩:=q;cases k with
 |ay=>exact Jp r s B H x y v u Q I a b ⟨n,g,i,.ay,d,j,G0,f,h,q,p⟩
 |bl c =>
  cases h;cases b;simp only[uM,isLit,F1]at q;cases q;obtain⟨e,z⟩:=Ct (c:=c) f a;refine wpAny_isNot_plain z ?_;rw[e];exact⟨.bl _,H,I,rfl,p H n _ Ext.refl G0 (by simp[Rel])⟩
 |_=>cases q
@[simp] def Yc {g:D}:jk c g a=(isLit c g).map λb=>(.bl b,a):=rfl
@[simp] def Vn {g:D}:uM c g a=(isLit c g).map λb=>(.bl (!b),a):=rfl
@[simp] def Sz:isLit c .ay=some (gq c):=rfl
@[simp] def SA:isLit c (.bl b)=some (Ap b c):=rfl
@[simp] def WZ {c:Bool}:Ap c (.bl b)=(b == c):=rfl
noncomputable def Ix.none (c:Ix):Ix:=⟨[],c.ix++c.hd,c.kd⟩
noncomputable def Fg:HO->Bool
 |.tup _=>true|.mO _ _=>true|.dK _=>true|.iq _=>true|_=>false
mutual
theorem Rel.toN {K H ι}:∀(d:D) {v:V},bR 0 d=true->Rel K H ι d v->Rel K H (Ix.none ι) d v
 |.ay,v,_,h=>h|.bl _,v,_,h=>h|.int _,v,_,h=>h|.str _,v,_,h=>h
 |.tup n,v,z,h=>by
  simp only[Rel]at h ⊢;obtain⟨a,i,e,b,f⟩:=h;refine⟨a,i,e,?_,ak.toN n z f⟩;rcases b with⟨b,hn⟩|b
  . exact .inl ⟨b,by simp[Ix.none]⟩
  . exact .inr b
 |.lst n,v,z,h=>by
  simp only[Rel]at h ⊢;obtain⟨a,i,e,b,f⟩:=h;refine⟨a,i,e,?_,ak.toN n z f⟩;rcases b with⟨b,hn,hh⟩|b
  . exact .inl ⟨b,by simp[Ix.none],λm=>(mF.mp m).elim hn hh⟩
  . exact .inr b
 |.eI,v,_,h=>by simp only[Rel]at h ⊢;obtain⟨a,e,b,f⟩:=h;exact⟨a,e,b,by simp[Ix.none]⟩
 |.ref k,v,z,h=>by simp[bR]at z|.bq k,v,z,h=>by simp[bR]at z|.fn x ds,v,z,h=>by simp only[Rel]at h ⊢;obtain⟨a,i,e,b,f⟩:=h;exact⟨a,i,e,b.mono λc u _ q=>⟨q.1,by simp[Ix.none],λy m=>(mF.mp m).elim q.2.1 (q.2.2 y)⟩,ak.toN ds z f⟩
theorem ak.toN {K H ι}:∀(ds:List D) {g:List V},aP 0 ds=true->ak K H ι ds g->ak K H (Ix.none ι) ds g
 | [],g,_,h=>h|d::ds,g,z,h=>by simp only[ak]at h ⊢;simp only[aP,la]at z;obtain⟨v,e,a,c,b⟩:=h;exact⟨v,e,a,Rel.toN d z.1 c,ak.toN ds z.2 b⟩
end
mutual
theorem Rel.qG {K H g s}(hh:s.hd=g.ix++g.hd)(r:∀a∈g.ix,∃o,H a=some o/\Fg o=false):∀(d:D) {v:V},bR 0 d=true->Rel K H s d v->Rel K H g d v
 |.ay,v,_,h=>h|.bl _,v,_,h=>h|.int _,v,_,h=>h|.str _,v,_,h=>h
 |.tup p,v,z,h=>by
  simp only[Rel]at h ⊢;obtain⟨a,l,i,b,j⟩:=h;refine⟨a,l,i,?_,ak.qG hh r p z j⟩;rcases b with⟨b,hn⟩|b
  . refine .inl ⟨b,λm=>?_⟩
    obtain⟨B,e,f⟩:=r a m;rcases b with b|⟨o,b⟩<;>rw[e]at b<;>cases b<;>cases f
  . exact .inr b
 |.lst p,v,z,h=>by
  simp only[Rel]at h ⊢;obtain⟨a,l,i,b,j⟩:=h;refine⟨a,l,i,?_,ak.qG hh r p z j⟩;rcases b with⟨b,hn,hk⟩|b
  . rw[hh]at hk
    exact .inl ⟨b,λm=>hk (mF.mpr (.inl m)),λm=>hk (mF.mpr (.inr m))⟩
  . exact .inr b
 |.eI,v,_,h=>by simp only[Rel]at h ⊢;obtain⟨a,i,b,j⟩:=h;refine⟨a,i,b,λm=>?_⟩;obtain⟨B,e,f⟩:=r a m;rw[e]at b;cases b;cases f
 |.ref k,v,z,h=>by simp[bR]at z|.bq k,v,z,h=>by simp[bR]at z
 |.fn x ds,v,z,h=>by
  simp only[Rel]at h ⊢;obtain⟨a,l,i,b,j⟩:=h;exact⟨a,l,i,b.mono λc u y q=>⟨q.1,λm=>(by
    cases C:Sb u with
    |true=>exact q.2.2 C (by rw[hh];exact aeu _ m)
    |false =>
     obtain⟨B,e,f⟩:=r c m;rw[q.1]at e;cases e;cases u<;>first| (cases f;done)| (cases C;done)| (cases y;done)),λz m=>q.2.2 z (by rw[hh];exact Gk _ m)⟩,ak.qG hh r ds z j⟩
theorem ak.qG {K H g i}(hh:i.hd=g.ix++g.hd)(j:∀a∈g.ix,∃o,H a=some o/\Fg o=false):∀(ds:List D) {n:List V},aP 0 ds=true->ak K H i ds n->ak K H g ds n
 | [],n,_,h=>h|d::ds,n,z,h=>by simp only[ak]at h ⊢;simp only[aP,la]at z;obtain⟨v,f,b,e,c⟩:=h;exact⟨v,f,b,Rel.qG hh j d z.1 e,ak.qG hh j ds z.2 c⟩
end
def az.lst {K H n g}(h:az K H n g)(r:f∈n.ix):∃o,H f=some o/\Fg o=false:=by
 obtain⟨i,j,e⟩:=NX.mp r;have k:i<g.length:=by rw[<- h.len];exact j
 obtain⟨b,o,q,c,l,a,_⟩:=h.at_ i _ (lC k);rw[lC j,e]at c;cases c;generalize n.kd i=kk at a;exact⟨o,l,by cases a<;>rfl⟩
noncomputable def fD (fn:Fn):Fn:=λds g=>if aP 0 ds=true then(fn ds []).bind λr=>if bR 0 r.1=true then some (r.1,g)else none else none
def i0 {ds g d g'}(h:fD l ds g=some (d,g')):aP 0 ds=true/\(∃gx,l ds []=some (d,gx))/\bR 0 d=true/\g'=g:=by
 unfold fD at h;split at h
 . rename_i z
   obtain⟨⟨c,i⟩,b,h⟩:=bind_some h;split at h
   . rename_i a
     cases h;exact⟨z,⟨i,b⟩,a,rfl⟩
   . cases h
 . cases h
def JA {K:KW}{P n f fn ps}(F:d_ k K.w K.fr K.mg A h_ P f fn ps (kD K n l)):d_ k K.w K.fr K.mg A h_ P f fn ps (kD K n (fD l)):=
 d_.imp F λj H Q E ⟨u,B,g,ds,d,O,G0,r,h,p⟩=>by
  obtain⟨z,⟨gx,x⟩,y,rfl⟩:=i0 h;refine⟨u,Ix.none B,[],ds,d,gx,⟨Sm,rfl,λb hb=>⟨by simp[Ix.none],?_⟩,λi R q=>by simp at q,λq hq=>⟨(G0.tb q hq).1,by simp[Ix.none]⟩⟩,ak.toN ds z r,x,λbase I v e U J=>?_⟩
  . rcases mF.mp hb with m|m
    . exact G0.ky m
    . exact(G0.cP b m).2
  . have same:∀a∈B.ix,base a=H a:=λa c=>by
      obtain⟨j,C,_⟩:=G0.lst c;rw[C];exact e.same a _ C (by simp[Ix.none])
    have s:Ext H B base B:=⟨λa o q _=>e.same a o q (by simp[Ix.none]),e.there,⟨[],by simp,λ_ q=>by simp at q⟩,rfl,λ_ _=>rfl⟩
    refine p base B v s (G0.ext s same) (Rel.qG e.cP (λa c=>?_) d y J);obtain⟨j,C,f⟩:=G0.lst c;exact⟨j,by rw[same a c];exact C,f⟩
def Aq (h:∀ds g r,l ds g=some r->ds.length=i):∀ds g r,fD l ds g=some r->ds.length=i:=λds g r q=>by obtain⟨_,⟨gx,a⟩,_⟩:=i0 (d:=r.1) (g':=r.2) q;exact h _ _ _ a
end
section
variable {Q:D×G->Prop}{b:FS}
noncomputable def k0 {b:Type}(o:Option b)(Q:b->Prop):Prop:=∃a,o=some a/\Q a
section
variable {α β:Type}{o:Option α}{Q R:α->Prop}
@[simp] def gr {a:α}:k0 (some a) Q=Q a:=by simp[k0]
@[simp] def W5:k0 (none:Option α) Q=False:=by simp[k0]
@[simp] def S3 {f:α->Option β}{Q:β->Prop}:k0 (o.bind f) Q=k0 o λa=>k0 (f a) Q:=by cases o<;>simp[k0]
@[simp] def bat {f:α->β}{Q:β->Prop}:k0 (o.map f) Q=k0 o λa=>Q (f a):=by cases o<;>simp[k0]
def bau (h:k0 o R)(i:∀a,R a->Q a):k0 o Q:=by obtain⟨a,e,r⟩:=h;exact⟨a,e,i a r⟩
end
@[simp] def Yd {o:Option (D×G)}{Q:Bool×G->Prop}:k0 (d5 o) Q=k0 o λr=>∃b,r.1 = .bl b/\Q (b,r.2):=by
 cases o with
 |none=>simp[d5]
 |some r =>
  obtain⟨d,g⟩:=r;cases d with
  |bl b=>cases b<;>simp[d5]|_=>simp[d5]
@[simp] def l_ {c:List D}:aJ (.tup r) (.tup c) a=if aC (r.length+c.length)=true then some (.tup (r++c),a)else none:=rfl
@[simp] def Fh {c:List D}:aJ (.lst r) (.lst c) a=if aC (r.length+c.length)=true then some (.lst (r++c),a)else none:=rfl
@[simp] def Vo {y:Str}:aJ (.str x) (.str y) a=if aC (x.length+y.length)=true then some (.str (x++y),a)else none:=rfl
@[simp] def W6:eh h a=some (none,a):=rfl
@[simp] def Vp:aY C h a=(C h a).bind λr=>match r.1 with|.int c=>some (some c,r.2)|_=>none:=rfl
def Vq {g:G}{xs:List D}{k:Int}(e:k<=1000)(c:-1000<=k)(b:xs.length<=1000):bJ (.int k) (.tup xs) g=some (.tup (l6 k.toNat xs).flatten,g):=by
 show(if(fQ k&&aC (xs.length*k.toNat))=true then some (D.tup (l6 k.toNat xs).flatten,g)else none)=_;rw[if_pos];have a:k.toNat<=1000:=by lia
 have:xs.length*k.toNat<=1000*1000:=Nz b a;rw[fQ.of (by lia) (by lia),QD (by lia)];rfl
def qH (h:o<=i):bj i i (some (o:Int))=o:=by rw[x5];lia
def iL (h:o<=i):bj i 0 (some (o:Int))=o:=by rw[x5];lia
theorem rT {t:FG}{b:FS}{Q:F×Sg×G->Prop}(I:Nat->Sg->G->Prop):∀(ds:List D) (i:Nat) (n:Sg) (g:G),I i n g ->
  (∀(j:Nat) (d:D) n g,ds[j]? = some d->I (i+j) n g->k0 (t d n g) λq=>k0 (b q.1 q.2) λr=>match r.1 with
   |.nx=>I (i+j+1) r.2.1 r.2.2|.ct=>I (i+j+1) r.2.1 r.2.2|.bk=>Q (.nx,r.2.1,r.2.2)|.rt d=>Q (.rt d,r.2.1,r.2.2))->(∀n g,I (i+ds.length) n g->Q (.nx,n,g))->k0 (forL t b ds n g) Q
 | [],i,n,g,p,_,u=>by simp only[forL,gr];exact u n g p
 |d::ds,i,n,g,p,hs,u=>by
  simp only[forL,S3];refine bau (hs 0 d n g rfl p) λq f=>bau f λr a=>?_;have go:I (i+0+1) r.2.1 r.2.2->k0 (forL t b ds r.2.1 r.2.2) Q:=λz =>
   rT I ds (i+1) _ _ z (λj d n g e h=>by have q:=hs (j+1) d n g (by simpa using e) (by rw[show i+(j+1)=i+1+j by lia];exact h);rw[show i+(j+1)+1=i+1+j+1 by lia]at q;exact q) λn g h=>u n g (by rw[vq,show i+(ds.length+1)=i+1+ds.length by lia];exact h)
  obtain⟨c,k⟩:=r;cases c with
  |nx=>exact go a|ct=>exact go a|bk=>simp only[gr];exact a|rt d=>simp only[gr];exact a
theorem iM {t:FG}{c:FT}{e:FE}{Q:List D×G->Prop}(I:Nat->List D->Sg->G->Prop):∀(ds:List D) (i:Nat) (p:Sg) (g:G) (n:List D),I i n p g ->
  (∀(j:Nat) (d:D) n p g,ds[j]? = some d->I (i+j) n p g->k0 (t d p g) λq=>k0 (c q.1 q.2) λk=>if k.1=true then k0 (e q.1 k.2) λr=>I (i+j+1) (n ++ [r.1]) q.1 r.2 else I (i+j+1) n q.1 k.2) ->
  (∀u p g,I (i+ds.length) (n++u) p g->Q (u,g))->k0 (cQ t c e ds p g) Q
 | [],i,p,g,n,x,_,v=>by simp only[cQ,gr];exact v [] p g (by simpa using x)
 |d::ds,i,p,g,n,x,hs,v=>by
  simp only[cQ,S3];refine bau (hs 0 d n p g rfl x) λq l=>bau l λk b=>?_;have go:∀(a:List D) (s:Sg) (h:G) (R:List D×G->Prop),I (i+1) a s h->(∀u p g,I (i+1+ds.length) (a++u) p g->R (u,g))->k0 (cQ t c e ds s h) R:=λa s h R z v =>
    iM I ds (i+1) s h a z (λj d n p g e h=>by have q:=hs (j+1) d n p g (by simpa using e) (by rw[show i+(j+1)=i+1+j by lia];exact h);rw[show i+(j+1)+1=i+1+j+1 by lia]at q;exact q) v
  have f:i+(d::ds).length=i+1+ds.length:=by rw[vq];lia
  rw[f]at v;by_cases y:k.1=true
  . rw[if_pos y]at b ⊢
    simp only[S3];refine bau b λr o=>?_;refine go (n ++ [r.1]) q.1 r.2 _ o λu p g h=>?_;simp only[gr];exact v (r.1::u) p g (by simpa using h)
  . rw[if_neg y]at b ⊢
    exact go n q.1 k.2 _ b v
def OX (k:r.length=i)(h:k0 (b (r.map some++l6 (j-i) none) a) λds=>match ds.1 with
  |.rt d=>ds.2.2.length=a.length/\Q (d,ds.2.2)|.nx=>ds.2.2.length=a.length/\Q (.ay,ds.2.2)|_=>False):k0 (aq false j i b r a) Q:=by
 obtain⟨⟨ds,n,f⟩,e,q⟩:=h;unfold aq;rw[if_pos k,e];cases ds with
 |rt d =>
  obtain⟨g,c⟩:=q;dsimp only at g c;refine⟨_,?_,c⟩;simp[B4,g]
 |nx =>
  obtain⟨g,c⟩:=q;dsimp only at g c;refine⟨_,?_,c⟩;simp[B4,g]
 |bk=>exact q.elim|ct=>exact q.elim
def JB (f:r.length=o)(h:k0 (b (r.map some++l6 (i-o) none) a) λc=>match c.1 with
  |.rt d=>Q (d,c.2.2)|.nx=>Q (.ay,c.2.2)|_=>False):k0 (aq true i o b r a) Q:=by
 obtain⟨⟨c,g,ds⟩,e,q⟩:=h;unfold aq;rw[if_pos f,e];cases c with
 |rt d=>exact⟨_,rfl,q⟩|nx=>exact⟨_,rfl,q⟩|bk=>exact q.elim|ct=>exact q.elim
def jO (y:r.length=o)(h:k0 (b (r.map some++l6 (i-o) none) a) λds=>match ds.1 with
  |.rt d=>bR a.length d=true/\(ds.2.2.take a.length).all (aP a.length)=true/\a.length<=ds.2.2.length/\Q (d,ds.2.2.take a.length)|.nx=>(ds.2.2.take a.length).all (aP a.length)=true/\a.length<=ds.2.2.length/\Q (.ay,ds.2.2.take a.length)|_=>False):k0 (aq false i o b r a) Q:=by
 obtain⟨⟨ds,p,g⟩,e,q⟩:=h;unfold aq;rw[if_pos y,e];have fin:∀d,bR a.length d=true->(g.take a.length).all (aP a.length)=true->a.length<=g.length->Q (d,g.take a.length)->k0 (B4 a.length d g) Q:=λd l v u f=>by
  by_cases n:g.length=a.length
  . rw[Gw (by lia)]at f
    exact⟨_,by unfold B4;rw[if_pos n],f⟩
  . refine⟨_,?_,f⟩
    unfold B4;rw[if_neg n,if_pos v];cases d with
    |ref k =>
     have z:k<a.length:=by simpa[bR]using l
     simp only[if_pos z]
    |_=>simp only[if_pos l]
 cases ds with
 |rt d =>
  obtain⟨s,j,x,c⟩:=q;exact fin d s j x c
 |nx =>
  obtain⟨j,x,c⟩:=q;exact fin .ay rfl j x c
 |bk=>exact q.elim|ct=>exact q.elim
end
section
open PyProof.Rows
open SeqAt
variable {Z:List (Str×D)}
def qI {M:Model}{a:Type}(f:Nat->a->Sem (ForInStep a))(I:List Nat->a->j0->Prop)(Q:a->j0->Prop){b:a}(turn:∀x rest b s,I (x::rest) b s->wpAny M O (f x b) (λr g=>match r with|.yield c=>I rest c g|.done c=>Q c g) E s)(fin:∀b s,I [] b s->Q b s)(h:I (KY i (o-i)) b s):wpAny M O (forIn [i:o] b f) Q E s:=by
 rw[agB];refine YK f I Q turn fin _ b ?_;simpa[aj7]using h
def uy (l:Addr)(p:Array Value)(n:Nat)(C:Option Addr)(H:Array (Option Value))(x:Value)(e:Value->Bool)(j:Nat)(I:j<p.size)
  (B:e p[j]=true) (E:∀m (hm:m<p.size),m<j->e p[m]=false):
  Meets (sk.«tuple.index» ⟨[.ref l,x],[]⟩)
   (λA R s=>s.heap.get? l=some { cls:=.type "tuple",dict:=C,data:=.seq p n,slots:=H }/\(∀y,y∈p->EqAt A.in1 s y x (e y))/\R (.ok (.ret (.int j s.toks))) { s with toks:=s.toks+1 }):=
 .of_wp λprog w A R s h=>by
  obtain⟨o,g,d,q,os⟩:=s;obtain⟨k,J,h⟩:=h
  wp_walk using wpAny_loadPart' k,qI _ (λrest b f=>b.1=none/\f=⟨o,g,d,q,os⟩ /\ ∃i,rest=KY i (p.size-i)/\i<=j) _
  case turn =>
   rintro y rest b f ⟨r,rfl,i,a,v⟩;have c:i<p.size:=by lia
   have u:KY i (p.size-i)=i::KY (i+1) (p.size-(i+1)):=by rw[show p.size-i=(p.size-(i+1))+1 by lia,afG]
   rw[u]at a;injection a with h1 h2
   subst h1 h2;have z:p[y]? = some p[y]:=by simp[c]
   rw[z];refine jg (J _ (afg c) prog w _ _ ?_);by_cases O:y=j
   . subst O
     rw[B]
     wp_walk
     exact⟨_,rfl,h⟩
   . rw[E y c (by lia)]
     wp_walk
     exact⟨rfl,rfl,y+1,rfl,by lia⟩
  case fin =>
   rintro⟨Q,U⟩ f ⟨r,rfl,i,a,v⟩;have:(KY i (p.size-i)).length=0:=by rw[<- a];rfl
   rw[List.length_range']at this;lia
  case h=>exact⟨rfl,rfl,0,by simp,rb _⟩
noncomputable def hJ:D->Bool
 |.ay=>true|.bl _=>true|.int _=>true|.str _=>true|_=>false
noncomputable def toV:D->V
 |.bl b=>.bl b|.int i=>.int i|.str x=>.str x|_=>.ay
def oH {K H ι d v}(h:hJ d=true)(r:Rel K H ι d v):v=toV d/\jI v=true:=by
 cases d with
 |ay=>cases r;exact⟨rfl,rfl⟩|bl _=>cases r;exact⟨rfl,rfl⟩|int _=>cases r;exact⟨rfl,rfl⟩|str _=>cases r;exact⟨rfl,rfl⟩|_=>cases h
def rV {K H ι d}(h:hJ d=true):Rel K H ι d (toV d):=by
 cases d with
 |ay=>simp[Rel,toV]|bl _=>simp[Rel,toV]|int _=>simp[Rel,toV]|str _=>simp[Rel,toV]|_=>cases h
theorem vZ {K H ι}:∀{i:List D} {g:List V},i.all hJ=true->ak K H ι i g->g=i.map toV/\g.all jI=true
 | [],g,_,r=>by cases r;exact⟨rfl,rfl⟩|d::i,g,h,r=>by obtain⟨v,f,rfl,b,e⟩:=r;rw[Z4,la]at h;obtain⟨a,n⟩:=oH h.1 b;obtain⟨c,p⟩:=vZ h.2 e;subst a c;exact⟨rfl,by rw[Z4,n,p];rfl⟩
theorem v9 {K H ι}:∀{c:List D},c.all hJ=true->ak K H ι c (c.map toV)
 | [],_=>by simp[ak]|d::c,h=>by rw[Z4,la]at h;simp only[wh,ak];exact⟨_,_,rfl,rV h.1,v9 h.2⟩
def QF {b:D}(e:hJ c=true)(a:hJ b=true):s_ (toV c) (toV b)=bB c b:=by cases c<;>cases b<;>first| (simp[toV,s_,bB];done)| (simp[hJ]at e;done)| (simp[hJ]at a;done)
noncomputable def ma (b a:FE):FE:=λh g=>(b h g).bind λr=>(jw r.1 r.2).bind λc=>if c=true then some r else a h r.2
def M8 {rest:FE}(E:DE X e C)(b:DE X (.BoolOp .Or (J::B) q) rest):DE X (.BoolOp .Or (e::J::B) q) (ma C rest):=.of (by
 intro R s O H Q I h;obtain⟨Y,o,g,d,Z,G0,u,h,p⟩:=h;obtain⟨⟨r,U⟩,h1,h⟩:=bind_some h;obtain⟨c,h2,h⟩:=bind_some h;have z:=E.un R s O H (λx n=>∃A,Ext H Y n A/\az X.kw n A U/\bO X.kw n A o O/\Rel X.kw n A r x) I ⟨Y,o,g,r,U,G0,u,h1,λn A v i f j=>⟨A,i,f,u.ext i,j⟩⟩;refine BoolOp_or (a_ z λv s1 l=>?_);obtain⟨x,n,I1,j,A,i,f,S1,a⟩:=l;have hT:=BI R s1 O n x v (λk H'=>k=c/\H'=n) I1 j ⟨c,yj f a h2,rfl,rfl⟩;refine a_ hT λk s2 l=>?_;obtain⟨H2,y,e2,e3⟩:=l;subst e2 e3;cases k with
 |true =>
  simp only[if_true]at h ⊢;cases h;exact⟨x,_,y,j,p _ A x i f a⟩
 |false =>
  simp only[pA,if_false]at h ⊢;exact b.un R s2 O _ Q y ⟨A,o,U,d,Z,f,S1,h,p.mono i⟩)
noncomputable def v_ (K:KW)(d:D)(v:V):Prop:=(hJ d=true/\v=toV d) \/
 ∃c a o g n,d = .tup c/\c.all hJ=true/\v = .ref a/\K.fr.lookup a=some o/\o.cls = .type "tuple" /\ o.dict=none/\o.data = .seq g n/\g.size<=lX/\Vals (c.map toV) g.toList
noncomputable def oI (w:World)(K:KW):List qb->List (Str×D)->Prop
 | [],cE=>cE = []|e::c,cE=>∃x d rest,cE=(x,d)::rest/\(∃t,e.key = .str x t)/\e.hash=hashStr w x/\(∃v,kr v e.val/\v_ K d v)/\oI w K c rest
structure i4 (w:World)(K:KW)(a:Addr)(cE:List (Str×D)):Prop where
 ex:∃o es ep,K.fr.lookup a=some o/\o.ExactDict/\o.data = .dict es ep/\oI w K es.toList cE
 sys:(a == NV)=false
noncomputable def pP (a:List (Str×D))(x:Str):Option D:=(a.find? λp=>decide (p.1=x)).map (·.2)
theorem oI.keys {P:p9}{w:World}{K:KW}:∀{i:List qb} {cE:List (Str×D)},oI w K i cE->∀e∈i,∃k,(eV P w).is k e.key=true/\e.hash=(eV P w).hash k
 | [],_,_,e,g=>nomatch g
 |n::i,cE,h,e,g=>by
  obtain⟨x,d,rest,rfl,⟨t,b⟩,a,_,c⟩:=h;rcases l2.mp g with rfl|g
  . exact⟨.inr x,by rw[b];exact oT P w x t,a⟩
  . exact c.keys e g
def M9 {y:Str}{t:Tok}:(eV k u).is (.inr x) (.str y t)=decide (y=x):=by
 show Y5 x (.str y t)=_;by_cases h:y=x
 . subst h;simp[Y5]
 . simp[Y5,h,ta h]
theorem oI.find {P:p9}{w:World}{K:KW}{x:Str}:∀{g:List qb} {cE:List (Str×D)},oI w K g cE ->
  match pP cE x with
  |some d=>∃u v,(g.find? λe=>(eV P w).is (.inr x) e.key).map (·.val)=some u/\kr v u/\v_ K d v|none=>(g.find? λe=>(eV P w).is (.inr x) e.key).map (·.val)=none
 | [],cE,h=>by have c:cE = []:=h;subst c;rfl
 |q::g,cE,h=>by
  obtain⟨y,d,rest,rfl,⟨t,i⟩,k,⟨v,b,f⟩,j⟩:=h;have n:=j.find (P:=P) (x:=x);have a:(eV P w).is (.inr x) q.key=decide (y=x):=by rw[i];exact M9
  unfold pP at n ⊢;rw[ahE,ahE];by_cases p:y=x
  . subst p
    simp only[decide_true,a];exact⟨_,v,rfl,b,f⟩
  . simp only[p,decide_false,a]
    exact n
def i4.map {P:p9}{K:KW}(h:i4 u K f Z)(y:K.fr.In A):∃w,A.MapOf (eV P u) f w /\ ∀x:Str,match pP Z x with
  |some d=>∃a v,w (.inr x)=some a/\kr v a/\v_ K d v|none=>w (.inr x)=none:=by
 obtain⟨o,c,l,q,i,j,b⟩:=h.ex;refine⟨_,⟨o,c,l,y f o q,i,j,λe g=>b.keys e (by simpa using g),λk=>rfl⟩,λx=>?_⟩;have:=b.find (P:=P) (x:=x);unfold findBy;rw[<- Array.find?_toList];exact this
noncomputable def Vr (K:KW)(a:Addr)(b:List (Str×D)):R2:=λx y H Q=>∃k d,x = .ref a/\y = .str k/\pP b k=some d /\ ∀v,v_ K d v->Q v H
def M_ (hD:i4 X.w X.kw f Z):mR X (Vr X.kw f Z):=by
 intro value slice g s n H x y v u Q I i j h hs;obtain⟨k,d,rfl,rfl,hd,q⟩:=h;cases i;obtain⟨a,hm,hf⟩:=hD.map (P:=X.prog) I.mP;have b:=hf k;rw[hd]at b;obtain⟨c,e,o,z,l⟩:=b;obtain⟨t,rfl⟩:=j;exact ade (x:=c) hm.typeIs ad7.lookup
  (wpAny_getItem_of (k:=(.inr k:Key)) (Q:=λr p=>r=c/\EP X g n Q r p) (oT X.prog X.w k t) hm o ⟨rfl,e,H,I.tok _,z,q e l⟩) hs
noncomputable def Ar (c:List D)(d:D):Option Nat:=c.findIdx? λy=>bB y d
noncomputable def As (cE:List (Str×D))(c b:FE):FE:=λh g=>(c h g).bind λr=>match r.1 with
 |.str x=>match pP cE x with
  |some (.tup i)=>(b h r.2).bind λq=>if(hJ q.1&&i.all hJ)=true then(Ar i q.1).map λj=>(.int j,q.2)else none|_=>none
 |_=>none
noncomputable def QG (K:KW):V->List V->Hp->VK->Prop:=λx a H Q=>∃c y j,v_ K (.tup c) x/\a = [toV y]/\hJ y=true/\c.all hJ=true/\Ar c y=some j/\Q (.int j) H
def Cu:LM X "tuple.index" (QG X.kw):=by
 intro a8 s σ H x vs v us Q I O R h;obtain⟨g,y,j,f,rfl,e,c,k,q⟩:=h;rcases f with⟨f,_⟩|⟨Cv,a,o,p,n,e0,mQ,rfl,h1,h2,h3,h4,h5,h6⟩
 . cases f
 cases e0;cases O;obtain⟨u,rfl,U⟩:=R.one;have E:=I.mP a o h1;obtain⟨cls,dd,data,sl⟩:=o;simp only at h2 h3 h4;subst h2 h3 h4;have Y:jI (toV y)=true:=(oH e (rV (K:=X.kw) (H:=H) (ι:=⟨[],[],λ_=>0⟩) e)).2;have Z:(g.map toV).all jI=true:=(vZ c (v9 (K:=X.kw) (H:=H) (ι:=⟨[],[],λ_=>0⟩) c)).2;unfold Ar at k;rw[aea]at k;obtain⟨di,C,vm⟩:=k;have B:(g.map toV).length=p.toList.length:=h6.length;rw[oY]at B;have l:j<p.size:=by rw[<- adG];lia
 have item:∀m (hm:m<g.length) (J:m<p.size),Gy (toV y) p[m]=bB g[m] y:=λm hm J=>by obtain⟨u',r,r'⟩:=h6.get (i:=m) (x:=toV g[m]) (by rw[m2,lC hm];rfl);rw[adn,F7 J]at r;cases r;have b:hJ g[m]=true:=EN.mp c _ (p6 hm);rw[BP r' (oH b (rV (K:=X.kw) (H:=H) (ι:=⟨[],[],λ_=>0⟩) b)).2,QF b e]
 refine Of F.slot_tuple_index ⟨_,E,rfl⟩ F.entry_tuple_index (F.args_tuple_index_2 _ _) (uy a p n none sl u (Gy (toV y)) j l (by rw[item j di l];exact C) (λm hm Ye=>by
   have qq:m<g.length:=by lia
   rw[item m qq hm];simpa using vm m Ye)) ⟨E,λz hz=>vo U Y h6 Z z (by simpa using hz),?_⟩
 exact⟨.int j,H,I.tok _,⟨_,rfl⟩,q⟩
def JC {A B E:Pos}{I:FE}(hD:i4 X.w X.kw f Z)(T:X.mg x=some (.ref f))(U:DE X e C)(N:DE X J I)(M:Gl X x)(W:oA e)(P:(x == ("__debug__":Str))=false)(L:Zg (.Subscript (.Name x q) e A) "index" X.env (eval (.Subscript (.Name x q) e A) X.env)=eval (.Subscript (.Name x q) e A) X.env)(S:((su E (lY [J] X.env)).all (λJ=>!J.1)&&(backToKw E (ag_ [] X.env)).all (λJ=>J.1.isSome)
   && decide ([J].length+([]:List Po).length+(if([]:List Po).isEmpty then 0 else 1)<30))=true)(O:(B.endLine == E.line)=true)(K:lY [J] X.env=(false,eval J X.env)::lY [] X.env):
  DE X (.Call (.Attribute (.Subscript (.Name x q) e A) "index" B) [J] [] E) (As Z C I):=.of (
 PE.imp (Qi PySem.F.plainAttrs_tuple PySem.F.slot_tuple_index PySem.F.type_tuple_index Cu (Gx (M_ hD) (rJ (v:=.ref f) M T rfl P) U.un W) (kY N.un nA K) L S O K (by rfl)) λσ H Q h=>by
  obtain⟨ι,σd,g,d,g',G0,p,h,q⟩:=h;obtain⟨⟨i,g1⟩,h1,h⟩:=bind_some h;refine tD.bind G0 p h1 λH1 ι1 v e1 y l s=>?_;cases i with
  |str k =>
   cases s;dsimp only at h;cases R:pP Z k with
   |none=>rw[R]at h;cases h
   |some d2 =>
    rw[R]at h;cases d2 with
    |tup xs =>
     dsimp only at h;obtain⟨⟨c,g3⟩,r,h⟩:=bind_some h;refine⟨k,_,rfl,rfl,R,λv b=>⟨?_,?_⟩⟩
     . rcases b with⟨b,_⟩|⟨Cv,a',o,av,n,e0,mQ,rfl,q1,q2,q3,q4,q5,q6⟩
       . cases b
       . exact .inr (.inl ⟨rfl,o,q1,q2,q3⟩)
     . refine tD.bind y l r λH2 Y u e2 a S2 r2=>?_
       dsimp only at h;split at h
       . rename_i z
         rw[la]at z;cases hj:Ar xs c with
         |none=>rw[hj]at h;cases h
         |some j =>
          rw[hj]at h;cases h;refine⟨xs,c,j,b,by rw[(oH z.1 r2).1],z.1,z.2,hj,q H2 Y _ (e1.trans e2) a (by simp[Rel])⟩
       . cases h
    |_=>cases h
  |_=>cases h)
end
section
open PyProof.Rows
variable {Y:Array Value}{R:List D->G->Option (D×G)}{t:FG}{K:FT}{w:Int->Int->Int}{p:Expr}{n:Option Int}{m:FA}{l fs:FO}{j g:Pos}{d:Value}
noncomputable def me (i j:Nat)(fr:FA):FS:=λc g=>(fr c g).bind λr=>match r.1 with
 | [a,b]=>some (.nx,(c.set i (some a)).set j (some b),r.2)|_=>none
def Na {y:Str}{A:Pos}{kt k2 pt2}(O:X.calm=true)(C:X.N.Nodup)(M:X.N[i]? = some x)(P:X.N[o]? = some y)(fr:i≠o)(K:X.env.scope.names.lookup x=some .local)(E:X.env.scope.names.lookup y=some .local)(I:DA X [e,J] m)(hw:TF [.Tuple [.Name x q,.Name y j] kt g] (.Tuple [e,J] k2 pt2) X.env=pure (some [x,y]))(L:Yz [.Tuple [.Name x q,.Name y j] kt g] (.Tuple [e,J] k2 pt2) A.line X.env=pure false):
  DS X (.Assign [.Tuple [.Name x q,.Name y j] kt g] (.Tuple [e,J] k2 pt2) A) (me i o m):=.of (
 PS.imp (Lf O C M P fr K E I.un hw L) λR U H h=>by
  obtain⟨Y,n,Z,r,cx,g',G0,B,h,p⟩:=h;obtain⟨⟨ds,g1⟩,l,h⟩:=bind_some h;refine iz.bind G0 B l λQ a vs z k c f=>?_;dsimp only at h;split at h
  . rename_i e J
    cases h;obtain⟨v,vr,rfl,b,u,ur,rfl,s,rfl⟩:=f;exact⟨v,u,rfl,p Q a z k _ ((c.set b i).set s o)⟩
  . cases h)
def uz {a:Addr}{x:Value}(l:s.heap.IsTupleIter f a i)(r:s.heap.IsTuple a Y)(v:Y[i]? = some x)(w:∀g,g.IsTupleIter f a (i+1)->L1 f s.heap g->Q x { s with heap:=g }):wpAny (model k u) O (Tn (.ref f)) Q E s:=by
 obtain⟨o,c,h,b⟩:=id l;obtain⟨j,e,_,prog,A⟩:=r;unfold Tn;refine jg (Nc (name:=Ck "__next__") l.typeIs F.slot_tuple_iterator_next (xx F.slot_tuple_iterator_next l.typeIs F.entry_tuple_iterator_next ?_ (F.args_tuple_iterator_next_1 _)));change wpAny _ _ (field (.ref f) 0 >>= λ_=>_) _ _ _;refine jg (yS c b (x:=.ref a) rfl ?_);change wpAny _ _ (if(yE a == xa)=true then _ else _) _ _ _;rw[if_neg (by exact Nb)];change wpAny _ _ (field (.ref f) 1 >>= λ_=>_) _ _ _;refine jg (yS c b (x:=.int i 0) rfl ?_);change wpAny _ _ (seqItems? (.ref a) >>= λ_=>_) _ _ _;refine jg (Uo e A ?_);simp only[L3,v];refine jg (ad0 c b (by simp) ?_);refine kn ⟨x,rfl,kn (w _ ⟨_,HT _ c (Obj.isFreed_of_fields (agN b _)),(Obj.cls_mapFields ..).trans h,?_⟩ (OL ..))⟩;rw[agN b];simp[xy]
def wb {a:Addr}(hh:O.handled=none)(q:s.heap.IsTupleIter f a i)(v:s.heap.IsTuple a Y)(y:Y[i]? = none)(w:∀g e,afX f s.heap g->(∃o,g.get? e=some o/\o.cls = .type "StopIteration")->E (.ref e) { s with heap:=g }):wpAny (model k u) O (Tn (.ref f)) Q E s:=by
 obtain⟨o,b,l,c⟩:=id q;obtain⟨j,A,_,prog,h⟩:=v;unfold Tn;refine jg (Nc (name:=Ck "__next__") q.typeIs F.slot_tuple_iterator_next (xx F.slot_tuple_iterator_next q.typeIs F.entry_tuple_iterator_next ?_ (F.args_tuple_iterator_next_1 _)));change wpAny _ _ (field (.ref f) 0 >>= λ_=>_) _ _ _;refine jg (yS b c (x:=.ref a) rfl ?_);change wpAny _ _ (if(yE a == xa)=true then _ else _) _ _ _;rw[if_neg (by exact Nb)];change wpAny _ _ (field (.ref f) 1 >>= λ_=>_) _ _ _;refine jg (yS b c (x:=.int i 0) rfl ?_);change wpAny _ _ (seqItems? (.ref a) >>= λ_=>_) _ _ _;refine jg (Uo A h ?_);simp only[L3,y];refine jg (yn (jg (ad0 b c (by simp) ?_)));change wpAny _ _ (newExc (.type "StopIteration") [] >>= λ_=>_) _ _ _;refine jg ?_;simp only[newExc,newTuple];refine jg (x3 ?_ (by size_fits));refine jg (m:=aeP _ _) (aha (a:=xa) (by first|rfl| (simp only[aeP];rfl)) ?_);refine x3 ?_ (by size_fits);simp only[raiseNew];refine jg (wpAny_handled ?_);rw[show O.in1.handled=none from hh];exact jg (kn (wpAny_throw (w _ _ (((OL ..).extBut.push _).push _) ⟨_,n3 _ rfl,rfl⟩)))
def rW {t':Nat}{ch:List Addr}(I:jo X b v H s)(k:∀g o,g ∉ ch->s.heap.get? g=some o->A.get? g=some o)(p:∀g∈ch,fS X b H g):
   jo X b v H { s with heap:=A,toks:=t' }:=by
 have f:∀g u,H g=some u->g ∉ ch:=λg u e z=>by rw[(p g z).1]at e;cases e
 refine I.step (g':=s.gens) (d':=s.drawn) (ch:=ch) (λg x=>?_) (λg o _ _ a e _=>k g o a e) (λg o _ _ a e _=>⟨o.slots,k g o a e⟩) (λ_ _ _ _ n=>n)
   (λg o a e=>⟨o,k g o a e⟩) (λ_ _ e=>e) (λ_ _ _ e=>e) (λ_ _ _ e=>e) (λm hm=>?_) (λg u e=>?_) I.bare
 . obtain⟨J,B,O,y,C,i⟩:=p g x
   exact⟨y,B,C,i⟩
 . obtain⟨o,h,j,l,r⟩:=hm
   exact⟨o,h,j,k _ o (λz=>(p _ z).2.1 rfl) l,r⟩
 . refine(I.aV g u e).dn (λc E a q=>k c E ?_ q) (λ_ q=>q) (λ_ _ q=>q) λ_ _ q=>q
   rcases a with z|z
   . rw[z];exact f g u e
   . exact f c _ z
def Au {A:nc}(hh:A.handled=none)(q a:Addr)(items:Array Value)(n:Nat)(r:items.size<=n):
  Draws k u A q [q,a] n (λ_ _=>True) (λj h=>j=n/\h.IsListIter q a n/\h.IsList a items) where
 live:=λ_ _ st=>by obtain⟨o,prog,_⟩:=st.2.1;exact⟨o,prog⟩
 frame:=λ_ _ _ st b=>⟨st.1,st.2.1.at λo e=>b q (by simp) o e,st.2.2.at λo e=>b a (by simp) o e⟩
 item:=λi s Q E f st l=>absurd st.1 (oZ f)
 done:=λs Q E st c=>agd hh st.2.1 st.2.2 (by simp;exact r) c
noncomputable def Nd (K:mW)(a:Addr):It :=
 ⟨λi H=>∃c x,dD K H a c/\c[i]? = some x,λi H x b=>∃T v,x = .ref T/\H T=none/\b=upd H T (.tup [.int i,v]) /\ ∀c,dD K H a c->c[i]? = some v,λi H=>∃c,dD K H a c/\c.length<=i⟩
def Av {K:mW}(a e it:Addr)(C:e≠it):Turn k u K (.Tuple B i q) (Nd K a) [e,it] e (λw h=>(∃old,IsEnum h e it w old)/\h.IsListIter it a w) where
 mem:=by simp
 obj:=λw h st b c=>by
  obtain⟨⟨old,l⟩,o,j,h3,h4⟩:=st;rcases l2.mp c with rfl|c
  . exact⟨_,l,λv z=>by cases z⟩
  . have iw:b=it:=by simpa using c
    subst iw;exact⟨o,j,λv z=>by rw[h4]at z;cases z⟩
 keep:=λw h y st kt=>by obtain⟨⟨old,l⟩,j⟩:=st;exact⟨⟨old,kt e (by simp) _ l⟩,j.at λo P=>kt it (by simp) o P⟩
 item:=by
  intro X hP hw hK hc w a8 s σ H E I hf st hg;subst hP hw hK;obtain⟨⟨old,l⟩,j⟩:=st;obtain⟨xs,x,hq,hx⟩:=hg;obtain⟨av,rv,p,hz⟩:=I.list hq;obtain⟨J,hu,ru⟩:=rv.get hx;have ai:a≠it:=λz=>by obtain⟨o,r,q2,_⟩:=p.isList;obtain⟨o',q3,q4,_⟩:=j;rw[z,q3]at r;cases r;rw[q4]at q2;exact absurd q2 (by decide)
  have ae:e≠a:=λz=>by obtain⟨o,r,q2,_⟩:=p.isList;rw[<- z,l]at r;cases r;exact absurd (show rn "enumerate" = rn "list" from q2) (by decide)
  have hi:w<av.toArray.size:=by have:=(l8.mp hu).1;simpa using this
  refine wpAny_pyNext_enum_itemD (Draws.list (A:=X.A.in1) (I.ok.hd hc) it a ai av.toArray) l ⟨j,p.isList⟩ hi C (by simp[C,ae]) λx' y tk hP Vs c_ hT jB hk=>?_;have ex:x'=J:=by
    have P:av.toArray[w]? = some x':=hP;have q':av[w]? = some x':=by simpa using P
    rw[hu]at q';exact(wi q').symm
  subst ex;refine⟨_,rfl,wpAny_letOwnedTupleGo_enum Vs λvQ Hc Ng=>?_⟩;have I1:jo X a8 σ (upd H s.heap.objs.size (.tup [.int w,x])) { s with heap:=s.heap.push { cls:=.type "tuple",data:=.seq #[.int w tk,x'] } }:=
    I.laid (t':=s.toks) (o:=.tup [.int w,x]) (λb o P=>mn _ P) (lb _) (show eA X.prog X.w _ _ _ (.tup [.int w,x]) from⟨by show 2<=lX;decide,[.int w tk,x'],.cons ⟨tk,rfl⟩ (.cons ru .nil),fA.new _ _⟩)
  have eT:e≠s.heap.objs.size:=oZ (mA l);have iT:it≠s.heap.objs.size:=by obtain⟨o',q3,_⟩:=j;exact oZ (mA q3)
  have I2:jo X a8 σ (upd H s.heap.objs.size (.tup [.int w,x])) { s with heap:=vQ,toks:=tk+1 }:=rW (s:={ s with heap:=s.heap.push { cls:=.type "tuple",data:=.seq #[.int w tk,x'] } }) (ch:=[e,it]) I1 (λb o c P=>by
    simp only[l2,List.mem_nil_iff,or_false,not_or]at c;have h3:y.get? b=some o:=by
      by_cases SE:b=s.heap.objs.size
      . subst SE
        have:(s.heap.push { cls:=.type "tuple",data:=.seq #[.int w tk,x'] }).get? s.heap.objs.size=some o:=P;rw[n3 _ rfl]at this;rw[<- this];exact hT
      . exact hk b o c.1 c.2 ((ag3 s.heap b _ SE).symm.trans P)
    exact(Ng.2 b c.1).trans h3) (λb c=>by
      obtain⟨f0,f1,f2,f3,f4,f5⟩:=hf b c;refine⟨?_,f1,f2,f3,f4,f5⟩;rcases l2.mp c with rfl|c
      . rw[aF eT];exact f0
      . have iw:b=it:=by simpa using c
        subst iw;rw[aF iT];exact f0)
  refine⟨.ref s.heap.objs.size,_,I2,rfl,⟨_,x,rfl,I.fresh,rfl,λys hy=>by rw[I.lR hy hq];exact hx⟩,⟨⟨_,by simpa using Hc⟩,?_⟩,λb c=>?_⟩
  . exact c_.1.at λo P=>(Ng.2 it (ta C)).trans P
  . rcases l2.mp c with rfl|c
    . rw[aF eT];exact(hf _ (by simp)).1
    . have iw:b=it:=by simpa using c
      subst iw;rw[aF iT];exact(hf _ (by simp)).1
 done:=by
  intro X hP hw hK hc w a8 s σ H E I hf st hg;subst hP hw hK;obtain⟨⟨old,l⟩,j⟩:=st;obtain⟨xs,hq,hx⟩:=hg;obtain⟨av,rv,p,hz⟩:=I.list hq;have ai:a≠it:=λz=>by obtain⟨o,r,q2,_⟩:=p.isList;obtain⟨o',q3,q4,_⟩:=j;rw[z,q3]at r;cases r;rw[q4]at q2;exact absurd q2 (by decide)
  have f:=hf it (by simp);have fin:∀y,afX it s.heap y->jo X a8 σ H { s with heap:=y }:=λy eb=>I.turned (t':=s.toks) (λb o c P=>eb b o c P) f.1 f.2.1 f.2.2.2.1 f.2.2.2.2.1 f.2.2.2.2.2;have hl:=rv.length;exact wpAny_pyNext_enum_endD (Au (A:=X.A.in1) (I.ok.hd hc) it a av.toArray w (by simp;lia)) l ⟨rfl,j,p.isList⟩ λy eb=>⟨rfl,fin y eb⟩
 self:=λ_ _ _ _ _ st h=>wpAny_pyIter_enum st.1.choose_spec h
noncomputable def oJ (c:List D):List D:=c.zipIdx.map λp=>.tup [.int (p.2:Nat),p.1]
noncomputable def Cw (f:FE):FI:=λc g=>(f c g).bind λr=>match r.1 with|.lst h=>some (oJ h,r.2)|_=>none
def j2.QH {K H ι a vs ds}(r:mT K H ι a vs)(s:ak K H ι ds vs):j2 K (Nd K a) H ι (oJ ds):=λi n o p c f =>
 ⟨λh=>⟨vs,(r.eF c).sq,by rw[<- s.length];simpa[oJ]using h⟩,λd hd=>by
  unfold oJ at hd;rw[m2,ago]at hd;cases g:ds[i]? with
  |none=>rw[g]at hd;cases hd
  |some u =>
   rw[g]at hd;simp only[F1,afh,Ds]at hd;subst hd;obtain⟨v,e,j⟩:=(ak.eF c _ s).get g;refine⟨⟨vs,v,(r.eF c).sq,e⟩,λx l y=>?_⟩;obtain⟨T,q,rfl,b,rfl,k⟩:=y;have:=k vs (r.eF c).sq;rw[e]at this;cases this;refine⟨Ext.lay b,f.lay b,?_⟩;simp only[Rel];refine⟨T,_,rfl,.inl ⟨.inl aQ,f.fresh b⟩,?_⟩;simp only[ak,Rel];exact⟨_,_,rfl,rfl,_,_,rfl,Rel.ext (Ext.lay b) _ j,rfl⟩⟩
def Fi (K:Gl X "enumerate")(J:X.mg "enumerate" = none)(L:DE X e C)(E:lY [e] X.env = [(false,eval e X.env)]):DI X (.Tuple B i g) (.Call (.Name "enumerate" q) [e] [] j) (Cw C):=.of (by
 intro Z s σ H R I h;obtain⟨U,Q,M,ds,g',G0,S0,h,l⟩:=h;obtain⟨⟨d1,Y⟩,h1,h⟩:=bind_some h;cases d1 with
 |lst xs =>
  cases h;refine Call_ (ja I K J PyProof.Rows.boot_enumerate (XP (a_ ((kY L.un nA E) j Z s σ H (λf n=>∃v c,f = [v]/\Ext H U n c/\az X.kw n c Y/\Rel X.kw n c (.lst xs) v) I ?_) λus s1 ⟨f,n,O,p,v,c,y,k,o,z⟩=>?_) E rfl) (by decide) (by decide))
  . exact⟨U,Q,M,_,Y,G0,S0,h1,λn c v k o p=>⟨v,c,rfl,k,o,p⟩⟩
  . subst y
    obtain⟨u,rfl,ru⟩:=Tw p;obtain⟨a,f,rfl,r,hr⟩:=z;cases ru;obtain⟨av,rv,pt,hz⟩:=O.list r.sq;refine call_enumerate_list pt.isList λh' x jm _ hk=>?_;refine wpAny_pyIter_enum x ?_;have fO:s1.heap.objs.size+1≠s1.heap.objs.size:=ahk _;refine⟨s1.heap.objs.size+1,[s1.heap.objs.size+1,s1.heap.objs.size],_,_,n,rfl,O.kept (t':=s1.toks) hk,Av a _ _ fO,⟨⟨_,x⟩,jm⟩,λb A=>?_,l n c _ k o (.QH r hr)⟩;rcases l2.mp A with rfl|A
    . exact O.ny (af1 _) (O.aV.fresh (af1 _))
    . have iw:b=s1.heap.objs.size:=by simpa using A
      subst iw;exact O.ny (lb _) (O.aV.fresh (lb _))
 |_=>cases h)
noncomputable def uN (f:FE):FI:=λc g=>(f c g).bind λr=>match r.1 with|.lst h=>some (oJ h,r.2)|_=>none
def JD (u:Gl X "enumerate")(r:X.mg "enumerate" = none)(v:DE X e C)(x:lY [e] X.env = [(false,eval e X.env)]):DI X (.Tuple B i g) (.Call (.Name "enumerate" q) [e] [] j) (uN C):=.of (by
 intro n s y H R I h;obtain⟨E,p,k,ds,o,G0,c,h,l⟩:=h;obtain⟨⟨b,J⟩,f,a⟩:=bind_some h;cases b with
 |lst O=>exact(Fi u r v x).un n s y H R I ⟨E,p,k,ds,o,G0,c,by unfold Cw;rw[f];exact a,l⟩|_=>cases a)
@[simp] def wc:uN C h a=(C h a).bind λr=>match r.1 with|.lst c=>some (oJ c,r.2)|_=>none:=rfl
noncomputable def pQ (i:Nat)(o:Int->Int->Int)(c:FE):FS:=λh g=>match h[i]? with
 |some (some (.int a))=>(c h g).bind λr=>match r.1 with
  |.int b=>some (.nx,h.set i (some (.int (o a b))),r.2)|_=>none
 |_=>none
def Cy {op:SW}(E:X.N.Nodup)(J:X.N[i]? = some x)(M:Ea X.env.scope x)(I:Gq X op (Lh w))(L:DE X e C)(K:X.fn x=true\/X.env.scope.names.lookup x=some .local):DS X (.AugAssign (.Name x q) op e j) (pQ i w C):=.of (
 PS.imp (Lg E J M L.un I K) λR U H h=>by
  obtain⟨Y,B,g,r,Z,g',G0,c,h,p⟩:=h;unfold pQ at h;split at h
  . rename_i a k
    obtain⟨⟨f,g1⟩,s,h⟩:=bind_some h;obtain⟨v,z,y⟩:=c.2 i _ k;cases y;refine⟨.int a,z,?_⟩;refine tD.bind G0 c s λO n u Q o A l=>?_;cases f with
    |int b =>
     cases h;cases l;exact⟨a,b,rfl,rfl,p O n Q o _ (A.set (d:=.int (w a b)) (by simp[Rel]) i)⟩
    |_=>cases h
  . cases h)
@[simp] def W7:pQ i w C h a=(match h[i]? with
 |some (some (.int c))=>(C h a).bind λr=>match r.1 with
  |.int g=>some (.nx,h.set i (some (.int (w c g))),r.2)|_=>none
 |_=>none):=rfl
@[simp] def W8:me i o m h a=(m h a).bind λr=>match r.1 with
 | [j,b]=>some (.nx,(h.set i (some j)).set o (some b),r.2)|_=>none:=rfl
@[simp] def W9 {g:FE}:ma C g h a=(C h a).bind λr=>(jw r.1 r.2).bind λc=>if c=true then some r else g h r.2:=rfl
@[simp] def QI:jw .ay a=some false:=rfl
@[simp] def QJ:jw (.tup r) a=some (!r.isEmpty):=rfl
@[simp] def QK:jw (.lst r) a=some (!r.isEmpty):=rfl
noncomputable def dn (g:List Addr)(h i:Heap):Prop:=∀c o,c ∉ g->h.get? c=some o->i.get? c=some o
def dn.tr {cs h f h2}(a:dn cs h f)(b:dn cs f h2):dn cs h h2:=λc o n e=>b c o n (a c o n e)
def dn.of {cs h h1 c}(a:L1 c h h1)(m:c∈cs):dn cs h h1:=λb o n e=>(a.2 b λz=>n (z ▸ m)).trans e
def QL {c:Addr}{p:List V}(I:jo X b v H s)(r:fS X b H c)(i:fg X.kw H f p):f≠c:=λz=>by
 subst z;obtain⟨u,x,y,e,B,h⟩:=r;rcases i with i|⟨o,av,n,hk,_⟩
 . rcases i with i|⟨o,i⟩<;>rw[u]at i<;>cases i
 . have g:X.base.get? f=some o:=I.ok.mod.kW f o hk
   rcases e with q|q
   . exact I.ok.pH f o g q
   . exact Ac _ (sY (mA (I.ok.bs f o g).1) q)
noncomputable def bu (n:Nat)(b c:Option Int)(a:Int):Int×Nat:=((Sf b c a (n:Int)).1,Tz (Sf b c a (n:Int)).1 (Sf b c a (n:Int)).2 a)
noncomputable def gu {c:Type}(g:List c)(l:Int)(n:Nat)(a:Int):List c:=(nN n).filterMap λ(k:Nat)=>g[(l+(k:Int)*a).toNat]?
noncomputable def rX (d:D)(b a c:Option Int)(g:G):Option (D×G):=match d,c with
 |.tup h,some k=>if(!(k == 0) && !(k == 1)&&aC (bu h.length b a k).2)=true then some (.tup (gu h (bu h.length b a k).1 (bu h.length b a k).2 k),g)else none|_,_=>none
def Cz {i:D}{d b:Option Int}{p:G}(h:rX c n d b a=some (i,p)):∃g k,c = .tup g/\b=some k/\k≠0/\k≠1/\aC (bu g.length n d k).2=true/\i = .tup (gu g (bu g.length n d k).1 (bu g.length n d k).2 k)/\p=a:=by
 unfold rX at h;split at h
 . rename_i g k
   split at h
   . rename_i z
     rw[la,la]at z;cases h;exact⟨g,k,rfl,rfl,by simpa using z.1.1,by simpa using z.1.2,z.2,rfl,rfl⟩
   . cases h
 . cases h
noncomputable def wd (c:FE)(b a fs:FO):FE:=λi g=>(c i g).bind λr=>(b i r.2).bind λl=>(a i l.2).bind λh=>(fs i h.2).bind λk=>rX r.1 l.1 h.1 k.1 k.2
def tM {a:Type}(c:List a)(l:Int)(n:Nat)(b:Int):(gu c l n b).length<=n:=by unfold gu;exact n7 (List.length_filterMap_le _ _) (by simp)
theorem ak.pick {K H ι}{g:List D}{h:List V}(r:ak K H ι g h)(l:Int)(c:Int):∀n k,ak K H ι ((KY k n).filterMap λ(k:Nat)=>g[(l+(k:Int)*c).toNat]?) ((KY k n).filterMap λ(k:Nat)=>h[(l+(k:Int)*c).toNat]?)
 | 0,k=>by simp[ak]
 |n+1,k=>by
  rw[afG,Bu,Bu];have p:=ak.pick r l c n (k+1);cases i:g[(l+(k:Int)*c).toNat]? with
  |none =>
   have a:h[(l+(k:Int)*c).toNat]? = none:=by rw[acR]at i ⊢;rw[<- r.length];exact i
   rw[a];exact p
  |some d =>
   obtain⟨v,a,b⟩:=r.get i;rw[a];simp only[ak];exact⟨v,_,rfl,b,p⟩
theorem tN {g:List V}{e:List Value}(r:Vals g e)(l:Int)(c:Int):∀n k,Vals ((KY k n).filterMap λ(k:Nat)=>g[(l+(k:Int)*c).toNat]?) ((KY k n).filterMap λ(k:Nat)=>e[(l+(k:Int)*c).toNat]?)
 | 0,k=>.nil
 |n+1,k=>by
  rw[afG,Bu,Bu];have i:=tN r l c n (k+1);cases h:g[(l+(k:Int)*c).toNat]? with
  |none =>
   have a:e[(l+(k:Int)*c).toNat]? = none:=by rw[acR]at h ⊢;rw[<- r.length];exact h
   rw[a];exact i
  |some d =>
   obtain⟨v,a,b⟩:=r.get h;rw[a];exact .cons b i
def Fj {g:Value}{l:Option Int}{Q:Int×Int×Nat->j0->Prop}(e:s.heap.IsSliceOf f Z d g)(q:wa Z n)(o:wa d l)(ps:wa g (some I))(r:I≠0)(h:Q ((bu i n l I).1,I,(bu i n l I).2) s):wpAny (model k u) O (acN (.ref f) (pure (i:Int))) Q E s:=by
 obtain⟨os,a,c,b⟩:=id e;unfold acN afn;refine jg (jg (yS a b (x:=Z) rfl (jg (yS a b (x:=d) rfl (jg (yS a b (x:=g) rfl (kn ?_)))))));refine jg (hZ ps ?_);change wpAny _ _ (if(I == 0)=true then _ else _) _ _ s;rw[if_neg (by simpa using r)];exact jg (hZ q (jg (hZ o (jg (kn (kn h))))))
def QM {l:Addr}{i:Value}{g:Option Int}(j:IsTup s.heap f Y)(t:s.heap.IsSliceOf l Z d i)(y:wa Z n)(v:wa d g)(ps:wa i (some I))(z:I≠0)(x:I≠1)(h:Q (.ref s.heap.objs.size) { s with heap:=s.heap.push { cls:=.type "tuple",data:=.seq (gu Y.toList (bu Y.size n g I).1 (bu Y.size n g I).2 I).toArray } })(hz:(bu Y.size n g I).2<=lX):wpAny (model k u) O (Mi (.ref f) (.ref l)) Q E s:=by
 have ok:sizeOk (.seq (gu Y.toList (bu Y.size n g I).1 (bu Y.size n g I).2 I).toArray):=by show(gu Y.toList (bu Y.size n g I).1 (bu Y.size n g I).2 I).toArray.size<=lX;rw[m3];exact n7 (tM ..) hz
 obtain⟨os,a,b,c⟩:=id t;have ty:s.TypeIs (.ref l) "slice":=⟨os,a,b⟩
 unfold Mi;try with_reducible refine sZ ?_
 first|refine jg (kn ?_)|skip
 refine jg (YZ j.typeIs (by decide) (jg (Nc (name:=Ck "__getitem__") j.typeIs MO (xx MO j.typeIs aeJ ?_ (ae0 _ _)))));change wpAny _ _ (acO (.ref f) >>= λ_=>_) _ _ s;refine jg (agt j (jg (RY ty ?_)));rw[if_pos (by decide)];refine jg (Fj t y v ps z ?_);have p:¬(((bu Y.size n g I).1 == 0&&I == 1&&(bu Y.size n g I).2 == Y.size)=true):=by intro q;rw[la,la]at q;exact x (eq_of_beq q.1.2)
 change wpAny _ _ (if((bu Y.size n g I).1 == 0&&I == 1&&(bu Y.size n g I).2 == Y.size)=true then _ else _) _ _ s;rw[if_neg p];have e:((nN (bu Y.size n g I).2).filterMap λ(m:Nat)=>Y[((bu Y.size n g I).1+(m:Int)*I).toNat]?).toArray=(gu Y.toList (bu Y.size n g I).1 (bu Y.size n g I).2 I).toArray:=by unfold gu;simp only[adn]
 rw[e];first
  |exact jg (m:=PK _) (x3 (kn ⟨_,rfl,kn h⟩) ok)
  |exact jg (m:=PK _) (x3 (jg (kn (kn ⟨_,rfl,kn h⟩))) ok)
  |exact jg (jg (m:=PK _) (x3 (kn (kn ⟨_,rfl,kn h⟩)) ok))
  |exact jg (jg (m:=PK _) (x3 (kn ⟨_,rfl,kn h⟩) ok))
def CA {L B:Option Expr}{K:FO}(O:DE X e C)(P:DO X L l)(hu:DO X B K)(S:DO X (some J) fs):DE X (.Subscript e (.Slice L B (some J) q) j) (wd C l K fs):=.of (by
 intro a8 s σ H Q I h;obtain⟨ι,R,g,d,g',G0,S0,h,p⟩:=h;obtain⟨⟨d1,g1⟩,h1,h⟩:=bind_some h;obtain⟨⟨N,g2⟩,h2,h⟩:=bind_some h;obtain⟨⟨u,g3⟩,h3,h⟩:=bind_some h;obtain⟨⟨k,g4⟩,h4,h⟩:=bind_some h;refine Subscript_ (a_ (O.un a8 s σ H (λx U=>∃f,Ext H ι U f/\az X.kw U f g1/\bO X.kw U f R σ/\Rel X.kw U f d1 x) I ⟨ι,R,g,d1,g1,G0,S0,h1,λU f v e1 G1 r1=>⟨f,e1,G1,S0.ext e1,r1⟩⟩) λv s1 i=>?_);obtain⟨x,U,I1,r1,f,e1,G1,S1,rd⟩:=i;refine wpAny_Slice (a_ (P.un a8 s1 σ U (λo H2=>o=N /\ ∃E,Ext U f H2 E/\az X.kw H2 E g2) I1 ⟨f,R,g1,N,g2,G1,S1,h2,λH2 E e2 G2=>⟨rfl,E,e2,G2⟩⟩) λvl s2 i=>?_);obtain⟨o,H2,I2,pl,eo,E,e2,G2⟩:=i;subst eo;refine a_ (hu.un a8 s2 σ H2 (λo z=>o=u /\ ∃r,Ext H2 E z r/\az X.kw z r g3) I2 ⟨E,R,g2,u,g3,G2,S1.ext e2,h3,λz r e3 G3=>⟨rfl,r,e3,G3⟩⟩) λvu s3 i=>?_;obtain⟨o',z,I3,pu,eo,r,e3,G3⟩:=i;subst eo;refine a_ (S.un a8 s3 σ z (λo H4=>o=k /\ ∃y,Ext z r H4 y/\az X.kw H4 y g4) I3 ⟨r,R,g3,k,g4,G3,S1.ext (e2.trans e3),h4,λH4 y e4 G4=>⟨rfl,y,e4,G4⟩⟩) λvs Y i=>?_;obtain⟨Z7,H4,I4,ps,eo,y,e4,G4⟩:=i;subst eo;have pq:=Rel.ext (e2.trans (e3.trans e4)) _ rd;obtain⟨xs,kk,rfl,ek,z0,z1,z2,rfl,rfl⟩:=Cz h;cases ek;obtain⟨a,ws,rfl,hq,hr⟩:=pq;cases r1;have I5:jo X a8 σ H4 { Y with heap:=Y.heap.push { cls:=.type "slice",data:=.fields #[vl,vu,vs] } }:=I4.kept (t':=Y.toks) λb ob M=>mn _ M;obtain⟨av,rv,pt,hz⟩:=I5.tuple hq.sq;have Z:av.toArray.size=xs.length:=by rw[m3,<- rv.length,<- hr.length]
 change wpAny (model X.prog X.w) X.A (agu e (.Slice L B (some J) q) (.ref a) (.ref Y.heap.objs.size)) (EP X a8 σ Q) X.xe { Y with heap:=Y.heap.push { cls:=.type "slice",data:=.fields #[vl,vu,vs] } };refine tail_any (ops:=[.ref a,.ref Y.heap.objs.size]) pt.typeIs MO.lookup ?_ (by with_unfolding_all rfl);refine QM pt (agK ..) pl pu ps z0 z1 ?_ (by rw[Z];exact aC.le z2);rw[Z];have hp:∀{α:Type} (ys:List α) (N:Int) (n:Nat) (c:Int),gu ys N n c=(KY 0 n).filterMap λ(k:Nat)=>ys[(N+(k:Int)*c).toNat]?:=λys N n c=>by unfold gu;rw[List.range_eq_range']
 have j3:=I5.fresh;refine⟨.ref _,_,I5.laid (t':=Y.toks) (o:=.tup (gu ws (bu xs.length o o' kk).1 (bu xs.length o o' kk).2 kk)) (λb ob M=>mn _ M) (lb _) ⟨n7 (tM ..) (aC.le z2),_,by rw[hp,hp];exact tN rv _ _ _ _,fA.new _ _⟩,rfl,?_⟩;refine p _ y _ ((e1.trans (e2.trans (e3.trans e4))).trans (Ext.lay j3)) (G4.lay j3) ?_;simp only[Rel];refine⟨_,_,rfl,.inl ⟨.inl aQ,G4.fresh j3⟩,?_⟩;rw[hp,hp];exact ak.ext (Ext.lay j3) _ (ak.pick hr _ _ _ _))
@[simp] def JE {b:FO}:wd C l b fs h a=(C h a).bind λr=>(l h r.2).bind λc=>(b h c.2).bind λg=>(fs h g.2).bind λk=>rX r.1 c.1 g.1 k.1 k.2:=rfl
noncomputable def cY (a b:D)(g:G):Option (D×G):=if(flat a&&flat b&&decide (dep a<=60))=true then some (.bl (!bB a b),g)else none
def Nh (hu:X.A.units+64<cLine):bQ X (ra .NotEq) (dW X.kw cY):=by
 intro r s B H x y v u Q I b c q;obtain⟨n,g,a,h,d,i,G0,e,f,q,p⟩:=q;unfold cY at q;split at q
 . rename_i z
   simp only[la,decide_eq_true_eq]at z;cases q;exact(GZ I a h z.1.1 z.1.2 e f b c (by lia)).2 _ _ _ _ ⟨.bl _,H,I,rfl,p H n _ Ext.refl G0 (by simp[Rel])⟩
 . cases q
@[simp] def W_ {b:D}:cY c b a=if(flat c&&flat b&&decide (dep c<=60))=true then some (.bl (!bB c b),a)else none:=rfl
noncomputable def fq:List D->Option (List Int)
 | []=>some []|.int i::ds=>(fq ds).map (i :: ·)|_=>none
def Aw (h:fq (c::r)=some y):∃i g,c = .int i/\y=i::g/\fq r=some g:=by
 cases c with
 |int i =>
  simp only[fq,nP]at h;obtain⟨g,a,rfl⟩:=h;exact⟨i,g,rfl,rfl,a⟩
 |_=>simp[fq]at h
theorem nQ {K H ι}:∀{u:List D} {g:List V} {n:List Value} {p:List Int},fq u=some p->ak K H ι u g->Vals g n->xo n p
 | [],g,n,p,h,r,q=>by cases r;cases q;cases h;exact .nil
 |d::ds,g,n,p,h,r,q=>by
  obtain⟨i,B,rfl,rfl,a⟩:=Aw h;obtain⟨v,c,rfl,rfl,b⟩:=r;cases q with
  |cons x y =>
   obtain⟨t,rfl⟩:=x;exact .cons i t (nQ a b y)
theorem mf:∀{g:List Value} {i:List Int},xo g i->∃c:List (Int×Tok),g=c.map (λp=>VE p.1 p.2)/\i=c.map (·.1)
 |_,_,.nil=>⟨[],rfl,rfl⟩|_,_,.cons n t h=>by obtain⟨c,rfl,rfl⟩:=mf h;exact⟨(n,t)::c,rfl,rfl⟩
noncomputable def ic (ds:List D)(g:G):Option (D×G):=match ds with| [d]=>(iZ d g).bind λc=>(fq c).bind λh=>h.min?.map λm=>(.int m,g)|_=>none
def JF (hh:X.A.handled=none):dX X (.builtin "min") (kA X.kw ic):=by
 intro a8 s σ H xs us Q I r q;obtain⟨n,g,ds,d,g',G0,y,q,p⟩:=q;cases ds with
 |nil=>cases q|cons e B =>
 cases B with
 |cons _ _=>cases q
 |nil =>
  simp only[ic]at q;obtain⟨ys,o,q⟩:=bind_some q;obtain⟨ns,z,q⟩:=bind_some q;obtain⟨m,hm,q⟩:=nP.mp q;cases q;obtain⟨v,_,rfl,C,rfl⟩:=y;obtain⟨a,vs,rfl,hq,E⟩:=l7 G0 C o;cases r with
  |cons J O =>
   cases O;cases J;obtain⟨av,u,ht,_⟩:=I.list hq;obtain⟨b,rfl,rfl⟩:=mf (nQ z E u);obtain⟨h,R⟩:=age.mp hm;have l:(b.map (λp=>VE p.1 p.2)).toArray=intItems b.toArray:=by simp[intItems]
   have c:=ht.isList;rw[l]at c;have f:0<b.toArray.size:=by
    cases b with
    |nil=>simp at h|cons _ _=>simp
   refine min_intList hh c f λv h' tk U Y=>?_;obtain⟨t,rfl⟩:=intItems_at U;obtain⟨h1,h2⟩:=argBest_lt (numAt b.toArray) (b.toArray.size-1);have e:numAt b.toArray (argBest (λi j=>decide (numAt b.toArray i<numAt b.toArray j)) (b.toArray.size-1))=m:=by
    have Z:∀j,j<b.length->numAt b.toArray j=(b.map (·.1)).getD j 0:=λj k=>by rw[Z0]
    have x:numAt b.toArray (argBest (λi j=>decide (numAt b.toArray i<numAt b.toArray j)) (b.toArray.size-1))∈b.map (·.1):=by rw[Z0];exact getD_mem (by rw[oY];simp at f h1 ⊢;lia)
    refine Int.le_antisymm ?_ (R _ x);obtain⟨j,k,ej⟩:=mem_getD h;rw[<- ej];have:=h2 j (by simp at k ⊢;lia);rw[Z0]at this;rw[Z0];simpa[Z0]using this
   rw[e];exact⟨.int m,H,I.kept Y,⟨_,rfl⟩,p H n _ Ext.refl G0 (by simp[Rel])⟩
theorem baP:∀{c:List Value} {g:List Int},xo c g->Vals (g.map V.int) c
 |_,_,.nil=>.nil|_,_,.cons n t h=>.cons ⟨t,rfl⟩ (baP h)
theorem qJ {K:KW}{H:Hp}{g:Ix}:∀c:List Int,ak K H g (c.map D.int) (c.map V.int)
 | []=>by simp[ak]|n::c=>by simp only[wh,ak];exact⟨_,_,rfl,by simp[Rel],qJ c⟩
@[simp] def Vt:ic [c] a=(iZ c a).bind λg=>(fq g).bind λh=>h.min?.map λm=>(.int m,a):=rfl
def ni {l:Addr}{t:Option Int}(j:IsTup s.heap f Y)(o:s.heap.IsSliceOf l Z d .none)(v:wa Z n)(g:wa d t)(hw:bj Y.size 0 n=0/\bj Y.size Y.size t=Y.size)(h:Q (.ref f) s):wpAny (model k u) O (Mi (.ref f) (.ref l)) Q E s:=by
 obtain⟨os,c,a,q⟩:=id o;have b:s.TypeIs (.ref l) "slice":=⟨os,c,a⟩
 unfold Mi;try with_reducible refine sZ ?_
 first|refine jg (kn ?_)|skip
 refine jg (YZ j.typeIs (by decide) ?_);refine jg (Nc (name:=Ck "__getitem__") j.typeIs MO
  (xx MO j.typeIs aeJ ?_ (ae0 _ _)))
 show wpAny _ _ (acO (.ref f) >>= _) _ _ s;refine jg (agt j ?_);refine jg (RY b ?_);rw[if_pos (by decide)];refine jg (jT o v g ?_);have e:((((bj Y.size 0 n:Nat):Int)== 0&&(1:Int)== 1&&(bj Y.size Y.size t-bj Y.size 0 n)== Y.size)=true):=by rw[hw.1,hw.2];simp
 show wpAny _ _ (if(((bj Y.size 0 n:Nat):Int)== 0&&(1:Int)== 1&&(bj Y.size Y.size t-bj Y.size 0 n)== Y.size)=true then _ else _) _ _ s;rw[if_pos e];unfold Builtin.Tuple.tupleIsExact;refine jg (jg (RY j.typeIs (kn ?_)));rw[if_pos (by decide)];refine jg (yn (kn ⟨_,rfl,kn h⟩))
noncomputable def Vv (K:KW):V->Option Int->Option Int->Hp->VK->Prop:=λx g b H Q=>∃a c,x = .ref a/\fg K H a c/\(bj c.length 0 g=0/\bj c.length c.length b=c.length)/\Q (.ref a) H
def Fl:o_ X (Vv X.kw):=by
 intro p s B H x v o u C k y Q I c j i pu h;obtain⟨a,n,rfl,e,hw,q⟩:=h;cases c;obtain⟨f,r,b,l⟩:=I.tuple e;have g:f.toArray.size=n.length:=by rw[m3];exact r.length.symm
 refine⟨"tuple",_,MO.lookup,b.typeIs,?_⟩;exact ni b j i pu (by rw[g];exact hw) ⟨.ref a,H,I,rfl,q⟩
noncomputable def fM (d:D)(a b:Option Int)(g:G):Option (D×G):=match d with
 |.tup c=>some (.tup (pe c a b),g)|d=>M5 d a b g
def CB {b:Option Int}(h:lj r.length n b=true):pe r n b=r:=by unfold lj at h;rw[la,decide_eq_true_eq,decide_eq_true_eq]at h;unfold pe;rw[h.1,h.2];simp
noncomputable def cU (c:FE)(b a:FO):FE:=λi g=>(c i g).bind λr=>(b i r.2).bind λl=>(a i l.2).bind λh=>fM r.1 l.1 h.1 h.2
def CC {K J:Option Expr}(A:DE X e C)(L:DO X K l)(hh:DO X J fs):DE X (.Subscript e (.Slice K J none q) j) (cU C l fs):=.of (
 PE.imp (EF (o_.or Jv Fl) A.un L.un hh.un) λσ H Q h=>by
  obtain⟨ι,O,g,d,g',G0,S0,h,p⟩:=h;obtain⟨⟨d1,g1⟩,h1,h⟩:=bind_some h;obtain⟨⟨I,Z⟩,h2,h⟩:=bind_some h;obtain⟨⟨u,g3⟩,h3,h⟩:=bind_some h;refine tD.bind G0 S0 h1 λH1 R v e1 G1 y r1=>?_;refine⟨R,O,g1,I,Z,G1,y,h2,λH2 U x G2=>?_⟩;refine⟨U,O,Z,u,g3,G2,y.ext x,h3,λs Y e3 i=>?_⟩;have k:=Rel.ext (x.trans e3) _ r1;have r:=p.mono (e1.trans (x.trans e3));have lst:∀{B:List D} {e:Addr} {M:List V},v = .ref e->dD X.kw s e M->ak X.kw s Y B M->some (D.lst (pe B I u),g3)=some (d,g')->M7 X.kw v I u s Q:=fun {B e M} ev E f hh=>by cases hh;refine .inr ⟨e,M,ev,E,λa b=>r _ _ _ (Ext.lay b) (i.lay b) ?_⟩;simp only[Rel];exact⟨a,_,rfl,.inl ⟨.inl aQ,i.fresh b,i.ia b⟩,ak.ext (Ext.lay b) _ (f.M6 I u)⟩
  dsimp only at h;cases d1 with
  |tup B =>
   simp only[fM]at h;cases h;have r4:=k;obtain⟨e,M,rfl,E,f⟩:=k;by_cases z:lj B.length I u=true
   . refine .inr ⟨e,M,rfl,E.sq,?_,r _ _ _ Ext.refl i ?_⟩
     . unfold lj at z
       rw[f.length,la,decide_eq_true_eq,decide_eq_true_eq]at z;exact z
     . rw[CB z];exact r4
   . refine .inl (.inl ⟨e,M,rfl,E.sq,λc=>z ?_,λa b=>r _ _ _ (Ext.lay b) (i.lay b) ?_⟩)
     . unfold lj
       rw[f.length,la,decide_eq_true_eq,decide_eq_true_eq];exact c
     . simp only[Rel]
       exact⟨a,_,rfl,.inl ⟨.inl aQ,i.fresh b⟩,ak.ext (Ext.lay b) _ (f.M6 I u)⟩
  |lst B =>
   simp only[fM,M5]at h;obtain⟨e,M,o,E,f⟩:=k;exact .inl (lst o E.sq f h)
  |ref n =>
   simp only[fM,M5]at h;split at h
   . rename_i B hx
     obtain⟨e,o,A⟩:=k;obtain⟨M,hv,f⟩:=i.at hx A;exact .inl (lst o (.of hv) f h)
   . cases h
  |_=>cases h)
@[simp] def JG:cU C l fs h a=(C h a).bind λr=>(l h r.2).bind λc=>(fs h c.2).bind λb=>fM r.1 c.1 b.1 b.2:=rfl
mutual
noncomputable def sm:D->Bool
 |.ay=>true|.bl _=>true|.int i=>decide (i.natAbs<10 ^ 19)|.str x=>decide ((reprText x).length<=20)|.tup c=>SF c|.lst _=>false|.eI=>false|.ref _=>false|.bq _=>false|.fn _ _=>false
noncomputable def SF:List D->Bool
 | []=>true|d::ds=>sm d&&SF ds
end
mutual
noncomputable def nd:D->Nat
 |.tup c=>SG c+1|_=>1
noncomputable def SG:List D->Nat
 | []=>0|d::ds=>nd d+SG ds
end
noncomputable def j8 (nn L:Nat)(t:FG)(c:FT)(e:FE):Nat->Sg->G->Option (List D×G)
 | 0,_,g=>(g[nn]?).bind λh=>if h.length=L then some ([],g)else none|r+1,i,g=>(g[nn]?).bind λh=>if h.length=L then(h[L-(r+1)]?).bind λd=>(t d i g).bind λq=>(c q.1 q.2).bind λk=>if k.1=true then(e q.1 k.2).bind λa=>(j8 nn L t c e r q.1 a.2).bind λz=>some (a.1::z.1,z.2)else j8 nn L t c e r q.1 k.2 else none
noncomputable abbrev pv:=Sg->G->Option (Nat×Nat×G)
noncomputable def Ax (K:KW)(J:It)(H:Hp)(q:Ix)(nn L:Nat):Prop :=
 ∀(i:Nat) g c n,jC H q g c->az K g c n->∀p,n[nn]? = some p->p.length=L->(L<=i->J.stop i g) /\ ∀d,p[i]? = some d->J.go i g /\ ∀x h,J.By i g x h->Ext g c h c/\az K h c n/\Rel K h c d x
inductive Ni (K:KW)(f:pv)(σ:ko)(H:Hp)(R:(It->Hp->Prop)):Prop
 |mk (ι:Ix) (σd:Sg) (g:G) (nn:Nat) (L:Nat) (g':G) (h0:az K H ι g) (h1:bO K H ι σd σ) (h2:f σd g=some (nn,L,g')) (h3:∀H' ι' J,Ext H ι H' ι'->az K H' ι' g'->Ax K J H' ι' nn L->R J H'):Ni K f σ H R
structure He (X:Cx)(tg iter:Expr)(f:pv):Prop where of ::
 un:PI X tg iter (Ni X.kw f)
noncomputable def Fm (f:FE):pv:=λc g=>(f c g).bind λr=>match r.1 with|.ref n=>(r.2[n]?).bind λh=>some (n,h.length,r.2)|_=>none
def Ax.ref {K H ι a n L}(h:eE ι n a false):Ax K (Gs K a) H ι n L:=λi p s u o f B j q=>by obtain⟨g,l,e⟩:=f.at j (o.at h);have b:dD K p a g:=.inl (.inl l);refine⟨λh=>⟨g,b,by rw[<- e.length];lia⟩,λd hd=>?_⟩;obtain⟨v,c,k⟩:=e.get hd;refine⟨⟨g,v,b,c⟩,λx r y=>?_⟩;obtain⟨rfl,y⟩:=y;have:=y g b;rw[c]at this;cases this;exact⟨Ext.refl,f,k⟩
def yz (B:DE X J C):He X e J (Fm C):=.of (PI.imp (x4 B.un) λO H Q h=>by
 obtain⟨R,x,g,nn,L,y,G0,j,h,p⟩:=h;obtain⟨⟨E,U⟩,o,h⟩:=bind_some h;cases E with
 |ref n =>
  obtain⟨Y,i,h⟩:=bind_some h;cases h;refine tD.bind G0 j o λI r v s c u k=>?_;obtain⟨a,rfl,b⟩:=k;obtain⟨f,q,z⟩:=c.at i b;exact⟨a,rfl,⟨f,.inl (.inl q)⟩,p I r _ s c (.ref b)⟩
 |_=>cases h)
noncomputable def ly (mk:List D->G->Option (D×G))(a:pv)(fr:List (Option Nat))(t:FG)(c:FT)(e:FE):FE:=λh g=>(a h g).bind λr=>if aC r.2.1=true then(j8 r.1 r.2.1 t c e r.2.1 (cq fr h) r.2.2).bind λq=>mk q.1 q.2 else none
noncomputable def Nj (a:pv):qA:=λc g=>(a c g).map λr=>(λg=>g[r.1]?,r.2.1,r.2.2)
def yA {v:pv}(h:He X e J v):vM X e J (Nj v):=.of (PI.imp h.un λB H Q q=>by obtain⟨n,f,g,sh,L,s,G0,c,o,p⟩:=q;obtain⟨⟨nn,b,x⟩,k,y⟩:=nP.mp o;cases y;exact⟨n,f,g,nn,b,x,G0,c,k,λr a u l j i=>p r a u l j i⟩)
theorem wg {nn L:Nat}{t:FG}{c:FT}{e:FE}:∀(k:Nat) (h:Sg) (g:G),j8 nn L t c e k h g=dY (λg=>g[nn]?) L t c e k h g
 | 0,h,g=>by simp only[j8,dY]|k+1,h,g=>by simp only[j8,dY,wg k]
def wj {a:pv}:ly R a z t K C=j4 R (Nj a) z t K C:=by
 funext σ g;unfold ly j4 Nj;cases a σ g with
 |none=>rfl|some r=>simp only[k9,F1,wg]
def Fo {u:pv}(i:X.xe=λ_ _=>False)(h:X.calm=true)(ok:eY X U z M)(a:He X e J u)(f:∀c g H n r,DG (bh X U M c g H n r) e t/\gJ (bh X U M c g H n r) B K/\DE (bh X U M c g H n r) p C)(b:∀x,y3 J X.env x=pure x):DE X (.ListComp p [⟨e,J,B,0⟩] M q) (ly bH u z t K C):=by
 rw[wj];exact vP i h ok (yA a) f b
@[simp] def Xa:Fm C h a=(C h a).bind λr=>match r.1 with|.ref c=>(r.2[c]?).bind λg=>some (c,g.length,r.2)|_=>none:=rfl
@[simp] def SH {mk:pv}:ly R mk z t K C h a=(mk h a).bind λr=>if aC r.2.1=true then(j8 r.1 r.2.1 t K C r.2.1 (cq z h) r.2.2).bind λq=>R q.1 q.2 else none:=rfl
def Fp {u:FI}(i:X.xe=λ_ _=>False)(h:X.calm=true)(ok:eY X U z M)(a:DI X e J u)(f:∀c g H n r,DG (bh X U M c g H n r) e t/\gJ (bh X U M c g H n r) B K/\DE (bh X U M c g H n r) p C)(b:∀x,y3 J X.env x=pure x):DE X (.ListComp p [⟨e,J,B,0⟩] M q) (bA jx u z t K C):=by
 rw[oC];exact tL i h ok (nL a) f b
noncomputable def cg:FE:=λ_ _=>none
def bT:DE X e cg:=.of (λi s n H Q I h=>by obtain⟨q,c,g,d,a,G0,b,h,p⟩:=h;cases h)
@[simp] def Vw:cg h a=none:=rfl
end
section
open PyProof.Rows
open Sem (wp)
open Builtin
def baw:fillsNumberSlot (.type "list") "mul" = pure false :=
 afr (id:="list.__mul__") (r:=some (.builtin "list.__rmul__")) F.slot_list_mul.lookup (by decide +kernel) F.slot_list_rmul.lookup (by decide +kernel)
def bax:agm (.type "list")=pure (some (.builtin "list.__mul__")):=by unfold agm;rw[ael (T:="list") (name:="__mul__") (id:="list.__mul__") F.slot_list_mul.lookup (by decide +kernel),ael (T:="list") (name:="__rmul__") (id:="list.__rmul__") F.slot_list_rmul.lookup (by decide +kernel)];rfl
def uA (a:Int)(t:Tok)(l:Addr)(p:Array Value)(n:Nat)(i:Option Addr)(f:Array (Option Value)):
  Meets (sk.«int.__rmul__» ⟨[.int a t,.ref l],[]⟩) (λ_ R s=>s.heap.get? l=some { cls:=.type "list",dict:=i,data:=.seq p n,slots:=f }/\R (.ok (.ret agn)) s):=
 .of_wp λprog w A R s h=>by obtain⟨e,g,d,c,os⟩:=s;obtain⟨b,h⟩:=h;wp_walk;exact⟨_,rfl,h⟩
def CD (l:Addr)(p:Array Value)(n:Nat)(f:Option Addr)(i:Array (Option Value))(x:Int)(u:Tok)(o:¬(!adC x)=true)
  (k:¬p.size*x.toNat>(2 ^ 63-1) / 8) (j:¬ac0 (p.size*x.toNat)=true) (e:p.isEmpty=false) (q:((l6 x.toNat p).foldl (· ++ ·) #[]).size<=lX):
  Meets (sk.«list.__mul__» ⟨[.ref l,.int x u],[]⟩) (λ_ R s=>s.heap.get? l=some { cls:=.type "list",dict:=f,data:=.seq p n,slots:=i }/\R (.ok (.ret (yE s.heap.objs.size))) { s with heap:=s.heap.push { cls:=rn "list",data:=Data.seq ((l6 x.toNat p).foldl (· ++ ·) #[]) },toks:=s.toks }):=
 .of_wp λprog w A R s h=>by
  obtain⟨c,g,d,b,os⟩:=s;obtain⟨a,h⟩:=h;have r:=Z6;have v:=afZ
  wp_walk using L2 a
  exact⟨_,rfl,by rw[if_neg (by simp[e])];exact h⟩
noncomputable def QN (K:KW):R2:=λx y H Q=>∃a k c,x = .ref a/\y = .int k/\dD K H a c/\c ≠ []/\0<=k/\k<2 ^ 62/\c.length*k.toNat<=16777216 /\ ∀p,H p=none->Q (.ref p) (upd H p (.lst (l6 k.toNat c).flatten))
def yB:bQ X (qC .Mult) (QN X.kw):=by
 intro a8 s σ H x y v u Q I p B h;obtain⟨a,k,C,rfl,rfl,hq,E,h1,h2,o,J⟩:=h;cases p;obtain⟨t,rfl⟩:=B;obtain⟨c,r,ht,X4⟩:=I.list hq;have O:=r.length;obtain⟨⟨cls,dd,data,z⟩,n,f,g,l,hd⟩:=id ht;simp only at g hd l;subst g hd l;refine wpAny_binaryOp_repeat_ref (T:="list") (U:="int") (by decide) ⟨_,f,rfl⟩ (λR=>afo R k t) baw F.fills_int_mul F.slot_int_rmul bax F.slot_int_index.lookup
   (Of F.slot_int_rmul (afo s k t) F.entry_int_rmul (F.args_int_rmul_2 _ _) (uA k t a c.toArray n none z) ⟨f,rfl,⟨_,f,rfl⟩,?_⟩)
 have Y:c ≠ []:=λe=>E (by subst e;cases r;rfl);have fresh:H s.heap.objs.size=none:=I.aV.fresh (lb _);have q:ahx (λZ x2=>Z++x2) #[] (l6 k.toNat c.toArray)=(l6 k.toNat c).flatten.toArray:=by have:=bal c k.toNat [];rw[OQ]at this;exact this
 have i:lX=16777216:=Hy;have j:c.length*k.toNat<=16777216:=by rw[<- O];exact o
 have Vx:¬(!adC k)=true:=by unfold adC;simp;lia
 have QO:¬ac0 (c.toArray.size*k.toNat)=true:=by rw[EH (by rw[m3,i];exact j)];simp
 refine Of F.slot_list_mul ⟨_,f,rfl⟩ F.entry_list_mul (F.args_list_mul_2 _ _) (CD a c.toArray n none z k t Vx (by rw[m3];lia) QO (by simp[Y]) ?_) ⟨f,?_⟩
 . rw[q,m3,len_rep,TR,i];exact j
 . rw[q]
   refine⟨.ref _,_,I.laid (t':=s.toks) (λb u e=>mn _ e) (lb _) (show eA X.prog X.w _ _ _ (.lst (l6 k.toNat C).flatten) from⟨by rw[len_rep,TR,i];exact o,_,0,r.rep k.toNat,n3 _ rfl⟩),rfl,J _ fresh⟩
noncomputable def oM (b a:D)(g:G):Option (D×G):=match b,a with
 |.lst c,.int k=>if(!c.isEmpty&&decide (0<=k)&&fQ k&&aC (c.length*k.toNat))=true then some (.lst (l6 k.toNat c).flatten,g)else none|b,a=>bJ b a g
def JH:bQ X (qC .Mult) (dW X.kw oM):=by
 intro n s B H x y v u Q I i j q;obtain⟨C,g,o,E,d,J,G0,c,f,q,p⟩:=q;unfold oM at q;split at q
 . rename_i U k
   split at q
   . rename_i z
     simp only[la,decide_eq_true_eq,vR]at z;cases q;simp only[Rel]at c f;subst f;obtain⟨a,r,rfl,hq,h⟩:=c;have O:=fQ.and z.1.2;have l:=aC.le z.2;rw[Hy]at l;refine yB n s B H _ _ v u Q I i j ⟨a,k,r,rfl,rfl,hq.sq,?_,z.1.1.2,O.2,by rw[<- h.length];exact l,λR b=>?_⟩
     . intro e
       subst e;have:=h.length;simp at this;subst this;simp at z
     . refine p _ _ _ (Ext.lay b) (G0.lay b) ?_
       simp only[Rel];exact⟨R,_,rfl,.inl ⟨.inl aQ,G0.fresh b,G0.ia b⟩,ak.ext (Ext.lay b) _ (h.rep _)⟩
   . cases q
 . exact vU n s B H x y v u Q I i j ⟨C,g,o,E,d,J,G0,c,f,q,p⟩
@[simp] def SM {j:Int}:oM (.int I) (.int j) a=if cu I j=true then some (.int (I*j),a)else none:=rfl
@[simp] def SN:oM (.tup r) (.int I) a=bJ (.tup r) (.int I) a:=rfl
@[simp] def SO:oM (.lst r) (.int I) a=if(!r.isEmpty&&decide (0<=I)&&fQ I&&aC (r.length*I.toNat))=true then some (.lst (l6 I.toNat r).flatten,a)else none:=rfl
end
section
open PyProof.Rows
def Nk {c:Addr}{p:List V}(I:jo X b v H s)(r:fS X b H c)(i:dD X.kw H f p):f≠c:=λz=>by
 subst z;obtain⟨u,x,y,e,B,h⟩:=r;rcases i with i|⟨o,av,n,hk,_⟩
 . rcases i with i|⟨o,i⟩<;>rw[u]at i<;>cases i
 . have g:X.base.get? f=some o:=I.ok.mod.kW f o hk
   rcases e with q|q
   . exact I.ok.pH f o g q
   . exact Ac _ (sY (mA (I.ok.bs f o g).1) q)
end
section
open PyProof.Rows SeqAt
variable {U:Array qb}{T:Ix}
noncomputable def gv (s:j0)(m:Nat)(u:Value):Prop:=∀(prog:p9) (w:World) (A:nc) (E:Value->j0->Prop) (Q:Bool->j0->Prop),Q true s->wpAny (model prog w) A (afS m u) Q E s
structure Hf (A:nc)(s:j0)(key:Value)(h:Int)(es:Array qb)(t:Nat->Bool):Prop where
 eq:∀i e,es[i]? = some e->e.hash=h->EqAt A s e.key key (t i)
 hs:∀i e,es[i]? = some e->t i=true->e.hash=h
 qk:gv s 8 key
 qe:∀e∈es,gv s 8 e.key
 rf:∀e∈es,e.key=key->e.hash=h
 un:∀i j,i<es.size->j<es.size->t i=true->t j=true->i=j
 st:∀x tk,key = .str x tk->∀i e,es[i]? = some e->isExactStrKey e.key=true->e.key.isStr x=t i
def pR {Q:Bool->j0->Prop}(f:gv s 8 Z)(e:∀v∈Y,gv s 8 v)(q:Q false s):wpAny (model k u) O (tableMayTell Z Y) Q E s:=by
 unfold tableMayTell;split
 . exact kn q
 refine jg (f k u _ _ _ ?_);simp only[XI,pA,if_false];refine jg (YK _ (λrest r z=>z=s/\r=(none,()) /\ ∀v∈rest,gv s 8 v) _ ?_ ?_ _ _ ⟨rfl,rfl,e⟩)
 . rintro x rest r z ⟨rfl,rfl,a⟩
   refine jg (a x qc k u _ _ _ ?_);simp only[XI,pA,if_false];exact kn ⟨rfl,rfl,λv b=>a v (nW _ b)⟩
 . rintro r z ⟨rfl,rfl,_⟩
   exact kn q
def mh:i∈z_ U.size (λi=>U[i]?.map (·.hash)) I ↔ ∃e,U[i]? = some e/\e.hash=I:=by
 unfold z_;simp only[ro,Cn,beq_iff_eq,nP];constructor
 . rintro⟨_,e,a,b⟩;exact⟨e,a,b⟩
 . rintro⟨e,a,b⟩;exact⟨(acP.mp a).1,e,a,b⟩
def wk {es:Array qb}{h:Int}:(z_ es.size (λi=>es[i]?.map (·.hash)) h).Nodup:=by unfold z_;exact aem.sublist Nx
def rY {o:Obj}{es:Array qb}{h:Int}{t:Nat->Bool}{Q:Option Nat->j0->Prop}(C:s.heap.get? f=some o)(B:o.data = .dict es i)(K:Hf O s Z h es t)(I:(∀prog,prog<es.size->t prog=false)->Q none s)(H:∀prog,prog<es.size->t prog=true->Q (some prog) s):
  wpAny (model k u) O (dictFind f Z h) Q E s:=by
 have none_of:(∀prog∈z_ es.size (λprog=>es[prog]?.map (·.hash)) h,t prog=false)->Q none s:=λz=>I λprog c=>by
  cases ht:t prog with
  |false=>rfl
  |true =>
    have w:=F7 c;rw[z prog (mh.mpr ⟨_,w,K.hs prog _ w ht⟩)]at ht;cases ht
 have gen:∀tells:Bool,tells=false->wpAny (model k u) O (do
    let mut n:Option Nat:=none
    for prog in z_ es.size (λprog=>es[prog]?.map (·.hash)) h do
      if let some e:=es[prog]? then
        if e.hash == h then
          let before <- dictEpoch f (keyPart Z);let same <- eqBool e.key Z
          if(<- dictEpoch f (keyPart Z)) != before then unsupported "dict.changed-during-lookup"
          if same then
            if n.isSome then unsupported "dict.find:order-among-keys-of-one-hash"
            rule "dict.find.hit"
            if((z_ es.size (λprog=>es[prog]?.map (·.hash)) h).filterMap λprog=>es[prog]?.map (·.key)).length<2 then return some prog
            n:=some prog
          else
            rule "dict.find.same-hash-other-key"
            if tells && !(0<=h&&h<32)then unsupported "dict.find:asked-again-or-not-hangs-on-the-table"
    return n) Q E s:=λtells U=>by
  subst U
  refine jg (YK _ (λrest (b:Option (Option Nat)×Option Nat) z=>z=s /\ ∃done,z_ es.size (λprog=>es[prog]?.map (·.hash)) h=done++rest/\b.1=none /\
    ((b.2=none /\ ∀prog∈done,t prog=false) \/ ∃prog,b.2=some prog/\prog∈done/\prog<es.size/\t prog=true)) _ ?_ ?_ _ _ ⟨rfl,[],rfl,rfl,.inl ⟨rfl,λprog z=>by simp at z⟩⟩)
  . rintro x rest ⟨Y,n⟩ z ⟨rfl,done,d,rfl,j⟩
    have A:x∈z_ es.size (λprog=>es[prog]?.map (·.hash)) h:=by rw[d];simp
    obtain⟨e,g,q⟩:=mh.mp A;have r:x<es.size:=(acP.mp g).1
    have J:z_ es.size (λprog=>es[prog]?.map (·.hash)) h=(done ++ [x])++rest:=by rw[d];simp
    rw[g];dsimp only at j ⊢;rw[if_pos (by simpa using q)];refine jg (Xp C B (jg (K.eq x e g q k u _ _ (jg (Xp C B ?_)))));rw[if_neg (by simp)];cases ht:t x with
    |true =>
      have p:n=none:=by
        rcases j with⟨p,_⟩|⟨prog,_,c,pj,jm⟩
        . exact p
        . have:=K.un prog x pj r jm ht
          subst this;have nd:=wk (es:=es) (h:=h);rw[d,Qs]at nd;exact absurd rfl (nd.2.2 prog c prog qc)
      subst p;simp only[if_true,agO,pA,if_false];try refine jg (kn ?_)
      refine jg (yn ?_);split
      . exact kn (kn (H x r ht))
      . exact kn ⟨rfl,done ++ [x],J,rfl,.inr ⟨x,rfl,by simp,r,ht⟩⟩
    |false =>
      simp only[pA,if_false,ahL];refine jg (yn ?_);refine kn ⟨rfl,done ++ [x],J,rfl,?_⟩;rcases j with⟨p,hz⟩|⟨prog,l,c,pj,jm⟩
      . exact .inl ⟨p,λprog c=>by
          rcases mF.mp c with c|c
          . exact hz prog c
          . simp at c;subst c;exact ht⟩
      . exact .inr ⟨prog,l,mF.mpr (.inl c),pj,jm⟩
  . rintro⟨Y,n⟩ z ⟨rfl,done,d,rfl,j⟩
    dsimp only at j ⊢;refine kn ?_;rcases j with⟨rfl,hz⟩|⟨prog,rfl,_,pj,jm⟩
    . exact none_of (by rw[d];simpa using hz)
    . exact H prog pj jm
 have plain:wpAny (model k u) O (dictWalkPlain f Z h es (z_ es.size (λprog=>es[prog]?.map (·.hash)) h)) Q E s:=by
  unfold dictWalkPlain
  refine jg (YK _ (λrest b z=>z=s /\ ∃done,z_ es.size (λprog=>es[prog]?.map (·.hash)) h=done++rest/\b=(none,()) /\ ∀prog∈done,t prog=false) _ ?_ ?_ _ _ ⟨rfl,[],rfl,rfl,λprog z=>by simp at z⟩)
  . rintro x rest b z ⟨rfl,done,d,rfl,j⟩
    have A:x∈z_ es.size (λprog=>es[prog]?.map (·.hash)) h:=by rw[d];simp
    obtain⟨e,g,q⟩:=mh.mp A;have r:x<es.size:=(acP.mp g).1;rw[g];dsimp only;rw[if_pos (by simpa using q)];refine jg (Xp C B (jg (K.eq x e g q k u _ _ (jg (Xp C B ?_)))));rw[if_neg (by simp)];cases ht:t x with
    |true =>
      simp only[if_true];refine jg (yn ?_);exact kn (kn (H x r ht))
    |false =>
      simp only[pA,if_false];refine jg (yn ?_);refine kn ⟨rfl,done ++ [x],by rw[d];simp,rfl,λprog c=>?_⟩;rcases mF.mp c with c|c
      . exact j prog c
      . simp at c;subst c;exact ht
  . rintro b z ⟨rfl,done,d,rfl,j⟩
    exact kn (none_of (by rw[d];simpa using j))
 have keys:∀v∈(z_ es.size (λprog=>es[prog]?.map (·.hash)) h).filterMap (λprog=>es[prog]?.map (·.key)),gv s 8 v:=λv hv=>by obtain⟨prog,_,c⟩:=OW.mp hv;obtain⟨e,g,rfl⟩:=nP.mp c;exact K.qe e (aer g)
 unfold dictFind;refine sZ ?_;refine jg (afi C B ?_);cases Z with
 |str x tk =>
  refine zX (λnD=>?_) (λ_=>?_)
  . unfold foundByValue
    have R:∀prog e,es[prog]? = some e->e.key.isStr x=t prog:=λprog e g=>K.st x tk rfl prog e g (Array.all_eq_true_iff_forall_mem.mp nD e (aer g))
    cases hf:es.findIdx? (·.key.isStr x)with
    |none =>
      refine kn (I λprog c=>?_);rw[<- R prog _ (F7 c)];simpa using (Array.findIdx?_eq_none_iff.mp hf) es[prog] (afg c)
    |some prog =>
      obtain⟨c,l,_⟩:=Array.findIdx?_eq_some_iff_getElem.mp hf;have w:=F7 c;rw[R prog _ w]at l;dsimp only;rw[w];refine jg (Xp C B (jg (K.eq prog _ w (K.hs prog _ w l) k u _ _ (jg (Xp C B ?_)))));refine zX (λz=>by simp at z) (λ_=>?_);rw[l];exact jg (yn (kn (H prog c l)))
  . refine zX (λ_=>plain) (λ_=>?_)
    refine zX (λ_=>jg (kn ?_)) (λ_=>jg (pR K.qk keys ?_))<;>
      exact zX (λz=>by simp at z) (λ_=>gen false rfl)
 |ref a =>
  refine zX (λz=>by simp[carriedByValue]at z) (λ_=>?_);refine zX (λz=>?_) (λ_=>?_)
  . rw[<- Array.any_toList,aek]at z
    obtain⟨e,g,y⟩:=z;simp only[la,beq_iff_eq,bne_iff_ne,ne_eq]at y;exact absurd (K.rf e (Array.mem_toList_iff.mp g) y.1) y.2
  . refine zX (λ_=>jg (kn ?_)) (λ_=>jg (pR K.qk keys ?_))<;>
      exact zX (λz=>by simp at z) (λ_=>gen false rfl)
 |_ =>
  refine zX (λ_=>plain) (λ_=>?_);refine zX (λ_=>jg (kn ?_)) (λ_=>jg (pR K.qk keys ?_))<;>
    exact zX (λz=>by simp at z) (λ_=>gen false rfl)
section
variable {ι:Ix}
mutual
theorem qK:∀(d:D) {n:Nat} {s:j0} {A:nc} {x:V} {u:Value} {Q:Int->j0->Prop},jo X b v H s->aO n d=true->Rel X.kw H ι d x->kr x u->A.units+n<cLine ->
  (∀B,Q (hD X.w d) { s with toks:=B })->wpAny (model k X.w) A (pyHash u) Q E s
 |.ay,n,s,A,x,u,Q,I,g,r,p,hu,q=>by cases r;cases p;simp only[hD]at q;exact agC (T:="NoneType") rfl F.slot_NoneType_hash F.entry_NoneType_hash (F.args_NoneType_hash_1 _) (afH _) (.inr (by lia)) (jg (kn (jg (wpAny_mkInt (kn ⟨_,_,rfl,q _⟩)))))|.int i,n,s,A,x,u,Q,I,g,r,p,hu,q=>by cases r;obtain⟨t,rfl⟩:=p;simp only[hD]at q;exact wpAny_pyHash_int (q _)
 |.str y,n,s,A,x,u,Q,I,g,r,p,hu,q=>by cases r;obtain⟨t,rfl⟩:=p;simp only[hD]at q;exact wpAny_pyHash_str (q _)
 |.tup O,n+1,s,A,x,u,Q,I,g,r,p,hu,q=>by obtain⟨a,z,rfl,R,j⟩:=r;cases p;obtain⟨Z,l,⟨o,c,f,m,e⟩,_⟩:=I.tuple R.sq;simp only[hD]at q;simp only[aO]at g;refine agC (T:="tuple") ⟨o,c,f⟩ F.slot_tuple_hash F.entry_tuple_hash (F.args_tuple_hash_1 _) (afH _) (.inr (by lia)) ?_;show wpAny _ _ (acO (.ref a) >>= _) _ _ s;refine jg (wpAny_tupleItemsOf c e (jg ?_));rw[<- agP];refine yC O (acc:=#[]) I g j l (by rw[in1_units];lia) λB prog h=>?_;show wpAny _ _ (retInt (afp prog.toList)) _ _ _;rw[h];exact jg (wpAny_mkInt (kn ⟨_,_,rfl,q _⟩))
 |.tup O,0,s,A,x,u,Q,I,g,r,p,hu,q=>by simp[aO]at g|.bl _,n,s,A,x,u,Q,I,g,r,p,hu,q=>by simp[aO]at g|.lst _,n,s,A,x,u,Q,I,g,r,p,hu,q=>by simp[aO]at g|.eI,n,s,A,x,u,Q,I,g,r,p,hu,q=>by simp[aO]at g|.ref _,n,s,A,x,u,Q,I,g,r,p,hu,q=>by simp[aO]at g|.bq _,n,s,A,x,u,Q,I,g,r,p,hu,q=>by simp[aO]at g|.fn _ _,n,s,A,x,u,Q,I,g,r,p,hu,q=>by simp[aO]at g
theorem yC:∀(ds:List D) {n:Nat} {s:j0} {A:nc} {C:List V} {J:List Value} {acc:Array Int} {Q:Array Int->j0->Prop},jo X b v H s->jX n ds=true->ak X.kw H ι ds C->Vals C J->A.units+n<cLine ->
  (∀B prog,prog.toList=acc.toList++B2 X.w ds->Q prog { s with toks:=B }) ->
  wpAny (model k X.w) A (forIn J acc λx r=>do let h <- pyHash x;pure PUnit.unit;pure (T1 (r.push h))) Q E s
 | [],n,s,A,C,J,acc,Q,I,g,r,p,hu,q=>by cases r;cases p;exact kn (q s.toks acc (by simp[B2]))
 |d::ds,n,s,A,C,J,acc,Q,I,g,r,p,hu,q=>by
  obtain⟨R,i,rfl,e,f⟩:=r;simp only[jX,la]at g;cases p with
  |cons U Y =>
   rw[aeF];refine jg (jg (qK d I g.1 e U hu λB=>jg (kn (kn ?_))));exact yC ds (I.tok B) g.2 f Y hu λc prog a=>q c prog (by simp[a,B2])
end
end
mutual
theorem rZ:∀(d:D) {n m:Nat} {s:j0} {x:V} {u:Value},jo X b v H s->aO n d=true->n<=m->Rel X.kw H T d x->kr x u->gv s m u
 |.ay,n,m,s,x,u,I,g,hm,r,p=>by cases r;cases p;intro k w A E Q q;unfold afS;exact kn q|.int i,n,m,s,x,u,I,g,hm,r,p=>by cases r;obtain⟨t,rfl⟩:=p;intro k w A E Q q;unfold afS;exact kn q
 |.str y,n,m,s,x,u,I,g,hm,r,p=>by cases r;obtain⟨t,rfl⟩:=p;intro k w A E Q q;unfold afS;exact kn q
 |.tup R,n+1,m,s,x,u,I,g,hm,r,p=>by
  obtain⟨a,J,rfl,hq,B⟩:=r;cases p;obtain⟨U,l,⟨o,f,h2,z,Y⟩,_⟩:=I.tuple hq.sq;simp only[aO]at g;intro k w A E Q q;have h:s.TypeIs (.ref a) "tuple":=⟨o,f,h2⟩
  obtain⟨m,rfl⟩:∃j,m=j+1:=⟨m-1,by lia⟩
  unfold afS;refine jg (afQ h F.slot_tuple_eq.lookup ?_);show wpAny _ _ (isInstance (.ref a) (.type "tuple") >>= _) _ _ s;refine jg (aei h isSubtype_tuple_tuple ?_);simp only[XI,pA,if_false];refine jg (Uo f Y (jg ?_));show wpAny _ _ (forIn U.toArray _ _) _ _ s;rw[<- agP];have Z:=wm R (m:=m) I g (by lia) B l;refine YK _ (λrest r c=>r.1=none/\c=s /\ ∀C∈rest,gv s m C) _ ?_ ?_ _ _ ⟨rfl,rfl,Z⟩
  . rintro C rest r c ⟨B,rfl,e⟩
    refine jg (e C qc k w _ _ _ ?_);simp only[XI,pA,if_false];exact kn ⟨rfl,rfl,λu Yi=>e u (nW _ Yi)⟩
  . rintro⟨r1,r2⟩ c ⟨B,rfl,_⟩
    simp only at B;subst B;exact kn q
 |.tup R,0,m,s,x,u,I,g,hm,r,p=>by simp[aO]at g|.bl _,n,m,s,x,u,I,g,hm,r,p=>by simp[aO]at g|.lst _,n,m,s,x,u,I,g,hm,r,p=>by simp[aO]at g|.eI,n,m,s,x,u,I,g,hm,r,p=>by simp[aO]at g|.ref _,n,m,s,x,u,I,g,hm,r,p=>by simp[aO]at g|.bq _,n,m,s,x,u,I,g,hm,r,p=>by simp[aO]at g|.fn _ _,n,m,s,x,u,I,g,hm,r,p=>by simp[aO]at g
theorem wm:∀(ds:List D) {n m:Nat} {s:j0} {J:List V} {O:List Value},jo X b v H s->jX n ds=true->n<=m->ak X.kw H T ds J->Vals J O->∀C∈O,gv s m C
 | [],n,m,s,J,O,I,g,hm,r,p=>by cases r;cases p;intro C a;simp at a
 |d::ds,n,m,s,J,O,I,g,hm,r,p=>by
  obtain⟨C,e,rfl,a,c⟩:=r;simp only[jX,la]at g;cases p with
  |cons r0 rr =>
   intro z B;rcases l2.mp B with rfl|B
   . exact rZ d I g.1 hm a r0
   . exact wm ds I g.2 hm c rr z B
end
mutual
theorem j9:∀(d:D) {n:Nat},aO n d=true->flat d=true/\dep d<=n
 |.ay,n,h=>⟨rfl,rb _⟩|.int _,n,h=>⟨rfl,rb _⟩|.str _,n,h=>⟨rfl,rb _⟩|.tup g,n+1,h=>by simp only[aO]at h;obtain⟨a,b⟩:=tO g h;exact⟨a,by simp only[dep];lia⟩
 |.tup g,0,h=>by simp[aO]at h|.bl _,n,h=>by simp[aO]at h|.lst _,n,h=>by simp[aO]at h|.eI,n,h=>by simp[aO]at h|.ref _,n,h=>by simp[aO]at h|.bq _,n,h=>by simp[aO]at h|.fn _ _,n,h=>by simp[aO]at h
theorem tO:∀(ds:List D) {n:Nat},jX n ds=true->bC ds=true/\dA ds<=n
 | [],n,h=>⟨rfl,rb _⟩|d::ds,n,h=>by simp only[jX,la]at h;obtain⟨a,b⟩:=j9 d h.1;obtain⟨c,e⟩:=tO ds h.2;exact⟨by simp[bC,a,c],by simp only[dA];lia⟩
end
mutual
theorem fX:∀(d e:D) {n m:Nat},aO n d=true->aO m e=true->(bB d e=true ↔ d=e)
 |.ay,e,n,m,h,k=>by cases e<;>simp_all[aO,bB]|.int _,e,n,m,h,k=>by cases e<;>simp_all[aO,bB]|.str _,e,n,m,h,k=>by cases e<;>simp_all[aO,bB]
 |.tup g,e,n+1,m,h,k=>by
  cases e with
  |tup i =>
   cases m with
   |zero=>simp[aO]at k
   |succ m =>
    simp only[aO]at h k;simp only[bB,D.tup.injEq];exact yD g i h k
  |_=>simp_all[aO,bB]
 |.tup g,e,0,m,h,k=>by simp[aO]at h|.bl _,e,n,m,h,k=>by simp[aO]at h|.lst _,e,n,m,h,k=>by simp[aO]at h|.eI,e,n,m,h,k=>by simp[aO]at h|.ref _,e,n,m,h,k=>by simp[aO]at h|.bq _,e,n,m,h,k=>by simp[aO]at h|.fn _ _,e,n,m,h,k=>by simp[aO]at h
theorem yD:∀(ds c:List D) {n m:Nat},jX n ds=true->jX m c=true->(gK ds c=true ↔ ds=c)
 | [],c,n,m,h,k=>by cases c<;>simp[gK]|d::ds,[],n,m,h,k=>by simp[gK]|d::ds,e::c,n,m,h,k=>by simp only[jX,la]at h k;simp only[gK,la,List.cons.injEq,fX d e h.1 k.1,yD ds c h.2 k.2]
end
end
section
noncomputable def bz:List D->D->Option D
 |k::v::r,c=>if bB k c=true then some v else bz r c|_,_=>none
noncomputable def bb:List D->D->D->List D
 |k::v::r,c,val=>if bB k c=true then k::val::r else k::v::bb r c val|_,c,val=>[c,val]
noncomputable def tq:List D->D->Nat->Bool
 |k::_::_,c,0=>bB k c|_::_::r,c,i+1=>tq r c i|_,_,_=>false
end
section
open PyProof.Rows SeqAt
variable {j T:List qb}{Y:Ix}{m:D->List D->G->Option (D×G)}{U y:V}{R K:String}{Q:D}{M:D->Bool}{I:Pos}{u:Value}
inductive Ent (K:KW)(H:Hp)(ι:Ix):List D->List qb->Prop
 |nil:Ent K H ι [] []
 |cons {k v:D} {kv vv:V} {r:List D} {e:qb} {es:List qb}:aO 6 k=true->e.hash=hD K.w k->Rel K H ι k kv->kr kv e.key->Rel K H ι v vv->kr vv e.val->Ent K H ι r es->Ent K H ι (k::v::r) (e::es)
theorem Ent.of {K H ι}:∀{p:List qb} {n:List D} {q:List V},Vals q (qu p)->jY K.w n p->ak K H ι n q->Ent K H ι n p
 | [],n,q,g,h,r=>by cases h;exact .nil
 |e::p,n,q,g,h,r=>by
  cases h with
  |cons h1 h2 u =>
   obtain⟨a,k,rfl,i,b,j,rfl,c,f⟩:=r;cases g with
   |cons v g=>cases g with
    |cons x g=>exact .cons h1 h2 i v c x (Ent.of g u f)
theorem Ent.out {K H ι}:∀{i:List qb} {g:List D},Ent K H ι g i->jY K.w g i /\ ∃n,Vals n (qu i)/\ak K H ι g n
 | [],g,h=>by cases h;exact⟨.nil,[],.nil,by simp[ak]⟩
 |e::i,g,h=>by
  cases h with
  | @cons k v p q r _ _ h1 h2 u x y B C =>
   obtain⟨a,n,b,c⟩:=C.out;refine⟨.cons h1 h2 a,p::q::n,.cons x (.cons B b),?_⟩;simp only[ak];exact⟨p,_,rfl,u,q,_,rfl,y,c⟩
theorem Ent.at {K H ι}:∀{r:List qb} {n:List D} {i:Nat} {e:qb},Ent K H ι n r->r[i]? = some e->∃k p,aO 6 k=true/\(cO n)[i]? = some k/\e.hash=hD K.w k/\Rel K H ι k p/\kr p e.key /\ ∀g,tq n g i=bB k g
 | [],n,i,e,h,q=>by simp at q
 |y::r,n,i,e,h,q=>by
  cases h with
  |cons h1 h2 u v B C x =>
   cases i with
   |zero=>simp at q;subst q;exact⟨_,_,h1,rfl,h2,u,v,λ_=>rfl⟩
   |succ i =>
    obtain⟨k,p,a,b,c,d,j,f⟩:=x.at (i:=i) (by simpa using q);exact⟨k,p,a,by simpa[cO]using b,c,d,j,λg=>f g⟩
theorem Ent.len {K H ι}:∀{g:List qb} {c:List D},Ent K H ι c g->(cO c).length=g.length
 | [],c,h=>by cases h;rfl
 |e::g,c,h=>by
  cases h with
  |cons h1 h2 n p q r i=>simp[cO,i.len]
theorem Ent.none_ {K H ι}:∀{n:List qb} {g:List D} {key:D},Ent K H ι g n->(∀i,i<n.length->tq g key i=false)->bz g key=none /\ ∀v,bb g key v=g ++ [key,v]
 | [],g,key,h,q=>by cases h;exact⟨rfl,λ_=>rfl⟩
 |e::n,g,key,h,q=>by
  cases h with
  |cons h1 h2 r u x y p =>
   have c:=q 0 (by simp);simp only[tq]at c;obtain⟨a,b⟩:=p.none_ (key:=key) λi f=>by have:=q (i+1) (by simpa using f);simpa[tq]using this
   exact⟨by simp[bz,c,a],λv=>by simp[bb,c,b]⟩
theorem Ent.uO {K H ι}{key:D}:∀{p:List qb} {n:List D} {i:Nat},Ent K H ι n p->i<p.length->tq n key i=true->(∀j,j<p.length->tq n key j=true->j=i) ->
  ∃e v C,p[i]? = some e/\bz n key=some v/\Rel K H ι v C/\kr C e.val/\cO (bb n key v)=cO n /\
   ∀(w:D) (B:V) (u:Value),Rel K H ι w B->kr B u->Ent K H ι (bb n key w) (p.modify i λe=>{ e with val:=u })/\cO (bb n key w)=cO n
 | [],n,i,h,E,q,un=>by simp at E
 |U::p,n,i,h,E,q,un=>by
  cases h with
  | @cons k v kv C r _ _ h1 h2 I J O Q R =>
   cases i with
   |zero =>
    simp only[tq]at q;refine⟨U,v,C,rfl,by simp[bz,q],O,Q,by simp[bb,q,cO],λw B u l s=>⟨?_,by simp[bb,q,cO]⟩⟩;simp only[bb,q,if_true,List.modify_zero_cons];exact .cons h1 h2 I J l s R
   |succ i =>
    have o:bB k key=false:=by
     cases Y:bB k key with
     |false=>rfl|true=>exact absurd (un 0 (by simp) (by simpa[tq]using Y)) (by lia)
    obtain⟨e,Z,y,a,b,c,d,f,g⟩:=R.uO (i:=i) (by simpa using E) (by simpa[tq]using q) λj x z=>by have:=un (j+1) (by simpa using x) (by simpa[tq]using z);lia
    refine⟨e,Z,y,by simpa using a,by simp[bz,o,b],c,d,by simp[bb,o,cO,f],λw B u l s=>?_⟩;obtain⟨g1,g2⟩:=g w B u l s;simp only[bb,o,pA,if_false,List.modify_succ_cons];exact⟨.cons h1 h2 I J O Q g1,by simp[cO,g2]⟩
theorem Ent.push {K H ι}{k v:D}{r l:V}{e:qb}(f:aO 6 k=true)(q:e.hash=hD K.w k)(i:Rel K H ι k r)(c:kr r e.key)(j:Rel K H ι v l)(o:kr l e.val):
  ∀{n:List qb} {g:List D},Ent K H ι g n->Ent K H ι (g ++ [k,v]) (n ++ [e])/\cO (g ++ [k,v])=cO g ++ [k]
 | [],g,h=>by cases h;exact⟨.cons f q i c j o .nil,rfl⟩
 |I::n,g,h=>by
  cases h with
  |cons p u x y B C E =>
   obtain⟨a,b⟩:=Ent.push f q i c j o E;exact⟨.cons p u x y B C a,by simp[cO,b]⟩
def CF (I:jo X b v H s){A:nc}(j:flat c=true)(l:flat Q=true)(g:Rel X.kw H Y c U)(o:Rel X.kw H Y Q y)(i:kr U u)(k:kr y Z)(hu:A.units+dep c<cLine):EqAt A s u Z (bB c Q):=by refine qE (GZ I c Q (A:=A) j l g o i k hu).1 (λa=>?_) (λe t d=>Rel.yq g (by rw[d]at i;exact i));subst a;have h:=i.inj k;subst h;have f:=Rel.inj I c Q j l g o;subst f;exact j6 c j
def lz (I:jo X b v H s){A:nc}(hu:A.units+8<cLine)(en:Ent X.kw H Y r j)(nd:(cO r).Nodup)(C:aO 6 c=true)(es:Rel X.kw H Y c U)(B:kr U u):
  Hf A s u (hD X.w c) j.toArray (tq r c) where
 eq:=λi e he hh=>by obtain⟨k,o,a,key,xs,d,f,g⟩:=en.at (i:=i) (by simpa using he);rw[g c];obtain⟨f1,f2⟩:=j9 k a;exact CF I f1 (j9 c C).1 d es f B (by lia)
 hs:=λi e he ht=>by obtain⟨k,o,a,key,xs,d,f,g⟩:=en.at (i:=i) (by simpa using he);rw[g c]at ht;rw[xs,(fX k c a C).mp ht]
 qk:=rZ c I C (by lia) es B
 qe:=λe he=>by obtain⟨i,l⟩:=aes.mp (by simpa using he);obtain⟨k,o,a,key,xs,d,f,g⟩:=en.at l;exact rZ k I a (by lia) d f
 rf:=λe he ek=>by obtain⟨i,l⟩:=aes.mp (by simpa using he);obtain⟨k,o,a,key,xs,d,f,g⟩:=en.at l;rw[ek]at f;have:=f.inj B;subst this;rw[xs,Rel.inj I k c (j9 k a).1 (j9 c C).1 d es]
 un:=λi a8 l hj ti tj=>by
  obtain⟨e,he⟩:∃e,j[i]? = some e:=⟨_,lC (by simpa using l)⟩
  obtain⟨e',wo⟩:∃e,j[a8]? = some e:=⟨_,lC (by simpa using hj)⟩
  obtain⟨k,o,a,key,xs,d,f,g⟩:=en.at he;obtain⟨k',Yk,a',x,c',d',f',g'⟩:=en.at wo;rw[g c]at ti;rw[g' c]at tj;rw[(fX k c a C).mp ti]at key;rw[(fX k' c a' C).mp tj]at x;exact(afj (l8.mp key).1 nd).mp (key.trans x.symm)
 st:=λy tk e0 i e he h=>by
  subst e0;obtain⟨k,o,a,key,xs,d,f,g⟩:=en.at (i:=i) (by simpa using he);rw[g c];have kx:c = .str y:=by
   cases c with
   |str z=>cases es;obtain⟨t,q⟩:=B;cases q;rfl
   |ay=>cases es;cases B|int z=>cases es;obtain⟨t,q⟩:=B;cases q
   |tup z=>obtain⟨_,_,rfl,_⟩:=es;cases B
   |_=>simp[aO]at C
  subst kx;cases k with
  |str z =>
   cases d;obtain⟨t,q⟩:=f;rw[q];simp only[Value.isStr,bB]
  |ay=>cases d;rw[f]at h;cases h|int z=>cases d;obtain⟨t,q⟩:=f;rw[q]at h;cases h
  |tup z=>obtain⟨_,_,rfl,_⟩:=d;rw[show e.key=_ from f]at h;cases h
  |_=>simp[aO]at a
def CG (I:jo X b v H s)(c:H f=some (dO f j i)):s.heap.get? f=some { cls:=.type "dict",data:=.dict j.toArray (j.length-i) }:=
 (show eA X.prog X.w H s.heap f (dO f j i) from I.aV f _ c).1
def uP (I:jo X b v H s)(c:H f=some (dO f j i)):∃g,s.heap.get? f=some { cls:=.type "dict",data:=.dict j.toArray g }:=⟨_,CG I c⟩
def Ay (I:jo X b v H s)(c:H f=some (dO f j i)):s.TypeIs (.ref f) "dict":=by obtain⟨_,h⟩:=uP I c;exact⟨_,h,rfl⟩
def tP {A:nc}{key:D}(I:jo X b v H s)(hu:A.units+8<cLine)(M:H f=some (dO f j i))(g:Ent X.kw H Y r j)(nd:(cO r).Nodup)(C:aO 6 key=true)(O:Rel X.kw H Y key U)(B:kr U u){Q:Option Value->j0->Prop}(J:bz r key=none->∀c,Q none { s with toks:=c })(L:∀a,bz r key=some a->∀c n z,Rel X.kw H Y a n->kr n z->Q (some z) { s with toks:=c }):wpAny (model X.prog X.w) A (T6 f u) Q E s:=by
 obtain⟨ep,h⟩:=uP I M;unfold T6;refine sZ (jg (qK key I C O B (by lia) λc=>jg (rY (s:={ s with toks:=c }) h rfl (lz (I.tok c) hu g nd C O B) (λz=>?_) (λp x R=>?_))))
 . exact kn (J (g.none_ λp x=>z p (by simpa using x)).1 c)
 . have K:=lz (I.tok c) hu g nd C O B (A:=A)
   obtain⟨e,a,n,y,l,k,o,_⟩:=g.uO (key:=key) (by simpa using x) R λZ q z=>(K.un p Z x (by simpa using q) R z).symm;refine jg (afi (s:={ s with toks:=c }) h rfl ?_);have:j.toArray[p]? = some e:=by simpa using y
   rw[this];exact kn (L a l c n _ k o)
def CH {key:D}(I:jo X b v H s)(K:H f=some (dO f j i))(x:Ent X.kw H Y r j)(nd:(cO r).Nodup)(B:aO 6 key=true)(σ:Rel X.kw H Y key U)(C:kr U u)(J:bz r key=some c):
   ∃R z,Rel X.kw H Y c R/\kr R z /\ ∀{A:nc} {E:Value->j0->Prop} {Q:Option Value->j0->Prop},A.units+8<cLine->(∀p,Q (some z) { s with toks:=p })->wpAny (model X.prog X.w) A (T6 f u) Q E s:=by
 obtain⟨ep,y⟩:=uP I K;have hex:∃n,n<j.length/\tq r key n=true:=by
   refine afs λno=>?_;have:=(x.none_ (key:=key) λn O=>by
    cases h:tq r key n with
    |false=>rfl|true=>exact absurd ⟨n,O,h⟩ no).1
   rw[J]at this;cases this
 obtain⟨n,O,Z⟩:=hex;have un:∀a,a<j.length->tq r key a=true->a=n:=λa o z=>by obtain⟨k,kv,a1,b1,_,_,_,g⟩:=x.at (lC O);obtain⟨k',Yk,a2,l,_,_,_,g'⟩:=x.at (lC o);rw[g]at Z;rw[g']at z;rw[(fX k key a1 B).mp Z]at b1;rw[(fX k' key a2 B).mp z]at l;exact(afj (l8.mp l).1 nd).mp (l.trans b1.symm)
 obtain⟨e,v',R,h1,h2,h3,h4,_⟩:=x.uO (key:=key) O Z un;rw[J]at h2;cases h2;refine⟨R,e.val,h3,h4,fun {A E Q} hu q=>?_⟩;unfold T6;refine sZ (jg (qK key I B σ C (by lia) λp=>jg (rY (s:={ s with toks:=p }) y rfl (lz (I.tok p) hu x nd B σ C) (λz=>?_) (λa o tj=>?_))))
 . have:=z n (by simpa using O);rw[Z]at this;cases this
 . have:=un a (by simpa using o) tj
   subst this;refine jg (afi (s:={ s with toks:=p }) y rfl ?_);have:j.toArray[a]? = some e:=by simpa using h1
   rw[this];exact kn (q p)
def tR {A:nc}{key:D}(I:jo X b v H s)(hu:A.units+8<cLine)(N:H f=some (dO f j i))(O:i<=j.length)(hz:j.length<=lX)(p:Ent X.kw H Y r j)(nd:(cO r).Nodup)(B:aO 6 key=true)(z:Rel X.kw H Y key y)(C:kr y u)(L:Rel X.kw H Y c U)(M:kr U Z){Q:Unit->j0->Prop}(h:∀n h' x,Ent X.kw H Y (bb r key c) x->(cO (bb r key c)).Nodup->x.length<=j.length+1->i<=x.length->h'.get? f=some { cls:=.type "dict",data:=.dict x.toArray (x.length-i) }->L1 f s.heap h'->Q () { s with heap:=h',toks:=n }):
   wpAny (model X.prog X.w) A (dictSet f u Z) Q E s:=by
 have R:=CG I N;unfold dictSet;refine sZ (jg (qK key I B z C (by lia) λn=>?_));unfold dictSetHashed;refine sZ (jg (rY (s:={ s with toks:=n }) R rfl (lz (I.tok n) hu p nd B z C) (λa8=>?_) (λJ a ht=>?_)))
 . obtain⟨_,l⟩:=p.none_ (key:=key) λJ a=>a8 J (by simpa using a)
   obtain⟨e1,e2⟩:=Ent.push (e:=⟨hD X.w key,u,Z⟩) B rfl z C L M p;refine jg (yn (wpAny_updateDictKeys (hz:=by simpa using hz) (s:={ s with toks:=n }) R rfl ?_));refine h n _ (j ++ [⟨hD X.w key,u,Z⟩]) (by rw[l];exact e1) ?_ (by simp) (by simp;lia) ?_ (OL ..)
   . rw[l,e2,Qs]
     refine⟨nd,by simp,λk M1 k' o=>?_⟩;simp at o;subst o;rintro rfl;obtain⟨J,a,e⟩:=NX.mp M1;have pj:J<j.length:=by rw[<- p.len];exact a
     obtain⟨k,kv,a1,b1,_,_,_,g⟩:=p.at (lC pj);rw[lC a,e]at b1;cases b1;have:=a8 J (by simpa using pj);rw[g,(fX _ _ B B).mpr rfl]at this;cases this
   . have q:=HT (h:=s.heap) (ahF (·.push ⟨hD X.w key,u,Z⟩)) R rfl
     rw[q];simp[ahF];lia
 . have K:=lz (I.tok n) hu p nd B z C (A:=A)
   obtain⟨e,v0,Z8,h1,h2,h3,h4,_,h5⟩:=p.uO (key:=key) (by simpa using a) ht λι hj a8=>(K.un J ι a (by simpa using hj) ht a8).symm;obtain⟨h6,h7⟩:=h5 c U Z L M;refine jg (yn (jg (wpAny_updateDict (s:={ s with toks:=n }) R rfl ?_)));refine wpAny_point ?_;refine h n _ (j.modify J λe=>{ e with val:=Z }) h6 (by rw[h7];exact nd) (by simp) (by simpa using O) ?_ (OL ..)
   have q:=HT (h:=s.heap) (Obj.mapDict (·.modify J λe=>{ e with val:=Z })) R rfl
   rw[q];simp[Obj.mapDict]
noncomputable def au (b a:D)(g:G):Option (D×G):=match b with
 |.bq n=>(g[n]?).bind λc=>if aO 6 a=true then(bz c a).map λd=>(d,g)else none|b=>dP b a g
def JI (hu:X.A.units+64<cLine):mR X (dW X.kw au):=by
 intro value slice E s J H x y v u Q I e f q l;obtain⟨C,g,O,o,d,R,G0,h,i,q,p⟩:=q;cases O with
 |bq n =>
  simp only[au]at q;obtain⟨U,Y,q⟩:=bind_some q;split at q
  . rename_i Z
    obtain⟨a,rfl,ha⟩:=h;cases e;obtain⟨es,vs,c,k,tS,iC,rv,hh,nd,sy,sz,rl⟩:=G0.yi Y ha;have r:=Ent.of rv hh rl;cases B:bz U o with
    |none=>rw[B]at q;cases q
    |some dv =>
     rw[B]at q;cases q;obtain⟨j,z,h1,h2,h3⟩:=CH I k r nd Z i f B;have b:=Ay I k;refine ade (x:=z) b ad7.lookup ?_ l;unfold Mi;refine sZ (jg (YZ b (by decide) ?_));refine jg (Nc (name:=Ck "__getitem__") b ad7 (xx ad7 b entry_dict_getitem ?_ (args_dict_getitem _ _)));show wpAny _ _ (T6 a u >>= _) _ _ s;refine jg (h3 (by rw[in1_units];lia) λtk=>?_);exact kn ⟨z,rfl,kn ⟨rfl,j,H,I.tok tk,h2,p H C j Ext.refl G0 h1⟩⟩
  . cases q
 |_=>exact Jr value slice E s J H x y v u Q I e f ⟨C,g,_,o,d,R,G0,h,i,q,p⟩ l
def Nm {a:FE}(hu:X.A.units+64<cLine)(i:DE X e C)(j:DE X J a)(k:oA J):DE X (.Subscript e J q) (aj au C a):=.of (
 PE.imp (Gx (JI hu) i.un j.un k) λc H Q h=>qw h)
noncomputable def CI (a:D)(c:List D):Option Bool:=if(flat a&&bC c&&decide (dA c<=50))=true then some (c.any λy=>bB y a)else none
noncomputable def nR (b a:D)(g:G):Option Bool:=match a with
 |.bq n=>(g[n]?).bind λc=>if aO 6 b=true then some (bz c b).isSome else none|a=>(aW a g).bind (CI b)
noncomputable def mi (c a:D)(g:G):Option (D×G):=(nR c a g).map λb=>(.bl b,g)
noncomputable def lA (c a:D)(g:G):Option (D×G):=(nR c a g).map λb=>(.bl (!b),g)
def CJ {b:Bool}(h:nR c Q a=some b):(∃n,Q = .bq n) \/ ∃g,aW Q a=some g/\CI c g=some b:=by
 cases Q with
 |bq n=>exact .inl ⟨n,rfl⟩|_=>simp only[nR]at h;exact .inr (bind_some h)
theorem tT:∀{c:List D} {i:Nat} {d:D},bC c=true->c[i]? = some d->flat d=true/\dep d<=dA c
 | [],i,d,h,e=>by simp at e|x::c,0,d,h,e=>by simp at e;subst e;simp only[bC,la]at h;exact⟨h.1,by simp only[dA];lia⟩|x::c,i+1,d,h,e=>by simp only[bC,la]at h;obtain⟨a,b⟩:=tT (i:=i) h.2 (by simpa using e);exact⟨a,by simp only[dA];lia⟩
def wq (I:jo X b v H s){A:nc}(C:flat c=true)(r:Rel X.kw H Y c U)(B:kr U u){n:Nat}(hu:A.units+n<cLine):
   ∀{g:List D} {x:List V} {E:List Value},bC g=true->dA g<=n->ak X.kw H Y g x->Vals x E->∃e:Value->Bool,(∀y,y∈E->EqAt A s y u (e y))/\E.any e=g.any (λy=>bB y c):=by
 classical
 intro g x E h hn rl l;refine⟨λy=>decide (∃d p,Rel X.kw H Y d p/\kr p y/\flat d=true/\bB d c=true),λy hy=>?_,?_⟩
 . obtain⟨i,R,e⟩:=NX.mp hy
   have Yl:i<x.length:=by rw[l.length];exact R
   have q:i<g.length:=by rw[rl.length];exact Yl
   obtain⟨p,h1,f⟩:=rl.get (lC q);obtain⟨z,Z,o⟩:=l.get h1;rw[lC R,e]at Z;cases Z;obtain⟨J,f2⟩:=tT h (lC q);have j:=CF I J C f r o B (A:=A) (by lia);have:decide (∃d p,Rel X.kw H Y d p/\kr p y/\flat d=true/\bB d c=true)=bB g[i] c:=by
    cases hq:bB g[i] c with
    |true=>exact decide_eq_true ⟨_,_,f,o,J,hq⟩
    |false =>
     refine decide_eq_false ?_;rintro⟨d,v',a,O,Q,k⟩;have:=O.inj o;subst this;rw[Rel.inj I d _ Q J a f,hq]at k;cases k
   show EqAt A s y u (decide _);rw[this];exact j
 . induction g generalizing x E with
   |nil=>cases rl;cases l;rfl
   |cons d ds ih =>
    obtain⟨p,vr,rfl,f,hr⟩:=rl;cases l with
    |cons r0 rr =>
     simp only[bC,la]at h;simp only[dA]at hn;rw[vy,vy,ih h.2 (by lia) hr rr];congr 1;cases hq:bB d c with
     |true=>exact decide_eq_true ⟨_,_,f,r0,h.1,hq⟩
     |false =>
      refine decide_eq_false ?_;rintro⟨d',v',a,O,Q,k⟩;have:=O.inj r0;subst this;rw[Rel.inj I d' _ Q h.1 a f,hq]at k;cases k
def yF (B:Bool)(hu:X.A.units+64<cLine):bQ X (ra (if B then .NotIn else .In)) (dW X.kw λC U g=>(nR C U g).map λb=>(.bl (if B then !b else b),g)):=by
 intro a8 s σ H x y v u Q I r Y q;obtain⟨ι,g,C,U,d,g',G0,E,Z,q,p⟩:=q;obtain⟨b,h,q⟩:=nP.mp q;cases q;have fin:∀f,EP X a8 σ Q (.bool (if B then !b else b)) { s with toks:=f }:=λf=>⟨.bl _,H,I.tok f,rfl,p H ι _ Ext.refl G0 (by simp[Rel])⟩
 rcases CJ h with⟨n,rfl⟩|⟨xs,J,h⟩
 . simp only[nR]at h
   obtain⟨xs,J,h⟩:=bind_some h;split at h
   . rename_i hk
     cases h;obtain⟨a,rfl,ha⟩:=Z;cases Y;obtain⟨es,vs,c,hH,tS,iC,rv,hh,nd,sy,sz,rl⟩:=G0.yi J ha;have en:=Ent.of rv hh rl;have O:=Ay I hH;have core:∀{o:Bool->j0->Prop},(∀f,o (bz xs C).isSome { s with toks:=f })->wpAny (model X.prog X.w) X.A (contains (.ref a) v) o X.xe s:=fun {o} fin=>by
       unfold contains;refine sZ (jg (afQ O ae6.lookup ?_));refine zX (λz=>by rw[afH]at z;cases z) (λ_=>?_);refine jg (wpAny_callSpecialUnlessNone?_slot (name:=Ck "__contains__") O ae6 (xx ae6 O entry_dict_contains ?_ (args_dict_contains _ _)));show wpAny _ _ (T6 a v >>= _) _ _ s;refine jg (tP I (by rw[in1_units];lia) hH en nd hk E r (λhn f=>?_) (λw hs f vv z _ _=>?_))
       . rw[hn]at fin
         show wpAny _ _ (Builtin.Dict.pendingKey? a v >>= _) _ _ _;exact jg (wpAny_pendingKey_other sy (kn ⟨_,rfl,Te (fin f)⟩))
       . rw[hs]at fin
         show wpAny _ _ (ret (.bool true)) _ _ _;exact kn ⟨_,rfl,Te (fin f)⟩
     cases B with
     |false=>exact(show wpAny _ _ (do return Y0 (<- contains (.ref a) v)) _ _ s from jg (core λf=>kn (fin f)))
     |true=>exact(show wpAny _ _ (do return Y0 (!(<- contains (.ref a) v))) _ _ s from jg (core λf=>kn (fin f)))
   . cases h
 . unfold CI at h
   split at h
   . rename_i z
     simp only[la,decide_eq_true_eq]at z;cases h;obtain⟨a,vs,rfl,k,hr⟩:=kF G0 Z J;cases Y;rcases k with k|k
     . obtain⟨av,R,l,_⟩:=I.list k
       obtain⟨e,j,h2⟩:=wq I (A:=X.A.in1) z.1.1 E r (n:=50) (by rw[in1_units];lia) z.1.2 z.2 hr R;have fin:=fin s.toks;rw[<- h2]at fin;cases B with
       |false=>exact in_listAt e l.isList (λy i=>j y (by simpa using i)) (by simpa using fin)|true=>exact notIn_listAt e l.isList (λy i=>j y (by simpa using i)) (by simpa using fin)
     . obtain⟨av,R,l,_⟩:=I.tuple k
       obtain⟨e,j,h2⟩:=wq I (A:=X.A.in1) z.1.1 E r (n:=50) (by rw[in1_units];lia) z.1.2 z.2 hr R;have fin:=fin s.toks;rw[<- h2]at fin;cases B with
       |false=>exact in_tupleAt e l (λy i=>j y (by simpa using i)) (by simpa using fin)|true=>exact notIn_tupleAt e l (λy i=>j y (by simpa using i)) (by simpa using fin)
   . cases h
def Nn (hu:X.A.units+64<cLine):bQ X (ra .In) (dW X.kw mi):=yF false hu
def CL (hu:X.A.units+64<cLine):bQ X (ra .NotIn) (dW X.kw lA):=yF true hu
def wt (I:jo X b v H s)(r:H f=some (dO f T i)){tk:Nat}(l:A.get? f=some { cls:=.type "dict",data:=.dict j.toArray (j.length-i) })(c:L1 f s.heap A):
  jo X b v (upd H f (dO f j i)) { s with heap:=A,toks:=tk }:=by
 refine I.write (x:=f) (e:=f) (o:=dO f j i) (t':=tk) (by rw[r];exact True.intro) (.inl rfl) (λa u g q=>?_) ⟨_,l⟩ ⟨l,⟨_,l⟩,λn h q k=>k _ q⟩;rw[c.2 a g];exact q
def wu (G0:az X.kw H Y a)(k:eE Y i f true)(l:Y.kd i=o+1)(c:H f=some (dO f T o))(p:Ent X.kw H Y r j)(nd:(cO r).Nodup)(g:(f == NV)=false)(q:o<=j.length)(sz:j.length<=lX):
  az X.kw (upd H f (dO f j o)) Y (a.set i r):=by
 obtain⟨h,n,e,b⟩:=p.out;exact G0.Mb k c (by rw[l];exact .d o j n q e h nd g sz) b
noncomputable def pz (c:List D):Bool:=aC (c.length / 2+1)
noncomputable def kS (o i v:D)(g:G):Option G:=match o with
 |.bq n=>(g[n]?).bind λc=>if(aO 6 i&&pz c)=true then some (g.set n (bb c i v))else none|o=>putD o i v g
inductive Hh (K:KW)(o i v:V)(H:Hp)(Q:Hp->Prop):Prop
 |mk (ι:Ix) (g:G) (d1 d2 d3:D) (g':G) (h0:az K H ι g) (h1:Rel K H ι d1 o) (h2:Rel K H ι d2 i) (h3:Rel K H ι d3 v) (h4:kS d1 d2 d3 g=some g') (h5:∀H' ι',Ext H ι H' ι'->az K H' ι' g'->Q H'):Hh K o i v H Q
def yG {K H ι}(c:Ent K H ι r j):r.length=2*j.length:=by
 induction c with
 |nil=>rfl|cons _ _ _ _ _ _ _ g=>simp[g];lia
def JJ (hu:X.A.units+64<cLine):Es X (Hh X.kw):=by
 intro Z s σ H o i v ov iv u Q I z ri C q;obtain⟨E,g,d1,d2,d3,g',G0,l,r,J,q,p⟩:=q;cases d1 with
 |bq n =>
  simp only[kS]at q;obtain⟨O,e,q⟩:=bind_some q;split at q
  . rename_i y
    simp only[la]at y;cases q;obtain⟨a,rfl,b⟩:=l;cases z;obtain⟨es,R,c,f,tS,iC,Np,hh,nd,sy,sz,rl⟩:=G0.yi e b;have U:=Ent.of Np hh rl;have h:=Ay I f;have hz:=aC.le y.2;rw[yG U]at hz;unfold agU;refine sZ (jg (YZ h (by decide) ?_));refine jg (Nc (name:=Ck "__setitem__") h slot_dict_setitem (xx slot_dict_setitem h entry_dict_setitem ?_ (args_dict_setitem _ _ _)));show wpAny _ _ (Builtin.Dict.notOrdered "__setitem__" ⟨[.ref a,iv,u],[]⟩ >>= _) _ _ s;refine jg (agf h ?_);show wpAny _ _ (dictSet a iv u >>= _) _ _ s;refine jg (tR I (by rw[in1_units];lia) f iC sz U nd y.1 r ri J C λtk h' dM e1 e2 e3 e0 e4 e5=>kn ⟨.none,rfl,kn ?_⟩);exact⟨_,wt I f e4 e5,p _ E (Ext.put b f) (wu G0 b tS f e1 e2 sy e0 (by lia))⟩
  . cases q
 |ref n =>
  refine set_list Z s σ H o i v ov iv u Q I z ri C ?_;simp only[kS,putD]at q;cases d2 with
  |int k =>
    simp only[Rel]at l r;obtain⟨a,rfl,b⟩:=l;subst r;dsimp only at q;cases e:g[n]? with
    |none=>rw[e]at q;cases q
    |some O =>
     rw[e]at q;dsimp only at q;cases B:kZ O.length k with
     |none=>rw[B]at q;cases q
     |some j =>
      rw[B]at q;cases q;obtain⟨R,x,Y⟩:=G0.at e b;exact⟨a,R,k,j,rfl,rfl,x,by rw[<- Y.length];exact B,p _ E (Ext.put b x) (G0.put b x (ak.set J j Y))⟩
  |_=>cases q
 |_=>cases q
noncomputable def gB (b c:FE):FG:=λv h g=>(b h g).bind λr=>(c h r.2).bind λq=>(kS r.1 q.1 v q.2).map λa=>(h,a)
def JK {E:FE}(hu:X.A.units+64<cLine)(i:DE X e C)(K:DE X J E)(I:∀v,AR (.Subscript e J q) X.env v=(do
   let n <- zk [v] (eval e X.env);let iv <- zk [v,n] (eval J X.env)
   Yj q
   zk [v,n,iv] (agU n iv v)
   release [v,n,iv] [])):DG X (.Subscript e J q) (gB C E):=.of (PG.imp (Lc i.un K.un (JJ hu) I) λv O H Q h=>by
 obtain⟨ι,R,g,d,cx,U,G0,o,r,h,p⟩:=h;obtain⟨⟨j,g1⟩,y,h⟩:=bind_some h;obtain⟨⟨Y,Z⟩,h2,h⟩:=bind_some h;refine tD.bind G0 o y λH1 ι1 v1 b x l u=>?_;refine tD.bind x l h2 λH2 z v2 a k S2 r2=>?_;obtain⟨g3,s,h⟩:=nP.mp h;cases h;exact⟨z,Z,j,Y,d,U,k,Rel.ext a _ u,r2,Rel.ext (b.trans a) _ r,s,λH' B c f=>p H' B O ((b.trans a).trans c) f (S2.ext c)⟩)
inductive SS (K:KW)(iD:D->Bool)(m:D->List D->G->Option (D×G))(x:V)(xs:List V)(H:Hp)(Q:VK):Prop
 |mk (ι:Ix) (g:G) (d:D) (ds:List D) (d':D) (g':G) (h0:az K H ι g) (h1:Rel K H ι d x) (h2:ak K H ι ds xs) (h3:iD d=true) (h4:m d ds g=some (d',g')) (h5:fU K H ι d' g' Q):SS K iD m x xs H Q
structure MR (X:Cx)(T:String)(name:Str)(id:String)(iD:D->Bool)(m:D->List D->G->Option (D×G)):Prop where
 pa:PlainAttrs T
 slot:Slot T name id
 ty:typeOf (.builtin id)=pure (.type "method_descriptor")
 is:∀{a8:List (Addr×Obj)} {σ:ko} {H:Hp} {s:j0} {ι:Ix} {g:G} {d:D} {x:V} {v:Value},jo X a8 σ H s->az X.kw H ι g->Rel X.kw H ι d x->kr x v->iD d=true->s.TypeIs v T /\ ∀a,v = .ref a->∃ob,s.heap.get? a=some ob/\ob.dict=none
 run:LM X id (SS X.kw iD m)
noncomputable def gC (a:D->Bool)(m:D->List D->G->Option (D×G))(b:FE)(fr:FA):FE:=λc g=>(b c g).bind λr=>if a r.1=true then(fr c r.2).bind λq=>m r.1 q.1 q.2 else none
def Nq {fr:FA}(O:MR X R x K M m)(fo:DE X J C)(A:DA X (e::B) fr)(o:Zg J x X.env (eval J X.env)=eval J X.env)(iD:((su I (lY (e::B) X.env)).all (λapos=>!apos.1)&&(backToKw I (ag_ [] X.env)).all (λapos=>apos.1.isSome)
    && decide ((e::B).length+([]:List Po).length+(if([]:List Po).isEmpty then 0 else 1)<30))=true)(L:(q.endLine == I.line)=true)(E:lY (e::B) X.env=(false,eval e X.env)::lY B X.env)(T:(su I (lY B X.env)).any (·.1)=false):
   DE X (.Call (.Attribute J x q) (e::B) [] I) (gC M m C fr):=.of (by
 intro Y s U H Q id h;obtain⟨ι,Z,g,d,g',G0,S0,h,p⟩:=h;obtain⟨⟨d1,g1⟩,h1,h⟩:=bind_some h;dsimp only at h;split at h
 . rename_i hT
   obtain⟨⟨ds,g2⟩,h2,h⟩:=bind_some h;refine afW o iD L rfl (a_ (fo.un Y s U H (λapos n=>∃a,Ext H ι n a/\az X.kw n a g1/\bO X.kw n a Z U/\Rel X.kw n a d1 apos) id (tD.bind G0 S0 h1 λn a v y j name i=>⟨a,y,j,name,i⟩)) λv s1 r=>?_);obtain⟨apos,n,I1,rx,a,y,j,name,i⟩:=r;obtain⟨t1,t2⟩:=O.is I1 j i rx hT;refine⟨R,K,O.pa,O.slot,O.ty,t1,t2,?_⟩;have z:=A.un I Y s1 U n _ I1 (iz.bind j name h2 λb c f k l S2 u=>(⟨c,k,l,u⟩:(λ(f:List V) (b:Hp)=>∃c,Ext n a b c/\az X.kw b c g2/\ak X.kw b c ds f) f b));rw[E]at z ⊢
   refine ad9 (by show(false||(su I (lY B X.env)).any (·.1))=false;rw[T]<;>rfl) (agj ?_)
   refine a_ z λus s2 r=>?_;obtain⟨f,b,I2,u,c,k,l,rs⟩:=r;exact O.run Y s2 U b apos f v us Q I2 rx u ⟨c,g2,d1,ds,d,g',l,Rel.ext k _ i,rs,hT,h,p.mono (y.trans k)⟩
 . cases h)
def JL (iD:MR X R x K M m)(A:DE X e C)(id:Zg e x X.env (eval e X.env)=eval e X.env)(B:(q.endLine == I.line)=true):
   DE X (.Call (.Attribute e x q) [] [] I) (gC M m C ag):=.of (by
 intro O s E H Q name h;obtain⟨Y,u,g,d,z,G0,T,h,p⟩:=h;obtain⟨⟨f,U⟩,y,h⟩:=bind_some h;dsimp only at h;split at h
 . rename_i k
   obtain⟨⟨ds,g2⟩,h2,h⟩:=bind_some h;cases h2;refine wpAny_Call_method0_late id B (a_ (A.un O s E H (λo n=>∃a,Ext H Y n a/\az X.kw n a U/\bO X.kw n a u E/\Rel X.kw n a f o) name (tD.bind G0 T y λn a v J c j b=>⟨a,J,c,j,b⟩)) λv s1 r=>?_);obtain⟨o,n,l,i,a,J,c,j,b⟩:=r;obtain⟨Z,t2⟩:=iD.is l c b i k;refine⟨R,K,iD.pa,iD.slot,iD.ty,Z,t2,ad9 rfl (PySem.evalArgs_none ?_)⟩;exact iD.run O s1 E n o [] v [] Q l i .nil ⟨a,U,f,[],d,z,c,b,by simp[ak],k,h,p.mono J⟩
 . cases h)
noncomputable def i5:D->Bool
 |.bq _=>true|_=>false
def wx (I:jo X b v H s)(G0:az X.kw H Y a)(r:Rel X.kw H Y c U)(u:kr U Z)(h:i5 c=true):
  s.TypeIs Z "dict" /\ ∀g,Z = .ref g->∃p,s.heap.get? g=some p/\p.dict=none:=by
 cases c with
 |bq n =>
  obtain⟨g,rfl,i⟩:=r;cases u;have j:n<a.length:=by rw[<- G0.len];exact(l8.mp i.1).1
  obtain⟨l,q,x,k,_⟩:=G0.yi (lC j) i;obtain⟨o,f⟩:=uP I k;refine⟨⟨_,f,rfl⟩,λy e=>?_⟩;cases e;exact⟨_,f,rfl⟩
 |_=>cases h
noncomputable def jy (d:D)(ds:List D)(g:G):Option (D×G):=match d,ds with
 |.bq n,[k]=>(g[n]?).bind λc=>if aO 6 k=true then some ((bz c k).getD .ay,g)else none|.bq n,[k,x]=>(g[n]?).bind λc=>if aO 6 k=true then some ((bz c k).getD x,g)else none|_,_=>none
def Nr (hu:X.A.units+64<cLine):MR X "dict" "get" "dict.get" i5 jy where
 pa:=PySem.F.plainAttrs_dict
 slot:=aet
 ty:=PySem.F.type_dict_get
 is:=wx
 run:=by
  intro a8 s σ H x xs v us Q I rx rs q;obtain⟨ι,g,d,ds,d',g',G0,r1,rl,hT,q,p⟩:=q;have Gz:=(wx I G0 r1 rx hT).1;cases d with
  |bq n =>
   obtain⟨a,rfl,ha⟩:=r1;cases rx;have core:∀{k dflt:D} {i:List D} {l dv:V} {r du:Value} {Q':Fin->j0->Prop},g[n]? = some i->aO 6 k=true->Rel X.kw H ι k l->kr l r->Rel X.kw H ι dflt dv->kr dv du->fU X.kw H ι ((bz i k).getD dflt) g Q ->
      (∀v o,EP X a8 σ Q v o->Q' (.done (.ret v)) o)->wpAny (model X.prog X.w) X.A.in1 (do
       if let some v <- T6 a r then return <- ret v
       match <- Builtin.Dict.missed a r with
       |some v=>ret v|none=>ret du) Q' X.xe s:=by
    intro k dflt i l dv r du Q' f j e Nt rd Ym p hQ;obtain⟨es,vs,c,hH,tS,iC,rv,hh,nd,sy,sz,rl⟩:=G0.yi f ha;have en:=Ent.of rv hh rl;refine jg (tP I (by rw[in1_units];lia) hH en nd j e Nt (λhn tk=>?_) (λw hs tk vv z b rz=>?_))
    . rw[hn]at p
      exact jg (wpAny_missed_other sy (kn (hQ _ _ ⟨_,H,I.tok tk,Ym,p H ι _ Ext.refl G0 rd⟩)))
    . rw[hs]at p
      exact kn (hQ _ _ ⟨_,H,I.tok tk,rz,p H ι _ Ext.refl G0 b⟩)
   match ds,q,rl with
   | [k],q,rl =>
    simp only[jy]at q;obtain⟨i,f,q⟩:=bind_some q;split at q
    . rename_i j
      cases q;obtain⟨l,_,rfl,e,rfl⟩:=rl;obtain⟨u,rfl,ru⟩:=Tw rs;exact xx aet Gz af2 (core (dflt:=.ay) (dv:=.ay) (du:=.none) f j e ru (by simp[Rel]) rfl p λv o h=>⟨v,rfl,h⟩) (PySem.F.args_dict_get_2 _ _)
    . cases q
   | [k,y],q,rl =>
    simp only[jy]at q;obtain⟨i,f,q⟩:=bind_some q;split at q
    . rename_i j
      cases q;obtain⟨l,_,rfl,e,yv,_,rfl,ry,rfl⟩:=rl;obtain⟨u,w',rfl,ru,b⟩:=bai rs;exact xx aet Gz af2 (core (dflt:=y) f j e ru ry b p λv o h=>⟨v,rfl,h⟩) (PySem.F.args_dict_get_3 _ _ _)
    . cases q
   | [],q,rl=>cases q|_::_::_::_,q,rl=>cases q
  |_=>cases hT
noncomputable def qL:FE:=λ_ g=>some (.bq g.length,g ++ [[]])
def JM:DE X (.Dict [] [] q) qL:=.of (by
 intro n s r H Q I h;obtain⟨v,f,g,d,j,G0,c,h,p⟩:=h;cases h;have hf:H s.heap.objs.size=none:=I.aV.fresh (lb _);have a:∀h:Heap,(h.push { cls:=.type "dict",data:=.dict #[] }).get? h.objs.size=some { cls:=.type "dict",data:=.dict #[] }:=λh=>n3 _ rfl;refine wpAny_Dict_empty ⟨.ref s.heap.objs.size,upd H s.heap.objs.size (dO s.heap.objs.size [] 0),I.laid (t':=s.toks) (λb u e=>mn _ e) (lb _) ?_,rfl,p _ _ _ (Ext.iY (b:=1) hf) (G0.iY hf (.d 0 [] [] (rb _) .nil .nil (by simp[cO]) (beq_eq_false_iff_ne.mpr (ta (oZ (big I)))) (rb _)) (by simp[ak])) ?_⟩
 . exact⟨a _,⟨_,a _⟩,λi l o k=>k _ o⟩
 . simp only[Rel]
   exact⟨_,rfl,eE.new G0.len⟩)
noncomputable def XN (n:Nat):List (D×D)->G->Option G
 | [],g=>some g|p::r,g=>(kS (.bq n) p.1 p.2 g).bind λa=>XN n r a
end
section
open PyProof.Rows
variable {R:List (Bool×Addr)}{K ι':Ix}{c:List (Str×Addr)}{J:Bool}{z:KW}{y j:List V}{w:FA}{t:Hp}{p:Obj}{n:Heap}{g:d9}{d:Addr}{outer:List Env}{env:Env}
noncomputable def sN:Bool->String
 |true=>"list"|false=>"tuple"
noncomputable def iN:Bool->String
 |true=>"list_iterator"|false=>"tuple_iterator"
noncomputable def fR (b:Bool)(h:Heap)(a:Addr)(c:Array Value):Prop:=∃o,h.get? a=some o/\o.cls = .type (sN b) /\ ∃n,o.data = .seq c n
noncomputable def kG (b:Bool)(h:Heap)(j a:Addr)(i:Nat):Prop:=∃o,h.get? j=some o/\o.cls = .type (iN b)/\o.data = .fields #[.ref a,.int i 0]
def kG.at {j a i}(x:kG J A j a i)(k:∀o,A.get? j=some o->n.get? j=some o):kG J n j a i:=by obtain⟨o,b,r⟩:=x;exact⟨o,k o b,r⟩
noncomputable def jq (K:mW):Bool->Hp->Addr->List V->Prop
 |true=>dD K|false=>fg K
def Az {items}(a:kG J s.heap f d i)(e:fR J s.heap d items)(h:items[i]? = some Z)(b:∀c,kG J c f d (i+1)->L1 f s.heap c->Q Z { s with heap:=c }):wpAny (model k u) O (Tn (.ref f)) Q E s:=by
 cases J
 . exact uz a e h b
 . exact wpAny_nextOf_list_item a e h b
def CM {items}(hh:O.handled=none)(a:kG J s.heap f d i)(h:fR J s.heap d items)(j:items[i]? = none)(b:∀c e,afX f s.heap c->(∃o,c.get? e=some o/\o.cls = .type "StopIteration")->E (.ref e) { s with heap:=c }):wpAny (model k u) O (Tn (.ref f)) Q E s:=by
 cases J
 . exact wb hh a h j b
 . exact agd hh a h j b
def qM {items}(b:fR J s.heap f items)(c:Q (.ref s.heap.objs.size) { s with heap:=s.heap.push { cls:=.type (iN J),data:=.fields #[.ref f,.int 0 0] } }):wpAny (model k u) O (Pp (.ref f)) Q E s:=by
 cases J
 . exact wpAny_pyIter_tuple b c
 . exact ad5 b c
def Fq (I:jo X b v H s)(h:jq X.K J H f y):∃c:List Value,Vals y c/\fR J s.heap f c.toArray/\y.length<=lX:=by
 cases J
 . exact I.tuple h
 . obtain⟨c,r,p,z⟩:=I.list h
   exact⟨c,r,p.isList,z⟩
def wy (I:jo X b v H s)(h:jq X.K J H f y)(c:jq X.K J H f j):y=j:=by
 cases J
 . exact I.nu h c
 . exact I.lR h c
def CN (I:jo X b v H s)(c:fS X b H d)(e:jq X.K J H f y):f≠d:=by
 cases J
 . exact QL I c e
 . exact Nk I c e
noncomputable abbrev fu (h:Heap)(T:Addr)(c:List Value):Prop:=h.get? T=some { cls:=.type "tuple",data:=.seq c.toArray }
structure Src where
 κ:Bool
 j:Addr
 a:Addr
noncomputable def fY (z tu:Addr)(rs:List Src):List Addr:=z::tu::rs.map (·.j)
structure ZD (z ti tu:Addr)(rs:List Src):Prop where
 n2:tu≠z
 tm:ti ∉ fY z tu rs
 jn:(rs.map (·.j)).Nodup
 jz:∀r∈rs,r.j≠z/\r.j≠tu
 am:∀r∈rs,r.a ∉ fY z tu rs
 le:rs.length<=8
 ne:rs ≠ []
theorem fR.dn {c:Bool}{h g:Heap}{a:Addr}{items}{i:List Addr}(x:fR c h a items)(k:dn i h g)(n:a ∉ i):fR c g a items:=by obtain⟨o,b,r⟩:=x;exact⟨o,k _ _ n b,r⟩
structure ZL (h0:Heap)(z ti tu:Addr)(rs:List Src)(i:Nat)(os:List Value)(xs:Src->Array Value)(k:Nat)(h:Heap)(us:List Value):Prop where
 kl:k<=rs.length
 ul:us.length=k
 uv:∀(m:Nat) (r:Src),m<k->rs[m]? = some r->∃u,(xs r)[i]? = some u/\us[m]? = some u
 hz:IsZip h z ti tu .ellipsis
 ht:fu h tu (us++os.drop k)
 it:∀(m:Nat) (r:Src),rs[m]? = some r->kG r.κ h r.j r.a (if m<k then i+1 else i)
 st:dn (fY z tu rs) h0 h
 sz:h.objs.size=h0.objs.size
def CO {tu:Addr}{rs:List Src}{xs:Src->Array Value}(hh:O.handled=none)(D:ZD f d tu rs)(hz:IsZip s.heap f d tu .none)(H:fu s.heap d (rs.map λr=>.ref r.j))(I:fu s.heap tu Y)(M:Y.length=rs.length)(B:∀r∈rs,kG r.κ s.heap r.j r.a i)(K:∀r∈rs,fR r.κ s.heap r.a (xs r))(J:∀(g:List Value) (p:Heap),g.length=rs.length->(∀(m:Nat) (r:Src),rs[m]? = some r->∃w,(xs r)[i]? = some w/\g[m]? = some w)->IsZip p f d tu (xy s.heap.objs.size)->fu p tu g->(∀r∈rs,kG r.κ p r.j r.a (i+1))->fu p s.heap.objs.size g->dn (fY f tu rs) s.heap p->Q (.ref s.heap.objs.size) { s with heap:=p })(C:(∃r∈rs,(xs r)[i]? = none)->∀p e,dn (fY f tu rs) s.heap p->(∃o,p.get? e=some o/\o.cls = .type "StopIteration")->E (.ref e) { s with heap:=p }):
   wpAny (model k u) O (sk.«zip.__next__» ⟨[.ref f],[]⟩) (λfin s'=>∃v,fin = .done (.ret v)/\Q v s') E s:=by
 have mz:f∈fY f tu rs:=by simp[fY]
 have mu:tu∈fY f tu rs:=by simp[fY]
 have mj:∀r∈rs,r.j∈fY f tu rs:=λr A=>by simp only[fY,l2];exact .inr (.inr (Cm A))
 have Z9:=D.le;have hs:lX=16777216:=Hy;change wpAny _ _ (field (.ref f) 2 >>= λ_=>_) _ _ _;refine jg (yS hz rfl (x:=.bool false) rfl ?_);change wpAny _ _ (field (.ref f) 3 >>= λ_=>_) _ _ _;refine jg (yS hz rfl (x:=.ref d) rfl ?_);refine jg (Uo H rfl ?_);refine Z3 (by simp[D.ne]) ?_;change wpAny _ _ (ad3 (.ref f) >>= λ_=>_) _ _ _;refine jg ?_;unfold ad3;refine jg (yS hz rfl (x:=.none) rfl (kn ?_));simp only[if_true];refine jg (yn (jg (yS hz rfl (x:=.ref tu) rfl (jg (adR hz (by simp) λb1 z1 c1=>jg ?_)))));have y1:IsZip b1 f d tu .ellipsis:=z1;have ez:∀{b:Heap} {e:Addr} {oe:Obj},IsZip b f d tu .ellipsis->b.get? e=some oe->oe.cls = .type "StopIteration"->e≠f:=λyb q1 q2 x=>by subst x;rw[yb]at q1;cases q1;exact absurd (show rn "zip" = rn "StopIteration" from q2) (by decide)
 refine YK _ (λrest b s'=>∃prog g p,rest=((rs.map λr=>yE r.j).zipIdx).drop prog/\b=(none,())/\s'={ s with heap:=p }/\ZL s.heap f d tu rs i Y xs prog p g) _ ?_ ?_ _ _ ?_
 . rintro x rest b s' ⟨prog,g,h,A,rfl,rfl,L⟩
   have hk:prog<rs.length:=by refine Nat.lt_of_not_le λhc=>?_;rw[af3 (by simpa using hc)]at A;cases A
   obtain⟨r,yH⟩:∃r,rs[prog]? = some r:=⟨_,lC hk⟩
   have hm:=qt yH;rw[MP (by simpa using hk)]at A;injection A with hx QP
   have hx:x=(.ref r.j,prog):=by rw[hx];obtain⟨_,e⟩:=l8.mp yH;simp[e]
   subst hx;have i1:=L.it prog r yH;rw[if_neg (Ac prog)]at i1;have s1:=(K r hm).dn L.st (D.am r hm);refine jg (wpAny_onRaise ?_);change wpAny _ _ (Tn (.ref r.j) >>= λ_=>_) _ _ _;cases hv:(xs r)[i]? with
   |none =>
     refine jg (CM hh i1 s1 hv λU e R he=>?_);obtain⟨oe,q1,q2⟩:=he;have y2:IsZip U f d tu .ellipsis:=R _ _ (D.jz r hm).1.symm L.hz;refine adR y2 (by simp) λb3 _ y=>C ⟨r,hm,hv⟩ b3 e ?_ ⟨oe,(y.2 _ (ez y2 q1 q2)).trans q1,q2⟩;exact(L.st.tr λc o n e=>R c o (λq=>n (q ▸ mj r hm)) e).tr (dn.of y mz)
   |some w =>
     refine jg (Az i1 s1 hv λU u2 R=>kn ?_);have w2:fu U tu (g++Y.drop prog):=(R.2 _ (D.jz r hm).2.symm).trans L.ht;have ol:prog<Y.length:=by lia
     have ul:=L.ul;have len:(g++Y.drop prog).length=rs.length:=by rw[lN,aeh,ul];lia
     refine jg (Uo w2 rfl (jg (afR w2 rfl ?_ (by simp only[m3];lia) (by simp only[Array.size_setIfInBounds,m3];lia))));refine jg (wpAny_letGo (kn ?_))
     have y:L1 tu U (U.update tu (EI (·.setIfInBounds prog w))):=OL ..
     have w3:fu (U.update tu (EI (·.setIfInBounds prog w))) tu ((g ++ [w])++Y.drop (prog+1)):=by
       show(U.update tu _).get? tu=_;rw[HT _ w2 rfl];have:(g++Y.drop prog).set prog w=(g ++ [w])++Y.drop (prog+1):=by rw[N1 _ _ (by lia),ul,Xy,MP ol,ae3,sP];rfl
       have ln:((g ++ [w])++Y.drop (prog+1)).length=(g++Y.drop prog).length:=by rw[<- this,afP]
       simp only[EI,List.setIfInBounds_toArray,this];rw[if_pos (by rw[m3,m3,ln,beq_self_eq_true])]
     refine⟨prog+1,g ++ [w],_,QP,rfl,rfl,hk,by simp[ul],λm Z jW l=>?_,?_,w3,λm Z l=>?_,?_,?_⟩
     . by_cases e:m=prog
       . subst e
         rw[yH]at l;cases l;exact⟨w,hv,by rw[th (by lia),ul,Xy];rfl⟩
       . obtain⟨v,h1,h2⟩:=L.uv m Z (by lia) l
         exact⟨v,h1,by rw[m5 (by lia)];exact h2⟩
     . exact(y.2 _ D.n2.symm).trans ((R.2 _ (D.jz r hm).1.symm).trans L.hz)
     . have qq:=qt l
       by_cases e:m=prog
       . subst e
         rw[yH]at l;cases l;rw[if_pos (UY m)];exact u2.at λo e=>(y.2 _ (D.jz r hm).2).trans e
       . have:=L.it m Z l
         have nj:Z.j≠r.j:=λq=>by
          have h1:(rs.map (·.j))[m]? = some Z.j:=by rw[m2,l];rfl
          have h2:(rs.map (·.j))[prog]? = some Z.j:=by rw[m2,yH,q];rfl
          exact e ((afj (by simpa using (l8.mp l).1) D.jn).mp (h1.trans h2.symm))
         rw[show(if m<prog+1 then i+1 else i)=if m<prog then i+1 else i by
          by_cases e2:m<prog
          . rw[if_pos e2,if_pos (by lia)]
          . rw[if_neg e2,if_neg (by lia)]]
         exact this.at λo e=>(y.2 _ (D.jz Z qq).2).trans ((R.2 _ nj).trans e)
     . exact(L.st.tr (dn.of R (mj r hm))).tr (dn.of y mu)
     . rw[y.1,R.1,L.sz]
 . rintro b s' ⟨prog,g,h,A,rfl,rfl,L⟩
   have hk:prog=rs.length:=by have:=congrArg aeS A;simp at this;have:=L.kl;lia
   subst hk;have ul:=L.ul;have w1:fu h tu g:=by have:=L.ht;rw[af3 (by lia),tA]at this;exact this
   refine jg (Uo w1 rfl (jg (wpAny_newTuple ?_ (by simp;lia))));change wpAny _ _ (adS (.ref f) (.ref h.objs.size) >>= λ_=>_) _ _ _;refine jg ?_;unfold adS;have y6:IsZip (h.push { cls:=.type "tuple",data:=.seq g.toArray }) f d tu .ellipsis:=mn _ L.hz;refine jg (adR y6 (by simp) λb7 z7 c7=>?_);have y7:IsZip b7 f d tu (xy h.objs.size):=z7;refine adR y7 (by simp) λb8 z8 c8=>kn ⟨_,rfl,?_⟩;have y8:IsZip b8 f d tu (xy h.objs.size):=z8;have SU:f<h.objs.size:=mA L.hz;have up:∀c o,c≠f->h.get? c=some o->b8.get? c=some o:=λc o n e=>(c8.2 c n).trans ((c7.2 c n).trans (mn _ e));have T8:fu b8 h.objs.size g:=(c8.2 _ (YP SU)).trans ((c7.2 _ (YP SU)).trans (n3 _ rfl));change Q (.ref h.objs.size) _;have sz:=L.sz;rw[sz]at y8 T8 ⊢;refine J g b8 ul (λm r A=>L.uv m r (l8.mp A).1 A) y8 (up _ _ D.n2 w1) (λr A=>?_) T8 λc o n e=>up c o (λq=>n (q ▸ mz)) (L.st c o n e);obtain⟨m,hm⟩:=TJ A;have:=L.it m r hm;rw[if_pos (l8.mp hm).1]at this;exact this.at λo e=>up _ o (D.jz r A).1 e
 . refine⟨0,[],b1,rfl,rfl,rfl,rb _,rfl,λ_ _ h=>absurd h (Yh _),y1,?_,λm r A=>?_,dn.of c1 mz,c1.1⟩
   . exact(c1.2 _ D.n2).trans I
   . have hm:=qt A
     rw[if_neg (Yh _)];exact(B r hm).at λo e=>(c1.2 _ (D.jz r hm).1).trans e
def CP {tu:Addr}{rs:List Src}{os:List Value}{xs:Src->Array Value}{Q:Option Value->j0->Prop}(hh:O.handled=none)(D:ZD f d tu rs)(hz:IsZip s.heap f d tu .none)(H:fu s.heap d (rs.map λr=>.ref r.j))(J:fu s.heap tu os)(I:os.length=rs.length)(B:∀r∈rs,kG r.κ s.heap r.j r.a i)(L:∀r∈rs,fR r.κ s.heap r.a (xs r))(K:∀(n:List Value) (g:Heap),n.length=rs.length->(∀(m:Nat) (r:Src),rs[m]? = some r->∃w,(xs r)[i]? = some w/\n[m]? = some w)->IsZip g f d tu (xy s.heap.objs.size)->fu g tu n->(∀r∈rs,kG r.κ g r.j r.a (i+1))->fu g s.heap.objs.size n->dn (fY f tu rs) s.heap g->Q (some (.ref s.heap.objs.size)) { s with heap:=g })(C:(∃r∈rs,(xs r)[i]? = none)->∀g,dn (fY f tu rs) s.heap g->Q none { s with heap:=g }):wpAny (model k u) O (Bv (.ref f)) Q E s:=by
 have ty:s.TypeIs (.ref f) "zip":=⟨_,hz,rfl⟩
 unfold Bv;refine jg (agw (Nc (name:=Ck "__next__") ty F.slot_zip_next (xx F.slot_zip_next ty F.entry_zip_next (CO hh D hz H J I B L (λn g A p l h c prog y=>kn (K n g A p l h c prog y)) λR g e q U=>?_) (F.args_zip_next_1 _))));obtain⟨o,x,v⟩:=U;exact jg (aei (T:="StopIteration") (b:=true) ⟨o,x,v⟩ isSubtype_stop (kn (C R _ q)))
noncomputable abbrev gR (q:Bool×Addr):Obj:={ cls:=.type (iN q.1),data:=.fields #[.ref q.2,.int 0 0] }
noncomputable def qN (h:Heap):List (Bool×Addr)->Heap
 | []=>h|q::r=>qN (h.push (gR q)) r
noncomputable def wz (h:Heap):List (Bool×Addr)->List Addr
 | []=>[]|q::r=>h.objs.size::wz (h.push (gR q)) r
noncomputable abbrev Hi (h:Heap)(l:List (Bool×Addr)):Heap:=(qN h l).push { cls:=.type "tuple",data:=.seq ((wz h l).map yE).toArray }
noncomputable abbrev Hj (h:Heap)(l:List (Bool×Addr)):Heap:=(Hi h l).push { cls:=.type "tuple",data:=.seq (l.map λ_=>xa).toArray }
noncomputable abbrev Hk (h:Heap)(l:List (Bool×Addr)):Heap:=(Hj h l).push { cls:=.type "zip",data:=.fields #[.none,.bool false,.bool false,.ref (qN h l).objs.size,.ref (Hi h l).objs.size] }
theorem fR.push {items}(x:fR J A f items)(o:Obj):fR J (A.push o) f items:=by obtain⟨u,hu,r⟩:=x;exact⟨u,mn _ hu,r⟩
noncomputable abbrev AA (l:List (Bool×Addr)):Prop:=Meets (sk.«zip.__new__» ⟨.type "zip" :: l.map λq=>.ref q.2,[]⟩) (λ_ R s=>(∀q∈l,∃c,fR q.1 s.heap q.2 c)/\R (.ok (.ret (.ref (Hj s.heap l).objs.size))) { s with heap:=Hk s.heap l })
def JN (p q:Bool×Addr):AA [p,q]:=.of_wp λprog w A R s h=>by
 obtain⟨a,g,d,b,os⟩:=s;obtain⟨t,h⟩:=h;have sub:=sub_zip;obtain⟨i,n⟩:=t p (by simp);obtain⟨r,e⟩:=t q (by simp);have c:fR p.1 (aeT ⟨a,g,d,b,os⟩) p.2 i:=n;have tB:fR q.1 (aeT ⟨a.push (gR p),g,d,b,os⟩) q.2 r:=e.push _;show wpAny _ _ (sk.«zip.__new__» ⟨[.type "zip",.ref p.2,.ref q.2],[]⟩) _ _ _;clear t
 wp_walk using qM c,qM tB
 exact⟨_,rfl,h⟩
set_option maxHeartbeats 1000000 in
def JO (p q r:Bool×Addr):AA [p,q,r]:=.of_wp λprog w A R s h=>by
 obtain⟨a,g,d,b,os⟩:=s;obtain⟨t,h⟩:=h;have sub:=sub_zip;obtain⟨i,n⟩:=t p (by simp);obtain⟨u,e⟩:=t q (by simp);obtain⟨zs,v⟩:=t r (by simp);have c:fR p.1 (aeT ⟨a,g,d,b,os⟩) p.2 i:=n;have tB:fR q.1 (aeT ⟨a.push (gR p),g,d,b,os⟩) q.2 u:=e.push _;have tC:fR r.1 (aeT ⟨(a.push (gR p)).push (gR q),g,d,b,os⟩) r.2 zs:=(v.push _).push _;show wpAny _ _ (sk.«zip.__new__» ⟨[.type "zip",.ref p.2,.ref q.2,.ref r.2],[]⟩) _ _ _;clear t
 wp_walk using qM c,qM tB,qM tC
 exact⟨_,rfl,h⟩
theorem AB {c:Addr}{o:Obj}:∀{l:List (Bool×Addr)} {h:Heap},h.get? c=some o->(qN h l).get? c=some o
 | [],_,e=>e|_::l,_,e=>AB (l:=l) (mn _ e)
theorem Hl:∀{l:List (Bool×Addr)} {h:Heap},(qN h l).objs.size=h.objs.size+l.length
 | [],_=>rfl|q::l,h=>by have:=Hl (l:=l) (h:=h.push (gR q));rw[GG]at this;rw[vq,qN,this];lia
theorem AD:∀{l:List (Bool×Addr)} {h:Heap} {m:Nat} {q:Bool×Addr},l[m]? = some q->(wz h l)[m]? = some (h.objs.size+m)/\(qN h l).get? (h.objs.size+m)=some (gR q)
 | [],_,_,_,e=>by simp at e|p::l,h,0,q,e=>by simp at e;subst e;exact⟨rfl,AB (l:=l) (n3 _ rfl)⟩|p::l,h,m+1,q,e=>by have:=AD (l:=l) (h:=h.push (gR p)) (m:=m) (q:=q) (by simpa using e);rw[GG,show h.objs.size+1+m=h.objs.size+(m+1) by lia]at this;exact⟨by simpa[wz]using this.1,this.2⟩
theorem yI:∀{l:List (Bool×Addr)} {h:Heap},(wz h l).length=l.length
 | [],_=>rfl|q::l,h=>by simp[wz,yI (l:=l)]
noncomputable def cZ (n:Nat)(l:List (Bool×Addr)):List Src:=l.zipIdx.map λp=>⟨p.1.1,n+p.2,p.1.2⟩
def lB:(cZ i R)[o]? = R[o]?.map λq=>⟨q.1,i+o,q.2⟩:=by unfold cZ;rw[m2,ago];cases R[o]?<;>simp
def gL {n:Nat}:(cZ n R).length=R.length:=by simp[cZ]
def mq {r:Src}(h:r∈cZ i R):∃m q,R[m]? = some q/\r=⟨q.1,i+m,q.2⟩:=by obtain⟨m,e⟩:=TJ h;rw[lB]at e;obtain⟨q,a,rfl⟩:=nP.mp e;exact⟨m,q,a,rfl⟩
def Nv:(wz A R).map yE=(cZ A.objs.size R).map λr=>.ref r.j:=by
 refine Zy λm=>?_;rw[m2,m2,lB];cases e:R[m]? with
 |none=>rw[OF (by rw[yI];exact acR.mp e)];rfl|some q=>rw[(AD e).1];rfl
def tW (mk:AA R)(H:checkTypeCall "zip" ⟨R.map λq=>.ref q.2,[]⟩=pure ())(C:afF "zip.__new__" ⟨.type "zip" :: R.map λq=>.ref q.2,[]⟩=pure ())(B:∀o,TL "object.__init__" ⟨o::R.map λq=>.ref q.2,[]⟩)(t:∀q∈R,∃p,fR q.1 s.heap q.2 p)(h:∀n,IsZip n (s.heap.objs.size+R.length+2) (s.heap.objs.size+R.length) (s.heap.objs.size+R.length+1) .none->fu n (s.heap.objs.size+R.length) ((cZ s.heap.objs.size R).map λr=>.ref r.j)->fu n (s.heap.objs.size+R.length+1) (R.map λ_=>xa) ->
   (∀r∈cZ s.heap.objs.size R,kG r.κ n r.j r.a 0)->(∀c o,s.heap.get? c=some o->n.get? c=some o)->Q (.ref (s.heap.objs.size+R.length+2)) { s with heap:=n }):
  wpAny (model k u) O (call (.type "zip") (R.map λq=>.ref q.2)) Q E s:=by
 refine callType_new F.called_zip (by decide) H C B F.entry_zip_new mk ⟨t,?_⟩;have i:(qN s.heap R).objs.size=s.heap.objs.size+R.length:=Hl;have f:(Hi s.heap R).objs.size=s.heap.objs.size+R.length+1:=by rw[GG,i]
 have w:(Hj s.heap R).objs.size=s.heap.objs.size+R.length+2:=by rw[GG,f]
 have g:∀{h:Heap} {o I:Obj} {c:Addr},h.get? c=some o->(h.push I).get? c=some o:=λe=>mn _ e;have b:(Hk s.heap R).get? (Hj s.heap R).objs.size=some _:=n3 _ rfl;have prog:(Hk s.heap R).get? (Hi s.heap R).objs.size=some _:=g (n3 _ rfl);have v:(Hk s.heap R).get? (qN s.heap R).objs.size=some _:=g (g (n3 _ rfl));show _/\_;rw[i,f,w]at b;rw[f]at prog;rw[i,Nv]at v;rw[w];refine⟨⟨_,b,rfl⟩,h _ b v prog (λr z=>?_) λc o x=>g (g (g (AB x)))⟩;obtain⟨m,q,y,rfl⟩:=mq z;exact⟨_,g (g (g (AD y).2)),rfl,rfl⟩
noncomputable def Fs (K : mW) (l : List (Bool × Addr)): It :=
 ⟨λi H => ∀ q ∈ l, ∃ c x, jq K q.1 H q.2 c /\ c[i]? = some x,
  λi H x a => ∃ T g, x = .ref T /\ H T = none /\ a = upd H T (.tup g) /\ g.length = l.length /\ ∀ (m : Nat) (q : Bool × Addr), l[m]? = some q -> ∀ c, jq K q.1 H q.2 c -> ∃ v, c[i]? = some v /\ g[m]? = some v,
  λi H => (∀ q ∈ l, ∃ c, jq K q.1 H q.2 c) /\ ∃ q ∈ l, ∃ c, jq K q.1 H q.2 c /\ c.length <= i⟩
theorem yJ {P:Nat->V->Prop}:∀(c:List Value) (k:Nat),(∀(m:Nat) (u:Value),c[m]? = some u->∃v,P (k+m) v/\kr v u)->∃g,Vals g c /\ ∀(m:Nat) (v:V),g[m]? = some v->P (k+m) v
 | [],_,_=>⟨[],.nil,λm v h=>by simp at h⟩
 |u::c,k,h=>by
  obtain⟨v,p,r⟩:=h 0 u rfl;obtain⟨g,rs,a⟩:=yJ (P:=P) c (k+1) λm u e=>by have:=h (m+1) u (by simpa using e);rwa[show k+(m+1)=k+1+m by lia]at this
  refine⟨v::g,.cons r rs,λm w e=>?_⟩;cases m with
  |zero=>simp at e;subst e;exact p|succ m=>have:=a m w (by simpa using e);rwa[show k+1+m=k+(m+1) by lia]at this
structure ZT (h:Heap)(z ti tu:Addr)(n0:Nat)(l:List (Bool×Addr))(i:Nat):Prop where
 hz:IsZip h z ti tu .none
 jm:fu h ti ((cZ n0 l).map λr=>.ref r.j)
 tU:∃os:List Value,fu h tu os/\os.length=l.length
 it:∀r∈cZ n0 l,kG r.κ h r.j r.a i
noncomputable def j_ (z b tu:Addr)(a:Nat)(l:List (Bool×Addr)):List Addr:=b::fY z tu (cZ a l)
def CQ:(cZ i R).map (·.j)=(nN R.length).map (i + ·):=by
 refine Zy λm=>?_;rw[m2,m2,lB];by_cases h:m<R.length
 . rw[lC h,Xw h];rfl
 . rw[OF (by lia),OF (by simp;lia)];rfl
def CS {P:p9}{K:mW}(A:Nat)(l:List (Bool×Addr))(C:l.length<=8)(J:l ≠ []):
   Turn P u K (.Tuple B i q) (Fs K l) (j_ (A+l.length+2) (A+l.length) (A+l.length+1) A l) (A+l.length+2) (λQ h=>ZT h (A+l.length+2) (A+l.length) (A+l.length+1) A l Q):=by
 generalize Nw:A+l.length+2=z;generalize Z_:A+l.length+1=tu;generalize ae:A+l.length=O;have a1:(tu:Nat)≠z:=by lia
 have a2:(O:Nat)≠z:=by lia
 have a3:(O:Nat)≠tu:=by lia
 have SV:∀r∈cZ A l,r.j≠O/\r.j≠z/\r.j≠tu:=λr f=>by
   obtain⟨m,w,hq,rfl⟩:=mq f;have:=(l8.mp hq).1;have b1:(A+m:Nat)≠O:=by lia
   have b2:(A+m:Nat)≠z:=by lia
   have b3:(A+m:Nat)≠tu:=by lia
   exact⟨b1,b2,b3⟩
 have memC:∀{c},c∈fY z tu (cZ A l)->c=z\/c=tu \/ ∃r∈cZ A l,c=r.j:=fun {c} h=>by
   simp only[fY,l2,mM]at h;rcases h with h|h|⟨r,f,h⟩
   . exact .inl h
   . exact .inr (.inl h)
   . exact .inr (.inr ⟨r,f,h.symm⟩)
 have zd:(∀r∈cZ A l,r.a ∉ fY z tu (cZ A l))->ZD z O tu (cZ A l):=λam=>by
   refine⟨a1,λh=>?_,?_,λr f=>(SV r f).2,am,by rw[gL];exact C,λh=>J (YL.mp (by rw[<- gL (n:=A),h];rfl))⟩
   . rcases memC h with h|h|⟨r,f,h⟩
     . exact a2 h
     . exact a3 h
     . exact(SV r f).1 h.symm
   . rw[CQ,List.Nodup,ag7]
     exact aem.imp λh e=>h (Nat.add_left_cancel e)
 have own:∀{Q h},ZT h z O tu A l Q->∀b∈j_ z O tu A l,∃o,h.get? b=some o /\ ∀v,o.data ≠ .cell v:=fun {Q h} st c x=>by
   obtain⟨os,Y,_⟩:=st.tU;simp only[j_,l2]at x;rcases x with rfl|x
   . exact⟨_,st.jm,λv z=>by cases z⟩
   . rcases memC x with rfl|rfl|⟨r,f,rfl⟩
     . exact⟨_,st.hz,λv z=>by cases z⟩
     . exact⟨_,Y,λv z=>by cases z⟩
     . obtain⟨o,g,_,d⟩:=st.it r f
       exact⟨_,g,λv z=>by rw[d]at z;cases z⟩
 have mz:z∈j_ z O tu A l:=by simp[j_,fY]
 have mt:O∈j_ z O tu A l:=by simp[j_]
 have mu:tu∈j_ z O tu A l:=by simp[j_,fY]
 have mj:∀r∈cZ A l,r.j∈j_ z O tu A l:=λr f=>by simp only[j_,fY,l2];exact .inr (.inr (.inr (Cm f)))
 refine⟨mz,λQ h st=>own st,λQ h h' st k=>?_,?_,?_,λ_ _ _ _ _ st h=>wpAny_pyIter_zip st.hz h⟩
 . obtain⟨os,Y,h4⟩:=st.tU
   exact⟨k z mz _ st.hz,k O mt _ st.jm,⟨os,k tu mu _ Y,h4⟩,λr f=>(st.it r f).at λo e=>k _ (mj r f) o e⟩
 . intro X hP hw hK x Q a8 s σ H E I hf st hg
   subst hP hw hK;obtain⟨os,Y,h4⟩:=st.tU;have ex:∀r∈cZ A l,∃(y:List V) (R:List Value) (v:V) (L:Value),jq X.K r.κ H r.a y/\fR r.κ s.heap r.a R.toArray/\y[Q]? = some v/\R[Q]? = some L/\kr v L:=λr f=>by obtain⟨m,w,hq,rfl⟩:=mq f;obtain⟨y,v,h1,h2⟩:=hg w (qt hq);obtain⟨R,rv,p,_⟩:=Fq I h1;obtain⟨L,hu,ru⟩:=rv.get h2;exact⟨y,R,v,L,h1,p,h2,hu,ru⟩
   have D:=zd λr f h=>by obtain⟨y,_,_,_,h1,_⟩:=ex r f;exact CN I (hf _ (nW _ h)) h1 rfl
   classical
   let xs:Src->Array Value:=λr=>if h:r∈cZ A l then(aen (R8 (ex r h))).toArray else #[];have mX:∀r∈cZ A l,∃(y:List V) (v:V) (L:Value),jq X.K r.κ H r.a y/\fR r.κ s.heap r.a (xs r)/\y[Q]? = some v/\(xs r)[Q]? = some L/\kr v L:=λr f=>by obtain⟨v,L,a,b,c,d,e⟩:=R8 (R8 (ex r f));have e1:xs r=(aen (R8 (ex r f))).toArray:=dif_pos f;rw[<- e1]at b;exact⟨_,v,L,a,b,c,by rw[e1];simpa using d,e⟩
   refine CP (xs:=xs) (os:=os) (I.ok.hd x) D st.hz st.jm Y (by rw[h4,gL]) st.it (λr f=>let⟨_,_,_,_,p,_⟩:=mX r f;p) (λZ h' ul uv g1 g2 g3 g5 g6=>?_) λ⟨r,f,e⟩=>by obtain⟨_,_,L,_,_,_,e2,_⟩:=mX r f;rw[e]at e2;cases e2
   refine⟨_,rfl,wpAny_letOwnedTupleGo_zip g1 λvQ g7 g8=>?_⟩;obtain⟨U,ab,pw⟩:=yJ (P:=λm v=>∀w,l[m]? = some w->∀y,jq X.K w.1 H w.2 y->y[Q]? = some v) Z 0 λm L hm=>by
     have hl:m<l.length:=by rw[<- gL (n:=A),<- ul];exact(l8.mp hm).1
     have hq:l[m]? = some l[m]:=lC hl;have f:(cZ A l)[m]? = some ⟨l[m].1,A+m,l[m].2⟩:=by rw[lB,hq];rfl
     obtain⟨u',h1,h2⟩:=uv m _ f;rw[hm]at h2;cases h2;obtain⟨y,v,u2,p1,_,p3,p4,p5⟩:=mX _ (qt f);rw[h1]at p4;cases p4;refine⟨v,λw e ys hy=>?_,p5⟩;rw[Ds,hq]at e;cases e;rw[wy I hy p1];exact p3
   have wl:U.length=l.length:=by rw[ab.length,ul,gL]
   have I1:jo X a8 σ (upd H s.heap.objs.size (.tup U)) { s with heap:=s.heap.push { cls:=.type "tuple",data:=.seq Z.toArray } }:=
     I.laid (t':=s.toks) (o:=.tup U) (λb o w=>mn _ w) (lb _) (show eA X.prog X.w _ _ _ (.tup U) from⟨by rw[wl,Hy];lia,Z,ab,fA.new _ _⟩)
   have lt:∀c∈j_ z O tu A l,c≠s.heap.objs.size:=λc x=>by obtain⟨o,h,_⟩:=own st c x;exact oZ (mA h)
   have I2:jo X a8 σ (upd H s.heap.objs.size (.tup U)) { s with heap:=vQ }:=rW (t':=s.toks) (s:={ s with heap:=s.heap.push { cls:=.type "tuple",data:=.seq Z.toArray } }) (ch:=j_ z O tu A l) I1 (λc o x e=>by
     have Gm:c ∉ fY z tu (cZ A l):=λw=>x (nW _ w);have h6:h'.get? c=some o:=by
       by_cases SX:c=s.heap.objs.size
       . subst SX
         have e':(s.heap.push { cls:=.type "tuple",data:=.seq Z.toArray }).get? s.heap.objs.size=some o:=e;rw[n3 _ rfl]at e';rw[<- e'];exact g5
       . exact g6 c o Gm ((ag3 s.heap c _ SX).symm.trans e)
     exact(g8.2 c λw=>x (w ▸ mz)).trans h6) (λc x=>by obtain⟨f0,f1,f2,f3,f4,f5⟩:=hf c x;exact⟨by rw[aF (lt c x)];exact f0,f1,f2,f3,f4,f5⟩)
   refine⟨.ref s.heap.objs.size,_,I2,rfl,⟨_,U,rfl,I.fresh,rfl,wl,λm w hq ys hy=>?_⟩,⟨g7,?_,⟨Z,?_,by rw[ul,gL]⟩,λr f=>?_⟩,λc x=>?_⟩
   . have hm:m<U.length:=by rw[wl];exact(l8.mp hq).1
     have:=pw m U[m] (lC hm) w (by rw[Ds];exact hq) ys hy;exact⟨_,this,lC hm⟩
   . exact(g8.2 _ a2).trans (g6 O _ D.tm st.jm)
   . exact(g8.2 _ D.n2).trans g2
   . exact(g3 r f).at λo e=>(g8.2 _ (D.jz r f).1).trans e
   . rw[aF (lt c x)];exact(hf c x).1
 . intro X hP hw hK x Q a8 s σ H E I hf st hg
   subst hP hw hK;obtain⟨os,Y,h4⟩:=st.tU;obtain⟨nD,q0,Yn,ys,hy,hle⟩:=hg;have ex:∀r∈cZ A l,∃(y:List V) (R:List Value),jq X.K r.κ H r.a y/\fR r.κ s.heap r.a R.toArray/\R.length=y.length:=λr f=>by obtain⟨m,w,hq,rfl⟩:=mq f;obtain⟨y,h1⟩:=nD w (qt hq);obtain⟨R,rv,p,_⟩:=Fq I h1;exact⟨y,R,h1,p,rv.length.symm⟩
   have D:=zd λr f h=>by obtain⟨y,_,h1,_⟩:=ex r f;exact CN I (hf _ (nW _ h)) h1 rfl
   classical
   let xs:Src->Array Value:=λr=>if h:r∈cZ A l then(aen (R8 (ex r h))).toArray else #[];have mX:∀r∈cZ A l,∃(y:List V),jq X.K r.κ H r.a y/\fR r.κ s.heap r.a (xs r)/\(xs r).size=y.length:=λr f=>by obtain⟨a,b,c⟩:=R8 (R8 (ex r f));have e1:xs r=(aen (R8 (ex r f))).toArray:=dif_pos f;rw[<- e1]at b;exact⟨_,a,b,by rw[e1,m3];exact c⟩
   obtain⟨m0,Yo⟩:=TJ Yn;have SY:(cZ A l)[m0]? = some ⟨q0.1,A+m0,q0.2⟩:=by rw[lB,Yo];rfl
   have Yp:=qt SY;obtain⟨ah,p1,p2,p3⟩:=mX _ Yp;have QQ:(xs ⟨q0.1,A+m0,q0.2⟩)[Q]? = none:=by rw[wy I hy p1]at hle;exact ad_ (by lia)
   refine CP (xs:=xs) (os:=os) (I.ok.hd x) D st.hz st.jm Y (by rw[h4,gL]) st.it (λr f=>let⟨_,_,p,_⟩:=mX r f;p) (λZ h' ul uv g1 g2 g3 g5 g6=>?_) λ_ h' g=>⟨rfl,rW (t':=s.toks) (ch:=fY z tu (cZ A l)) I (λc o x e=>g c o x e) λc x=>hf c (nW _ x)⟩
   obtain⟨L,h1,_⟩:=uv m0 _ SY;rw[QQ]at h1;cases h1
def JP (a b c:Value):checkTypeCall "zip" ⟨[a,b,c],[]⟩=pure ():=by kernel_rfl
def JQ (a b c:Value):afF "zip.__new__" ⟨[.type "zip",a,b,c],[]⟩=pure ():=by kernel_rfl
def JR (o a b c:Value):TL "object.__init__" ⟨[o,a,b,c],[]⟩:=by unfold TL;rw[signature?_of (id:="object.__init__") (n:=['_','_','t','i','n','i','_','_']) (o:=['t','c','e','j','b','o']) (by kernel_rfl) F.owner_object];kernel_rfl
noncomputable def r6:D->Option (Bool×List D)
 |.lst c=>some (true,c)|.tup c=>some (false,c)|_=>none
noncomputable def oN:List D->Option (List (Bool×List D))
 | []=>some []|d::ds=>(r6 d).bind λq=>(oN ds).map λr=>q::r
noncomputable def ke (a:List (List D))(L:Nat):List D:=(nN L).map λi=>.tup (a.map λc=>c.getD i .ay)
noncomputable def qO (fr:FA):FI:=λc g=>(fr c g).bind λr=>(oN r.1).bind λa=>match a with
 | []=>none|q::t=>if((t.length == 1||t.length == 2)&&t.all λp=>p.2.length == q.2.length)=true then some (ke ((q::t).map (·.2)) q.2.length,r.2)else none
def AE {H ι d x j xs}(r:Rel z H ι d x)(h:r6 d=some (j,xs)){i f}(e:jC H ι i f):∃a g,x = .ref a/\jq z.fr j i a g/\ak z i f xs g:=by
 cases d with
 |lst n =>
  cases h;obtain⟨a,g,rfl,c,b⟩:=r;exact⟨a,g,rfl,(c.eF e).sq,ak.eF e _ b⟩
 |tup n =>
  cases h;obtain⟨a,g,rfl,c,b⟩:=r;exact⟨a,g,rfl,(c.eF e).sq,ak.eF e _ b⟩
 |_=>cases h
theorem yK {K:KW}{H ι}:∀{ds:List D} {n:List V} {g:List (Bool×List D)},ak K H ι ds n->oN ds=some g->∃l:List (Bool×Addr),n=l.map (λq=>V.ref q.2)/\l.length=g.length /\ ∀(m:Nat) (q:Bool×Addr),l[m]? = some q->∃d u,g[m]? = some (q.1,u)/\Rel K H ι d (.ref q.2)/\r6 d=some (q.1,u)
 | [],n,g,r,h=>by simp only[ak]at r;subst r;cases h;exact⟨[],rfl,rfl,λm q h=>by simp at h⟩
 |d::ds,n,g,r,h=>by
  obtain⟨v,x,rfl,c,j⟩:=r;obtain⟨⟨κ,u⟩,b,h⟩:=bind_some h;obtain⟨k,i,rfl⟩:=nP.mp h;obtain⟨l,rfl,f,p⟩:=yK j i;obtain⟨a,_,rfl,_⟩:=AE c b Ext.refl.eF;refine⟨(κ,a)::l,rfl,by simp[f],λm q e=>?_⟩;cases m with
  |zero=>simp at e;subst e;exact⟨d,u,rfl,c,b⟩|succ m=>simpa using p m q (by simpa using e)
theorem tX:∀{l:List (Bool×Addr)} {c:List Value},Vals (l.map λq=>V.ref q.2) c->c=l.map λq=>yE q.2
 | [],_,.nil=>rfl|q::l,_,.cons r t=>by cases r;rw[tX t];rfl
theorem yL {K:KW}{H ι}:∀{ds:List D} {c:List V},ds.length=c.length->(∀(m:Nat) (d:D),ds[m]? = some d->∃v,c[m]? = some v/\Rel K H ι d v)->ak K H ι ds c
 | [],[],_,_=>by simp only[ak]| [],_::_,h,_=>by simp at h|_::_,[],h,_=>by simp at h|d::ds,v::c,g,h=>by simp only[ak];obtain⟨w,e,r⟩:=h 0 d rfl;simp at e;subst e;exact⟨v,c,rfl,r,yL (by simpa using g) λm d e=>by simpa using h (m+1) d (by simpa using e)⟩
def Ft:∀{l:List (Bool×Addr)},l.length=2\/l.length=3->(∀q∈l,∃i,fR q.1 s.heap q.2 i) ->
  (∀g,IsZip g (s.heap.objs.size+l.length+2) (s.heap.objs.size+l.length) (s.heap.objs.size+l.length+1) .none->fu g (s.heap.objs.size+l.length) ((cZ s.heap.objs.size l).map λr=>.ref r.j)->fu g (s.heap.objs.size+l.length+1) (l.map λ_=>xa) ->
   (∀r∈cZ s.heap.objs.size l,kG r.κ g r.j r.a 0)->(∀c o,s.heap.get? c=some o->g.get? c=some o)->Q (.ref (s.heap.objs.size+l.length+2)) { s with heap:=g })->wpAny (model k u) O (call (.type "zip") (l.map λq=>.ref q.2)) Q E s
 | [],h,_,_=>by simp at h| [_],h,_,_=>by simp at h| [p,q],_,t,h=>tW (JN p q) (F.typeCall_zip_2 _ _) (F.newCall_zip_2 _ _) (λo=>F.args_object_init_3 o _ _) t h| [p,q,r],_,t,h=>tW (JO p q r) (JP _ _ _) (JQ _ _ _) (λo=>JR o _ _ _) t h|_::_::_::_::_,h,_,_=>by simp only[vq]at h;lia
theorem j2.ke {K:KW}{H ι}{l:List (Bool×Addr)}{A:List (Bool×List D)}{L:Nat}(B:l.length=A.length)(C:l ≠ [])(E:∀q∈A,q.2.length=L)
   (p:∀(m:Nat) (q:Bool×Addr),l[m]? = some q->∃d g,A[m]? = some (q.1,g)/\Rel K H ι d (.ref q.2)/\r6 d=some (q.1,g)):j2 K (Fs K.fr l) H ι (ke (A.map (·.2)) L):=λi O J g1 e1 R=>by
 have I:∀(m:Nat) (q:Bool×Addr),l[m]? = some q->∃g n,A[m]? = some (q.1,g)/\g.length=L/\jq K.fr q.1 O q.2 n/\ak K O J g n:=λm q e=>by obtain⟨d,g,f,s,b⟩:=p m q e;obtain⟨a,n,e2,c,k⟩:=AE s b e1;cases e2;exact⟨g,n,f,E _ (qt f),c,k⟩
 refine⟨λu=>⟨λq z=>?_,?_⟩,λd hd=>?_⟩
 . obtain⟨m,hm⟩:=TJ z
   obtain⟨_,n,_,_,h,_⟩:=I m q hm;exact⟨n,h⟩
 . have U:0<l.length:=adH.mpr C
   obtain⟨g,n,_,s,b,c⟩:=I 0 _ (lC U);refine⟨_,p6 U,n,b,?_⟩;rw[<- c.length,s];simpa[_root_.ke]using u
 . unfold _root_.ke at hd
   rw[m2]at hd;obtain⟨j,Q,rfl⟩:=nP.mp hd;have u:i<L:=by simpa using (l8.mp Q).1
   rw[Xw u]at Q;cases Q;have Y:∀(m:Nat) (q:Bool×Addr),l[m]? = some q->∃g n v,A[m]? = some (q.1,g)/\jq K.fr q.1 O q.2 n/\n[i]? = some v/\Rel K O J (g.getD i .ay) v:=λm q e=>by
     obtain⟨g,n,f,s,b,c⟩:=I m q e;have hx:g[i]? = some (g.getD i .ay):=by rw[nK,lC (by lia)];rfl
     obtain⟨v,k,r⟩:=c.get hx;exact⟨g,n,v,f,b,k,r⟩
   refine⟨λq z=>?_,λx H2 y=>?_⟩
   . obtain⟨m,hm⟩:=TJ z
     obtain⟨_,n,v,_,b,c,_⟩:=Y m q hm;exact⟨n,v,b,c⟩
   . obtain⟨T,ws,rfl,o,rfl,hw,hy⟩:=y
     refine⟨Ext.lay o,R.lay o,?_⟩;simp only[Rel];refine⟨T,ws,rfl,.inl ⟨.inl aQ,R.fresh o⟩,ak.ext (Ext.lay o) _ (yL (by simp[hw,B]) λm d hd=>?_)⟩;rw[Dd,m2]at hd;obtain⟨q',Z,rfl⟩:=nP.mp hd;have hm:m<l.length:=by rw[B];exact(l8.mp Z).1
     obtain⟨g,n,v,f,b,c,k⟩:=Y m _ (lC hm);obtain⟨v',r,h7⟩:=hy m _ (lC hm) n b;rw[c]at r;cases r;rw[Z]at f;cases f;exact⟨_,h7,k⟩
def Ny {x:It->Hp->Prop}(h:R.length=2\/R.length=3)(I:jo X b v H s)(u:∀g∈R,∃y,jq X.K g.1 H g.2 y)(hR:x (Fs X.K R) H):
  wpAny (model X.prog X.w) X.A (call (.type "zip") (R.map λg=>.ref g.2)) (λr s1=>wpAny (model X.prog X.w) X.A (Pp r) (Ll X b v (.Tuple B i q) x) X.xe s1) X.xe s:=by
 refine Ft h (λg hm=>let⟨_,e⟩:=u g hm;let⟨_,_,p,_⟩:=Fq I e;⟨_,p⟩) λo a f j k C=>wpAny_pyIter_zip a ?_;refine⟨s.heap.objs.size+R.length+2,j_ _ _ _ _ R,_,_,H,rfl,I.kept (t':=s.toks) C,CS s.heap.objs.size R (by lia) (λz=>by rw[z]at h;simp at h),⟨a,f,⟨_,j,by simp⟩,k⟩,λc n=>?_,hR⟩;have le:s.heap.objs.size<=c:=by
  simp only[j_,fY,CQ,l2,mM,Cn]at n;rcases n with rfl|rfl|rfl|⟨m,_,rfl⟩
  . exact TX _ _
  . exact n7 (TX _ R.length) (TX _ 2)
  . exact n7 (TX _ R.length) (TX _ 1)
  . exact TX _ _
 exact I.ny le (I.aV.fresh le)
def JS {O:List Expr}{A M:Pos}(K:Gl X "zip")(C:X.mg "zip" = none)(E:DA X (e::O) w)(L:lY (e::O) X.env=(false,eval e X.env)::lY O X.env)(J:(su A (lY O X.env)).any (·.1)=false):
  DI X (.Tuple B i M) (.Call (.Name "zip" q) (e::O) [] A) (qO w):=.of (by
 intro Q s U H R I h;obtain⟨Y,Z,g,ds,g',G0,S0,h,fr⟩:=h;obtain⟨⟨as,g1⟩,h1,h⟩:=bind_some h;obtain⟨qs,h2,h⟩:=bind_some h;cases qs with
 |nil=>cases h
 |cons q0 t =>
  dsimp only at h;split at h
  . rename_i x
    cases h;simp only[la,uG,beq_iff_eq,EN]at x;refine Call_ (ja I K C PyProof.Rows.boot_zip (XP (a_ (E.un A Q s U H (λf n=>∃b,Ext H Y n b/\az X.kw n b g'/\ak X.kw n b as f) I (iz.bind G0 S0 h1 λn b v k o S1 p=>⟨b,k,o,p⟩)) λus s1 aT=>?_) L J) (by decide) (by decide));obtain⟨f,n,I1,p,b,k,o,y⟩:=aT;obtain⟨l,rfl,r,u⟩:=yK y h2;obtain rfl:=tX p;have j:l.length=2\/l.length=3:=by rw[r,vq];lia
    have l0:l ≠ []:=λz=>by rw[z]at j;simp at j
    refine Ny j I1 (λfr c=>?_) (fr n b _ k o (.ke r l0 (λfr c=>?_) u))
    . obtain⟨m,C⟩:=TJ c
      obtain⟨d,xs,_,h3,h4⟩:=u m fr C;obtain⟨a,f,e2,h5,_⟩:=AE h3 h4 Ext.refl.eF;cases e2;exact⟨_,h5⟩
    . rcases l2.mp c with rfl|c
      . rfl
      . exact x.2 fr c
  . cases h)
def wA:qO w h a=(w h a).bind λr=>(oN r.1).bind λc=>match c with
 | []=>none|q::t=>if((t.length == 1||t.length == 2)&&t.all λp=>p.2.length == q.2.length)=true then some (ke ((q::t).map (·.2)) q.2.length,r.2)else none:=rfl
noncomputable def uQ (b a:D)(g:G):Option (D×G):=match b,a with
 |.lst c,.int k=>if(!c.isEmpty&&decide (0<=k)&&fQ k&&aC (c.length*k.toNat))=true then some (.ref g.length,g ++ [(l6 k.toNat c).flatten])else none|b,a=>bJ b a g
def JT:bQ X (qC .Mult) (dW X.kw uQ):=by
 intro n s B H x y v u Q I h j q;obtain⟨C,g,o,E,d,J,G0,b,c,q,p⟩:=q;unfold uQ at q;split at q
 . rename_i U k
   split at q
   . rename_i z
     simp only[la,decide_eq_true_eq,vR]at z;cases q;simp only[Rel]at b c;subst c;obtain⟨a,r,rfl,hq,f⟩:=b;have O:=fQ.and z.1.2;have l:=aC.le z.2;rw[Hy]at l;refine yB n s B H _ _ v u Q I h j ⟨a,k,r,rfl,rfl,hq.sq,?_,z.1.1.2,O.2,by rw[<- f.length];exact l,λR i=>?_⟩
     . intro e
       subst e;have:=f.length;simp at this;subst this;simp at z
     . refine p _ _ _ (Ext.push i) (G0.push i (f.rep _)) ?_
       simp only[Rel];exact⟨R,rfl,eE.new G0.len⟩
   . cases q
 . exact vU n s B H x y v u Q I h j ⟨C,g,o,E,d,J,G0,b,c,q,p⟩
@[simp] def S4:uQ (.lst r) (.int I) a=if(!r.isEmpty&&decide (0<=I)&&fQ I&&aC (r.length*I.toNat))=true then some (.ref a.length,a ++ [(l6 I.toNat r).flatten])else none:=rfl
mutual
noncomputable def jE:D->Bool
 |.tup c=>fZ c|.lst c=>fZ c|.fn _ _=>false|_=>true
noncomputable def fZ:List D->Bool
 | []=>true|d::ds=>jE d&&fZ ds
end
noncomputable abbrev Am:=Addr->Option Obj
noncomputable def dZ (m:Am)(H:Hp):Hp:=λb=>match m b with|some o=>some (oK b o)|none=>H b
noncomputable def dh (m:Am)(H:Hp):Hp:=λb=>match m b with|some _=>none|none=>H b
def jr {m:Am}(q:m f=some p):dZ m H f=some (oK f p):=by unfold dZ;rw[q]
def cz {m:Am}(q:m f=none):dZ m H f=H f:=by unfold dZ;rw[q]
def js {m:Am}(q:m f=some p):dh m H f=none:=by unfold dh;rw[q]
def bX {m:Am}(q:m f=none):dh m H f=H f:=by unfold dh;rw[q]
def jP {m:Am}(q:H f=none):dh m H f=none:=by
 cases z:m f with
 |none=>rw[bX z];exact q|some o=>exact js z
def CT {m:Am}(x:eC k u H A)(i:∀b o,m b=some o->A.get? b=some o/\H b=none):eC k u (dZ m H) A:=λb w e=>by
 cases q:m b with
 |some o =>
  rw[jr q]at e;cases e;exact⟨(i b o q).1,⟨o,(i b o q).1⟩,λf a p P=>P _ p⟩
 |none =>
  rw[cz q]at e;have keep:∀c v,H c=some v->dZ m H c=some v:=λc v r=>by
   cases z:m c with
   |none=>rw[cz z];exact r|some o=>rw[(i c o z).2]at r;cases r
  exact(x b w e).dn (λc v _ r=>r) (λc r=>keep c _ r) (λc g r=>keep c _ r) λc q r=>keep c _ r
def CU {m:Am}(x:eC k u H A)(a:∀b o,m b=some o->H b=some (oK b o)):eC k u (dh m H) A:=λb P e=>by
 cases q:m b with
 |some o=>rw[js q]at e;cases e
 |none =>
  rw[bX q]at e;have keep:∀c v,(∀o,v≠oK c o)->H c=some v->dh m H c=some v:=λc v n r=>by
   cases z:m c with
   |none=>rw[bX z];exact r|some o=>rw[a c o z]at r;exact absurd (wi r).symm (n o)
  exact(x b P e).dn (λc v _ r=>r) (λc r=>keep c _ (λ_ z=>by cases z) r) (λc g r=>keep c _ (λ_ z=>by cases z) r) λc q r=>keep c _ (λ_ z=>by cases z) r
def r_ {m:Am}(a:∀f o,m f=some o->H f=some (oK f o)){u:HO}(e:H f=some u)(n:∀o,u≠oK f o):m f=none:=by
 cases z:m f with
 |none=>rfl|some o=>rw[a f o z]at e;exact absurd (wi e).symm (n o)
def NA {m:Am}(u:Un T [] (dh m H) t A n)(i:∀b o,m b=some o->A.get? b=some o/\H b=some (oK b o)):Un T [] H (dZ m t) A n:=by
 have f:∀b,H b=none->m b=none:=λb g=>by
  cases z:m b with
  |none=>rfl|some o=>rw[(i b o z).2]at g;cases g
 have st:∀b v,(∀o,v≠oK b o)->H b=some v->(∀z:dh m H b=some v,t b=some v)->dZ m t b=some v:=λb v g e k=>by have z:=r_ (λb o q=>(i b o q).2) e g;rw[cz z];exact k (by rw[bX z];exact e)
 refine⟨λb o q g c a=>u.keep b o q (jP g) c a,λb o q g c a=>u.slot b o q (jP g) c a,λb o q g a=>?_,λb o q a=>u.there b o q a,
  λb p q=>st b _ (λ_ z=>by cases z) q λz=>u.kN b p z,λb o v q=>st b _ (λ_ z=>by cases z) q λz=>u.jQ b o v z,λb v h q=>st b _ (λ_ z=>by rw[z]at h;cases h) q λz=>u.jR b v h z⟩
 rw[cz (f b g)];exact u.free b o q (jP g) a
def NB {m:Am}(w:Un T [] (dZ m H) t A n)(i:∀b o,m b=some o->A.get? b=some o/\H b=none)(j:∀b o,m b=some o->t b=some (oK b o))(ok:eC k u t n):Un T [] H (dh m t) A n:=by
 have g:∀b o,m b=some o->n.get? b=some o:=λb o q=>(ok b _ (j b o q)).1;have f:∀b v,H b=some v->m b=none:=λb v e=>by
   cases z:m b with
   |none=>rfl|some o=>rw[(i b o z).2]at e;cases e
 have st:∀b v,H b=some v->(∀z:dZ m H b=some v,t b=some v)->dh m t b=some v:=λb v e P=>by rw[bX (f b v e)];exact P (by rw[cz (f b v e)];exact e)
 refine⟨λb o q p c a=>?_,λb o q p c a=>?_,λb o q p a=>?_,λb o q a=>w.there b o q a,λb x q=>st b _ q λz=>w.kN b x z,λb o v q=>st b _ q λz=>w.jQ b o v z,λb v h q=>st b _ q λz=>w.jR b v h z⟩
 . cases z:m b with
   |none=>exact w.keep b o q (by rw[cz z];exact p) c a
   |some r =>
    have:=(i b r z).1;rw[q]at this;cases this;exact g b o z
 . cases z:m b with
   |none=>exact w.slot b o q (by rw[cz z];exact p) c a
   |some r =>
    have:=(i b r z).1;rw[q]at this;cases this;exact⟨o.slots,g b o z⟩
 . cases z:m b with
   |none=>rw[bX z];exact w.free b o q (by rw[cz z];exact p) a|some r=>exact js z
section
variable {m:Am}
mutual
theorem Rel.wB (j:∀f p,m f=some p->H f=some (oK f p)):∀(d:D) {v:V},jE d=true->Rel z H K d v->Rel z (dh m H) K d v
 |.ay,v,_,A=>A|.bl _,v,_,A=>A|.int _,v,_,A=>A|.str _,v,_,A=>A
 |.tup h,v,o,A=>by
  simp only[Rel]at A ⊢;obtain⟨a,i,e,c,b⟩:=A;refine⟨a,i,e,?_,ak.wB j h o b⟩;rcases c with⟨A|⟨u,A⟩,n⟩|A
  . exact .inl ⟨.inl (by rw[bX (r_ j A λ_ o=>by cases o)];exact A),n⟩
  . exact .inl ⟨.inr ⟨u,by rw[bX (r_ j A λ_ o=>by cases o)];exact A⟩,n⟩
  . exact .inr A
 |.lst h,v,o,A=>by
  simp only[Rel]at A ⊢;obtain⟨a,i,e,c,b⟩:=A;refine⟨a,i,e,?_,ak.wB j h o b⟩;rcases c with⟨A|⟨u,A⟩,n⟩|A
  . exact .inl ⟨.inl (by rw[bX (r_ j A λ_ o=>by cases o)];exact A),n⟩
  . exact .inl ⟨.inr ⟨u,by rw[bX (r_ j A λ_ o=>by cases o)];exact A⟩,n⟩
  . exact .inr A
 |.eI,v,_,A=>by simp only[Rel]at A ⊢;obtain⟨a,e,c,b⟩:=A;exact⟨a,e,by rw[bX (r_ j c λ_ o=>by cases o)];exact c,b⟩
 |.ref n,v,_,A=>A|.bq n,v,_,A=>A|.fn x ds,v,o,A=>by cases o
theorem ak.wB (i:∀f p,m f=some p->H f=some (oK f p)):∀(ds:List D) {g:List V},fZ ds=true->ak z H K ds g->ak z (dh m H) K ds g
 | [],g,_,A=>A|d::ds,g,o,A=>by simp only[ak]at A ⊢;simp only[fZ,la]at o;obtain⟨v,b,a,e,c⟩:=A;exact⟨v,b,a,Rel.wB i d o.1 e,ak.wB i ds o.2 c⟩
end
end
def Ext.ky {m:Am}{ι:Ix}(f:∀b o,m b=some o->H b=none):Ext H ι (dZ m H) ι:=by
 have c:∀a v,H a=some v->m a=none:=λa v e=>by
  cases z:m a with
  |none=>rfl|some o=>rw[f a o z]at e;cases e
 refine⟨λa o q _=>by rw[cz (c a o q)];exact q,λa q=>?_,⟨[],by simp,λ_ q=>by simp at q⟩,rfl,λ_ _=>rfl⟩;cases e:H a with
 |none=>exact absurd e q|some v=>rw[cz (c a v e),e];simp
def az.empty (G0:az z H K a)(f:∀b,H b≠none->t b≠none\/b ∉ K.ix++K.hd)(j:∀q∈z.lx.tb,t q.1=H q.1):az z t (Ix.none K) []:=
 ⟨Sm,rfl,λb e=>⟨by simp[Ix.none],by
  have g:b∈K.ix++K.hd:=e;rcases mF.mp g with m|m
  . exact(f b (G0.ky m)).elim id λh=>absurd g h
  . exact(f b (G0.cP b m).2).elim id λh=>absurd g h⟩,λi n q=>by simp at q,λq c=>⟨by rw[j q c];exact(G0.tb q c).1,by simp[Ix.none]⟩⟩
def JU {m:Am}(G0:az z H K a)(f:∀b o,m b=some o->H b=some (oK b o)/\b ∉ K.ix)(e:Ext (dh m H) (Ix.none K) t ι'):Ext H K (dZ m t) K/\az z (dZ m t) K a /\ ∀g∈K.ix,t g=H g:=by
 have sm:∀g o,m g=none->H g=some o->t g=some o:=λg o h q=>e.same g o (by rw[bX h];exact q) (by simp[Ix.none]);have E0:Ext H K (dZ m t) K:=by
  refine⟨λg o q _=>?_,λg q=>?_,⟨[],by simp,λ_ q=>by simp at q⟩,rfl,λ_ _=>rfl⟩
  . cases h:m g with
    |none=>rw[cz h];exact sm g o h q|some i=>rw[jr h];rw[(f g i h).1]at q;exact q
  . cases h:m g with
    |some i=>rw[jr h];simp
    |none =>
     rw[cz h];exact e.there g (by rw[bX h];exact q)
 have same:∀g∈K.ix,t g=H g/\m g=none:=λg c=>by
  have h:m g=none:=by
    cases h:m g with
    |none=>rfl|some o=>exact absurd c (f g o h).2
  obtain⟨o,n,_⟩:=G0.lst c;exact⟨by rw[n];exact sm g o h n,h⟩
 exact⟨E0,G0.ext E0 λg c=>by rw[cz (same g c).2];exact(same g c).1,λg c=>(same g c).1⟩
def JV {m:Am}(G0:az z H K a)(i:∀b o,m b=some o->H b=none)(e:Ext (dZ m H) (Ix.none K) t ι'):Ext H K (dh m t) K/\az z (dh m t) K a/\(∀g∈K.ix,t g=H g) /\ ∀b o,m b=some o->t b=some (oK b o):=by
 have f:∀g v,H g=some v->m g=none:=λg v e=>by
  cases h:m g with
  |none=>rfl|some o=>rw[i g o h]at e;cases e
 have sm:∀g o,H g=some o->t g=some o:=λg o q=>e.same g o (by rw[cz (f g o q)];exact q) (by simp[Ix.none]);have E0:Ext H K (dh m t) K:=by
  refine⟨λg o q _=>by rw[bX (f g o q)];exact sm g o q,λg q=>?_,⟨[],by simp,λ_ q=>by simp at q⟩,rfl,λ_ _=>rfl⟩;cases h:H g with
  |none=>exact absurd h q|some v=>rw[bX (f g v h),sm g v h];simp
 have same:∀g∈K.ix,t g=H g/\m g=none:=λg c=>by obtain⟨o,n,_⟩:=G0.lst c;exact⟨by rw[n];exact sm g o n,f g o n⟩
 exact⟨E0,G0.ext E0 λg c=>by rw[bX (same g c).2];exact(same g c).1,λg c=>(same g c).1,λb o h=>e.same b _ (jr h) (by simp[Ix.none])⟩
noncomputable def cR (fn:Fn):Fn:=λds g=>if fZ ds=true then(fD fn ds g).bind λr=>if jE r.1=true then some r else none else none
def qP {ds g d g'}(h:cR l ds g=some (d,g')):fZ ds=true/\aP 0 ds=true/\(∃gx,l ds []=some (d,gx))/\bR 0 d=true/\jE d=true/\g'=g:=by
 unfold cR at h;split at h
 . rename_i z
   obtain⟨⟨j,n⟩,i,h⟩:=bind_some h;split at h
   . rename_i f
     cases h;obtain⟨a,b,c,e⟩:=i0 i;exact⟨z,a,b,c,f,e⟩
   . cases h
 . cases h
noncomputable def gI (fn:Fn):Fn:=λds g=>(fD fn ds g).bind λr=>if jE r.1=true then some r else none
def AF {ds g d g'}(h:gI l ds g=some (d,g')):aP 0 ds=true/\(∃gx,l ds []=some (d,gx))/\bR 0 d=true/\jE d=true/\g'=g:=by
 unfold gI at h;obtain⟨⟨j,n⟩,i,h⟩:=bind_some h;split at h
 . rename_i f
   cases h;obtain⟨a,b,c,e⟩:=i0 i;exact⟨a,b,c,f,e⟩
 . cases h
structure uR (l:d9):Prop where
 kind:l.sc.kind = .function
 co:l.sc.isCoroutine=false
 gen:l.sc.isGenerator=false
 Hm:∀y∈l.sc.names,y.2 ≠ .cell
 fr:∀x,l.sc.names.lookup x=some .free->x∈l.fv
 fv:∀x∈l.fv,l.sc.names.lookup x=some .free
 ps:∀x∈l.ps,l.sc.names.lookup x=some .local
 nd:(l.fv++l.ps).Nodup
 bind:∀(cl:List (Str×Addr)) (pm dE fT:Value) (us:List Value),us.length=l.ps.length->Th (agg "<lambda>" l.qual l.ar l.bd l.sc cl pm dE fT) ⟨us,[]⟩=pure (l.ps.zip us)
noncomputable def oO (lx:Lx)(P:p9)(w:World)(K:mW)(mg:Str->Option Value)(base:Heap)(l:d9)(a:List (Str×Addr))(f:Addr)(b:Value)(A:nc)(outer:List Env)(s:j0)(H:Hp):Cx where
 prog:=P
 w:=w
 K:=K
 mg:=mg
 base:=base
 A:=A.deeper (aeG l.qual l.sc s.heap.objs.size f b a)
 N:=l.fv++l.ps
 s₀:=s
 H₀:=H
 env:=aeG l.qual l.sc s.heap.objs.size f b a
 outer:=outer
 stack:=aeG l.qual l.sc s.heap.objs.size f b a::outer
 ex:=[]
 calm:=true
 fn:=λ_=>false
 pn:=[]
 lx:=lx
 xe:=λ_ _=>False
theorem cS.mem {H:Hp}{g:Ix}:∀{cl:List (Str×Addr)} {i:List V},cS H g cl i->∀c∈cl.map (·.2),∃o u,Xo H g c (oK c o)/\o.data = .cell (some u)
 |_,_,.nil,c,h=>by simp at h
 |_,_,.cons (c:=c0) (o:=o) (u:=u) x d r t,c,h=>by
  rcases l2.mp h with rfl|h
  . exact⟨o,u,x,d⟩
  . exact t.mem c h
theorem cS.get {H:Hp}{g:Ix}:∀{cl:List (Str×Addr)} {n:List V},cS H g cl n->∀{i:Nat} {v:V},n[i]? = some v->∃y c o u,cl[i]? = some (y,c)/\Xo H g c (oK c o)/\o.data = .cell (some u)/\kr v u
 |_,_,.nil,_,_,h=>by simp at h|_,_,.cons (y:=y) (c:=c) (o:=o) (u:=u) x d r t,0,v,h=>by simp at h;subst h;exact⟨y,c,o,u,rfl,x,d,r⟩|_,_,.cons x d r t,i+1,v,h=>by obtain⟨y,c,o,u,b,a⟩:=t.get (i:=i) (by simpa using h);exact⟨y,c,o,u,by simpa using b,a⟩
theorem cS.len {H:Hp}{g:Ix}:∀{cl:List (Str×Addr)} {c:List V},cS H g cl c->cl.length=c.length
 |_,_,.nil=>rfl|_,_,.cons x d r t=>by simp[t.len]
theorem fE {a:Type}:∀{cl:List (Str×a)} {y:Str} {c:a},(cl.map (·.1)).Nodup->(y,c)∈cl->cl.lookup y=some c
 | [],_,_,_,h=>by simp at h
 | (z,e)::cl,y,c,nd,h=>by
  rw[vb];rw[wh,DK]at nd;rcases l2.mp h with h|h
  . cases h;simp
  . rw[show(y == z)=false from beq_eq_false_iff_ne.mpr λe=>nd.1 (by rw[<- e];exact Cm (f:=(·.1)) h)]
    exact fE nd.2 h
theorem nS:∀{cl:List (Str×Addr)} {x y:Str} {c:Addr},(cl.map (·.2)).Nodup->(x,c)∈cl->(y,c)∈cl->x=y
 | [],_,_,_,_,h,_=>by simp at h
 | (z,e)::cl,x,y,c,nd,h1,h2=>by
  rw[wh,DK]at nd;rcases l2.mp h1 with a|a<;>rcases l2.mp h2 with b|b
  . cases a;cases b;rfl
  . cases a;exact absurd (Cm (f:=(·.2)) b) nd.1
  . cases b;exact absurd (Cm (f:=(·.2)) a) nd.1
  . exact nS nd.2 a b
def se (nd:U.Nodup)(c:Y.length=U.length)(b:U[i]? = some x)(a:Y[i]? = some Z):(U.zip Y).reverse.lookup x=some Z:=by refine fE ?_ (aej.mpr (qt (i:=i) (adJ.mpr ⟨b,a⟩)));rw[List.map_reverse,(List.reverse_perm _).nodup_iff,List.map_fst_zip (by lia)];exact nd
noncomputable def b_ (a:List (Str×Addr))(h:Heap):Am:=λb=>if b∈a.map (·.2)then h.get? b else none
def ie (e:b_ c A f=some p):f∈c.map (·.2)/\A.get? f=some p:=by
 unfold b_ at e;split at e
 . rename_i a;exact⟨a,e⟩
 . cases e
def wC (a:f∈c.map (·.2))(e:A.get? f=some p):b_ c A f=some p:=by unfold b_;rw[if_pos a];exact e
def cS.m (P:cS H K c y)(ok:eC k z.w H s.heap):∀b o,b_ c s.heap b=some o->s.heap.get? b=some o/\H b=some (oK b o)/\b ∉ K.ix:=λb o q=>by obtain⟨a,e⟩:=ie q;obtain⟨g,u,x,_⟩:=P.mem b a;have this:s.heap.get? b=some g:=(ok b _ x.1).1;rw[e]at this;cases this;exact⟨e,x.1,x.2.1⟩
def JW (S:uR g)(M:O.handled=none)(C:pJ k z.w z.fr z.mg n O outer s H)(J:c.map (·.1)=g.fv)(L:(c.map (·.2)).Nodup)(E:cS H K c y)(N:j.length=g.ps.length)(r:Vals j Y){tk:Tok}(cl:A.Ns s.heap.objs.size λbase=>(g.ps.zip Y).reverse.lookup base)(I:∀b o,s.heap.get? b=some o->A.get? b=some o):
   jo (oO z.lx k z.w z.fr z.mg n g c f Z O outer s (dh (b_ c s.heap) H)) [] ((y++j).map some) (dh (b_ c s.heap) H) { s with heap:=A,toks:=tk }:=by
 have S_:(c.map (·.1)).Nodup:=by rw[J];exact(Qs.mp S.nd).1
 have cm:=E.m C.aV
 have nT:∀x B,c.lookup x=some B->B∈c.map (·.2):=λx B e=>Cm (f:=(·.2)) (vD e)
 have Ta:∀B∈c.map (·.2),∃o u,s.heap.get? B=some o/\o.data = .cell (some u):=λB hc=>by obtain⟨o,u,x,d⟩:=E.mem B hc;exact⟨o,u,(C.aV B _ x.1).1,d⟩
 have Tb:y.length=g.fv.length:=by rw[<- E.len,<- J,oY]
 have U:∀b:Addr,b ∉ (oO z.lx k z.w z.fr z.mg n g c f Z O outer s (dh (b_ c s.heap) H)).ex:=λb l=>absurd (show b∈([]:List Addr) from l) (by simp);refine⟨⟨C.mod,S.kind,rfl,rfl,lb _,λbase l B A Q=>?_,λbase P=>?_,λbase B hf _=>(Nb hf).elim,λ_=>M,agi C.frames,.inr ⟨rfl,rfl⟩,λb l=>absurd l (U b),λb o e=>⟨(C.bs b o e).1,jP (C.bs b o e).2⟩,C.nq,λb _ _=>U b,λb l=>absurd l (U b),C.hU,λb hb=>jP (C.qf b hb)⟩,
   rfl,C.bare,Un.kept I,⟨_,cl,λi base v A Q h3=>?_⟩,λbase B h=>?_,jP (C.aV.fresh (lb _)),λbase B h=>?_,λp hp=>absurd (show p∈([]:List (Addr×Obj)) from hp) (by simp),(CU C.aV λb o q=>(cm b o q).2.1).kept I,?_⟩
 . exact nS L (vD A) (vD Q)
 . have P:g.sc.names.lookup base=some .cell\/g.sc.names.lookup base=some .free:=P
   rcases P with P|P
   . exact absurd rfl (S.Hm _ (vD P))
   . have:=S.fr base P
     rw[<- J]at this;obtain⟨⟨R,B⟩,hm,rfl⟩:=mM.mp this;exact⟨B,fE S_ hm⟩
 . have A:(g.fv++g.ps)[i]? = some base:=A
   have Q:((y++j).map some)[i]? = some (some v):=Q;rw[m2]at Q;have Q:(y++j)[i]? = some v:=by
     cases e:(y++j)[i]? with
     |none=>rw[e]at Q;cases Q|some a=>rw[e]at Q;cases Q;rfl
   by_cases hi:i<y.length
   . rw[m5 hi]at Q
     rw[m5 (by lia)]at A;obtain⟨R,B,o,u,e1,x,d,rv⟩:=E.get Q;have ey:R=base:=by
      have:(c.map (·.1))[i]? = some R:=by rw[m2,e1];rfl
      rw[J,A]at this;cases this;rfl
     subst ey;refine⟨u,rv,.inr ⟨.inr (S.fv R (qt A)),B,fE S_ (qt e1),o,I _ _ (C.aV B _ x.1).1,d⟩⟩
   . rw[th (by lia)]at Q
     rw[th (by lia),<- Tb]at A;obtain⟨u,hu,rv⟩:=r.get Q;refine⟨u,rv,.inl ⟨S.ps base (qt A),se (Qs.mp S.nd).2.1 (by rw[<- r.length];exact N) A hu⟩⟩
 . obtain⟨o,u,e,d⟩:=Ta B (nT base B h)
   exact⟨some u,o,I _ _ e,d⟩
 . obtain⟨o,u,e,d⟩:=Ta B (nT base B h)
   exact js (wC (nT base B h) e)
 . show((y++j).map some).length=(g.fv++g.ps).length
   rw[oY,lN,lN];lia
structure qQ (P:p9)(K:KW)(base:Heap)(k:Nat)(x:Str)(fn:Fn):Prop where
 run:∀(A:nc) (outer:List Env) (s:j0) (H:Hp) (ι:Ix) (a:Addr) (gF vs:List V) (us:List Value) (Q:VK) (ds es:List D) (d:D) (g g':G),dy k A->pJ P K.w K.fr K.mg base A outer s H->B3 K H ι x a gF->Vals vs us->az K H ι g->ak K H ι ds gF->ak K H ι es vs ->
  cR fn (ds++es) g=some (d,g')->fU K H ι d g' Q->F2 (model P K.w) A (.call (.ref a) ⟨us,[]⟩) (CR h_ outer P K.w H s Q E0) s
noncomputable def bF (nf n:Nat)(f:FE):Fn:=λds g=>if ds.length=nf+n then f (ds.map some) g else none
def Fu (P:∀ds g,l ds g=none):qQ k z A i x l:=⟨λK outer s H n a e f p Q ds b d g c _ _ _ _ _ _ _ h _=>by obtain⟨_,_,⟨gx,h⟩,_⟩:=qP h;rw[P]at h;cases h⟩
def NC (S:uR g)(E:z.lx.lm x=some g)(B:∀(cl:List (Str×Addr)) (a:Addr) (cd:Value) (l:nc) (outer:List Env) (s:j0) (H:Hp),dy i (l.deeper (aeG g.qual g.sc s.heap.objs.size a cd cl))->DE (oO z.lx k z.w z.fr z.mg A g cl a cd l outer s H) g.bd C):
   qQ k z A (i+1) x (bF g.fv.length g.ps.length C):=by
 refine⟨λl outer s H R a Y Z us Q ds es d base g' hr j K rv G0 rd re h p=>?_⟩;obtain⟨l',c,fT,pm,cl,gS,hf,hc,hn,hd2,hv⟩:=K;rw[E]at gS;cases gS;obtain⟨z1,z2,⟨gx,hx⟩,z3,z4,rfl⟩:=qP h;unfold bF at hx;split at hx
 . rename_i U
   have Tb:Y.length=g.fv.length:=by rw[<- hv.len,<- hn,oY]
   have Tc:Z.length=g.ps.length:=by have h1:=rd.length;have h2:=re.length;rw[lN]at U;lia
   have Yr:us.length=g.ps.length:=by rw[<- rv.length];exact Tc
   have KX:z.fr.In s.heap:=j.mod.kW.keeps λb o e=>(j.bs b o e).1;have lim:s.heap.NoLimit:=j.mod.nolimit.keeps λb o e=>(j.bs b o e).1;have ho:=(j.aV a _ hf.1).1;have jA:s.heap.CodeRec (.ref c) g.qual:=j.aV c _ hc.1;have cm:=hv.m j.aV;refine PySem.W.kla_callFunE hr.depth ho rfl S.co S.gen rfl jA ?_;rw[S.bind cl pm (.ref c) fT us Yr];refine kn (wpAny_newFunctionEnv S.Hm (λy hy=>S.ps y.1 (TB hy).1) (λh1 tv CV=>⟨lim.fresh _ CV,?_⟩) S.kind);show F2 _ _ (.expr g.bd (aeG g.qual g.sc s.heap.objs.size a (.ref c) cl)) _ _;have hk:∀b o,s.heap.get? b=some o->h1.get? b=some o:=λb o e=>CV.extBut b o (oZ (mA e)) (mn _ e);have I:jo (oO z.lx k z.w z.fr z.mg A g cl a (.ref c) l outer s (dh (b_ cl s.heap) H)) [] ((Y++Z).map some) (dh (b_ cl s.heap) H) { s with heap:=h1,toks:=s.toks+(g.ps.zip us).length }:=JW S hr.hd j hn hd2 hv Tc rv tv hk;have rl:ak z (dh (b_ cl s.heap) H) (Ix.none R) (ds++es) (Y++Z):=ak.wB (λb o q=>(cm b o q).2.1) _ z1 (ak.toN _ z2 (rd.append re));have Ge:az z (dh (b_ cl s.heap) H) (Ix.none R) []:=G0.empty (λb n=>by
    cases q:b_ cl s.heap b with
    |none=>exact .inl (by rw[bX q];exact n)
    |some o =>
     obtain⟨o',u,x,_⟩:=hv.mem b (ie q).1;exact .inr λf=>(mF.mp f).elim x.2.1 (x.2.2 rfl)) λq hq=>bX (by
     cases f:b_ cl s.heap q.1 with
     |none=>rfl|some o=>have:=(cm q.1 o f).2.1;rw[(G0.tb q hq).1]at this;cases this)
   have rs:bO z (dh (b_ cl s.heap) H) (Ix.none R) ((ds++es).map some) ((Y++Z).map some):=by
    refine⟨by rw[oY,oY];exact rl.length,λP dd q=>?_⟩;rw[m2]at q;cases e:(ds++es)[P]? with
    |none=>rw[e]at q;cases q
    |some dd' =>
     rw[e]at q;cases q;obtain⟨v,e1,e2⟩:=rl.get e;exact⟨v,by rw[m2,e1];rfl,e2⟩
   refine PySem.W.kla_codeExpr (Yq ((B cl a (.ref c) l outer s _ (hr.deeper _)).un [] _ _ _ (λv O=>∃ι',Ext (dh (b_ cl s.heap) H) (Ix.none R) O ι'/\Rel z O ι' d v) I ⟨Ix.none R,_,[],d,gx,Ge,rs,hx,λO ι' v e _ r=>⟨ι',e,r⟩⟩) (λu s' hs=>?_) λe s' f=>f.elim);obtain⟨v,O,J,Ys,ι',e,r'⟩:=hs;obtain⟨ab,G1,same⟩:=JU G0 (λb o q=>(cm b o q).2) e;have jb:Un (kz outer) [] (dh (b_ cl s.heap) H) O s.heap s'.heap:=J.base;have Yt:=NA jb λb o q=>⟨(cm b o q).1,(cm b o q).2.1⟩
   have back:∀b o,b_ cl s.heap b=some o->s'.heap.get? b=some o/\O b=none:=λb o q=>by
    have n:dh (b_ cl s.heap) H b=none:=js q;refine⟨?_,jb.free b o (cm b o q).1 n (by simp)⟩;have nf:b ∉ kz outer:=λf=>by have:=j.qf b f;rw[(cm b o q).2.1]at this;cases this
    exact jb.keep b o (cm b o q).1 n nf (by simp)
   refine⟨v,dZ (b_ cl s.heap) O,J.os,J.bare,Yt,CT J.aV back,Ys,p _ R v ab G1 ?_⟩;refine Rel.ext (Ext.ky λb o q=>(back b o q).2) d (Rel.qG e.cP (λb B=>?_) d z3 r');obtain⟨o,ev,ND⟩:=G0.lst B;exact⟨o,by rw[same b B];exact ev,ND⟩
 . cases hx
noncomputable def mr (sc:Scope):List Str:=((sc.names.filter (·.2 == .free)).map (·.1)).reverse
theorem mw {c:Str->Addr}{f:Str×v7->List (Str×Addr)->Sem (ForInStep (List (Str×Addr)))}:∀(L:List (Str×v7)) (g:List (Str×Addr)),(∀x r,(x,vt)∈L->f (x,.free) r=pure (.yield ((x,c x)::r))) ->
  (∀x k r,(k == vt)=false->f (x,k) r=pure (.yield r))->forIn L g f=pure ((((L.filter (·.2 == .free)).map (·.1)).reverse.map λx=>(x,c x))++g)
 | [],g,_,_=>by simp
 | (nm,kd)::L,g,h1,h2=>by
  rw[aeF];cases h:kd == vt with
  |true =>
   have e:kd = .free:=eq_of_beq h;subst e;rw[h1 nm g qc,pure_bind];show forIn L _ f=_;rw[mw L _ (λx r a=>h1 x r (nW _ a)) h2];simp
  |false =>
   rw[h2 nm kd g h,pure_bind];show forIn L _ f=_;rw[mw L _ (λx r a=>h1 x r (nW _ a)) h2];simp[h]
def uB {c:Str->Addr}(h:∀x,(x,vt)∈M.names->env.cells.lookup x=some (c x)):Y7 M env=pure ((mr M).map λx=>(x,c x)):=by
 unfold Y7 mr;refine(congrArg (λz=>z >>= _) (mw (c:=c) M.names [] (λx r a=>?_) λx k r b=>?_)).trans ?_
 . simp[cellOf,h x a]
 . simp[b]
 . rw[pure_bind,tA]
structure uS (X:Cx)(p:Pos)(x:Str)(l:d9):Prop where
 lm:X.lx.lm x=some l
 S:uR l
 Td:l.fv=mr l.sc
 df:l.ar.defaults = []
 kd:l.ar.kw_defaults = []
 tab:∃cc P,X.env.code = .ref cc/\ah0 X.base cc P/\(P,p,l.qual)∈X.lx.tb
 qual:X.env.qual ++ "<lambda>" = l.qual
 cells:∀y∈l.fv,X.env.scope.names.lookup y=some .cell
 al:∀y,X.fn y=true
inductive yM (X:Cx)(σ:ko):List (Str×Addr)->List V->Prop
 |nil:yM X σ [] []
 |cons {y:Str} {c:Addr} {v:V} {cl:List (Str×Addr)} {vs:List V} {i:Nat} (e:X.env.cells.lookup y=some c) (k:X.env.scope.names.lookup y=some .cell) (hN:X.N[i]? = some y) (hσ:σ[i]? = some (some v)) (t:yM X σ cl vs):yM X σ ((y,c)::cl) (v::vs)
inductive Fv (X:Cx)(H:Hp)(ι:Ix)(σ:ko):D->V->Prop
 |val {d:D} {v:V} (r:Rel X.kw H ι d v):Fv X H ι σ d v
 |lam {x:Str} {ds:List D} {l:d9} {a c:Addr} {fT pm:Value} {cl:List (Str×Addr)} {vs:List V} (hl:X.lx.lm x=some l) (hf:Xo H ι a (oK a (aeE "<lambda>" l.qual l.ar l.bd l.sc cl pm c fT))) (hc:Xo H ι c (.iq l.qual)) (hn:cl.map (·.1)=l.fv) (hd:(cl.map (·.2)).Nodup) (hv:yM X σ cl vs) (r:ak X.kw H ι ds vs):Fv X H ι σ (.fn x ds) (.ref a)
inductive nU (X:Cx)(H:Hp)(ι:Ix)(σ:ko):List D->List V->Prop
 |nil:nU X H ι σ [] []
 |cons {d:D} {v:V} {ds:List D} {vs:List V} (r:Fv X H ι σ d v) (t:nU X H ι σ ds vs):nU X H ι σ (d::ds) (v::vs)
theorem nU.len {X:Cx}{H ι σ}:∀{ds c},nU X H ι σ ds c->ds.length=c.length
 |_,_,.nil=>rfl|_,_,.cons r t=>by simp[t.len]
inductive tQ (X:Cx)(f:FA)(σ:ko)(H:Hp)(Q:List V->Hp->Prop):Prop
 |mk (ι:Ix) (σd:Sg) (g:G) (ds:List D) (g':G) (h0:az X.kw H ι g) (h1:bO X.kw H ι σd σ) (h2:f σd g=some (ds,g')) (h3:∀H' ι' vs,Ext H ι H' ι'->az X.kw H' ι' g'->nU X H' ι' σ ds vs->Q vs H'):tQ X f σ H Q
structure wD (X:Cx)(es:List Expr)(f:FA):Prop where of ::
 un:PA X es (tQ X f)
def JX:wD X [] ag:=.of (PA.imp nA λn H Q h=>by obtain⟨i,c,g,d,a,G0,b,h,p⟩:=h;cases h;exact p H i _ Ext.refl G0 .nil)
def Fw (fa:DE X e C)(n:wD X B w)(A:lY (e::B) X.env=(false,eval e X.env)::lY B X.env):wD X (e::B) (aa C w):=.of (
 PA.imp (kY fa.un n.un A) λJ H Q h=>by obtain⟨O,i,g,d,R,G0,f,h,p⟩:=h;obtain⟨⟨U,E⟩,l,h⟩:=bind_some h;obtain⟨⟨z,I⟩,y,h⟩:=bind_some h;cases h;refine tD.bind G0 f l λY s v x k c j=>?_;refine⟨s,i,E,z,I,k,c,y,λo q u a b r=>?_⟩;exact p o q _ (x.trans a) b (.cons (.val (Rel.ext a _ j)) r))
noncomputable def sf:List Nat->Sg->Option (List D)
 | [],_=>some []
 |i::is,c=>match c[i]? with
  |some (some d)=>(sf is c).map (d :: ·)|_=>none
noncomputable def my (x:Str)(is:List Nat):FE:=λc g=>(sf is c).map λds=>(.fn x ds,g)
noncomputable def CW (N:List Str)(is:List Nat)(c:List Str):Prop:=is.length=c.length /\ ∀(j:Nat) i y,is[j]? = some i->c[j]? = some y->N[i]? = some y
theorem CY {X:Cx}{H:Hp}{n:Ix}{A:Sg}{p:ko}(B:bO X.kw H n A p){c:Str->Addr}:∀{is:List Nat} {ys:List Str} {ds:List D},CW X.N is ys->(∀y∈ys,X.env.cells.lookup y=some (c y))->(∀y∈ys,X.env.scope.names.lookup y=some .cell)->sf is A=some ds ->
  ∃g,yM X p (ys.map λy=>(y,c y)) g/\ak X.kw H n ds g
 | [],[],ds,_,_,_,h=>by cases h;exact⟨[],.nil,by simp[ak]⟩| [],_::_,_,q,_,_,_=>by have:=q.1;simp at this|_::_,[],_,q,_,_,_=>by have:=q.1;simp at this
 |i::is,y::ys,ds,q,C,E,h=>by
  unfold sf at h;split at h
  . rename_i d hd
    obtain⟨x,r,rfl⟩:=nP.mp h;obtain⟨g,s,k⟩:=CY B (is:=is) (ys:=ys) ⟨by have:=q.1;simpa using this,λj o u a b=>q.2 (j+1) o u (by simpa using a) (by simpa using b)⟩ (λz e=>C z (nW _ e)) (λz e=>E z (nW _ e)) r;obtain⟨v,f,l⟩:=B.2 i d hd;refine⟨v::g,.cons (C y qc) (E y qc) (q.2 0 i y rfl rfl) f s,?_⟩;simp only[ak];exact⟨v,g,rfl,l,k⟩
  . cases h
def NF (L:uS X q x g){ι:Ix}(I:jo X b v H s)(G0:az X.kw H ι a)(p:∀l c Y pm s' Z,jo X b v Z s'->Ext H ι Z ι->az X.kw Z ι a->Xo Z ι l (oK l (aeE "<lambda>" g.qual g.ar g.bd g.sc (g.fv.map λy=>(y,(X.env.cells.lookup y).getD 0)) pm c Y))->Xo Z ι c (.iq g.qual)->Q (.ref l) s'):
   wpAny (model X.prog X.w) X.A (eval (.Lambda g.ar g.bd g.sc q) X.env) Q X.xe s:=by
 obtain⟨cc,P,Hn,Yu,NG⟩:=L.tab;obtain⟨U,ae⟩:=G0.tb _ NG;have U:H P=some (.cE q g.qual):=U;have iC:Y7 g.sc X.env=pure (g.fv.map λy=>(y,(X.env.cells.lookup y).getD 0)):=by
   rw[L.Td];refine uB (c:=λy=>(X.env.cells.lookup y).getD 0) λy hy=>?_;have:y∈g.fv:=by rw[L.Td];unfold mr;rw[aej];exact mM.mpr ⟨(y,.free),ro.mpr ⟨hy,rfl⟩,rfl⟩
   obtain⟨c,e⟩:=I.ok.has y (.inl (L.cells y this));rw[e];rfl
 obtain⟨ps,eP,ht,QR⟩:=I.aV P _ U;have hg:s.heap.Ns qr X.mg:=I.mod.glob.keeps I.bk;have C:ah0 s.heap cc P:=Yu.keeps I.bk;obtain⟨bm,J,B⟩:=I.mod.bm;have Yv:qr≠P:=λz=>by obtain⟨o,es,ep,e,d,_⟩:=hg;rw[z,eP]at e;cases e;cases d
 have Yw:bm≠P:=λz=>by have:=I.bk _ _ B.obj;rw[z,eP]at this;cases this;have z2:xa = .type "module":=B.cls;cases z2
 have Yx:bm≠qr:=λz=>by obtain⟨o,es,ep,e,d,_⟩:=hg;have:=I.bk _ _ B.obj;rw[z,e]at this;cases this;rw[B.data]at d;cases d
 have hb:s.heap.BuiltinsAt X.mg P:=⟨bm,J,B.name,B.ne,Yx,Yw,I.bk _ _ B.obj,B.cls,B.dict,B.data⟩
 refine PySem.W.kla_eval (by rw[defaultsOf_eq,L.df,L.kd];rfl) ?_;rw[L.qual];rcases QR with GY|⟨c,hf,hc⟩
 . refine PySem.W.kla_makeFunction (mg:=X.mg) iC I.ok.glob hg Hn C eP ht GY Yv hb λO Y f tk hx NH di Vy NI=>?_
   have j:H O=none:=I.aV.fresh NH;have NJ:s.heap.objs.size<=f.objs.size:=n7 NH (Sx di);have h:H f.objs.size=none:=I.aV.fresh NJ;have Ci:f.objs.size≠O:=YP di;have ab:O≠P:=λz=>by rw[z,U]at j;cases j
   have ah:f.objs.size≠P:=λz=>by rw[z,U]at h;cases h
   have e1:Ext H ι (upd H O (.iq g.qual)) ι:=Ext.lay j;have AG:upd H O (.iq g.qual) f.objs.size=none:=by rw[aF Ci];exact h
   have e2:=λo=>Ext.lay (ι:=ι) (o:=o) AG;have G1:az X.kw (upd H O (.iq g.qual)) ι a:=G0.lay j;have qR:∀(o:Obj) E J,E≠P->s.heap.get? E=some J->(f.push o).get? E=some J:=λo E J n e=>mn _ (hx E J n e);have R:∀o:Obj,o.isFreed=false->(f.push o).get? f.objs.size=some o:=λo z=>n3 _ z;refine p _ O Y ((X.mg "__name__").getD .none) _ (upd (upd H O (.iq g.qual)) f.objs.size (oK f.objs.size _)) (I.un (t':=tk) ⟨λE J e n _ _=>qR _ E J (λz=>by rw[z,U]at n;cases n) e,λE J e n _ _=>⟨J.slots,qR _ E J (λz=>by rw[z,U]at n;cases n) e⟩,λE J e n _=>?_,λE J e _=>?_,λE xs e=>?_,λE J u e=>?_,λE u _ e=>?_⟩ λE u e=>?_) (e1.trans (e2 _)) (G1.lay AG) ⟨aQ,G1.fresh AG,λ_=>G1.ia AG⟩ ⟨by rw[aF (ta Ci)];exact aQ,G0.fresh j,λz=>(by cases z)⟩
   . have l1:=mA e
     rw[aF (oZ (sY l1 NJ)),aF (oZ (sY l1 NH))];exact n
   . by_cases z:E=P
     . rw[z];exact⟨_,mn _ NI⟩
     . exact⟨J,qR _ E J z e⟩
   . rw[aF (aM e h),aF (aM e j)];exact e
   . rw[aF (aM e h),aF (aM e j)];exact e
   . rw[aF (aM e h),aF (aM e j)];exact e
   . have lift:∀E u,H E=some u->upd (upd H O (.iq g.qual)) f.objs.size (oK f.objs.size (aeE "<lambda>" g.qual g.ar g.bd g.sc (g.fv.map λy=>(y,(X.env.cells.lookup y).getD 0)) ((X.mg "__name__").getD .none) O Y)) E=some u:=λE u e=>by
       rw[aF (aM e h),aF (aM e j)];exact e
     by_cases za:E=f.objs.size
     . subst za
       rw[aQ]at e;cases e;exact⟨R _ rfl,⟨_,R _ rfl⟩,λh1 h2 q k=>k _ q⟩
     . rw[aF za]at e
       by_cases zc:E=O
       . subst zc
         rw[aQ]at e;cases e;exact Vy.push _
       . rw[aF zc]at e
         by_cases zp:E=P
         . subst zp
           rw[U]at e;cases e;refine⟨_,mn _ NI,?_,.inr ⟨O,?_,?_⟩⟩
           . rw[agD];exact TriplesOk_snoc _ _ _ _ ht
           . rw[agD];exact codeAmong_snoc _ ht GY
           . rw[aF (ta Ci)];exact aQ
         . refine(I.aV E u e).dn (λd a8 hd r=>qR _ d a8 ?_ r) (λd r=>lift d _ r) (λd xs r=>lift d _ r) λd r' r=>lift d _ r
           rcases hd with rfl|hd
           . exact zp
           . intro z;rw[z,U]at hd;cases hd
 . refine PySem.W.kla_makeFunctionHit (mg:=X.mg) iC I.ok.glob hg Hn C eP ht hf hb λY f tk hk jB=>?_
   have h:H f.objs.size=none:=I.aV.fresh jB;have kk:∀(o:Obj) E J,s.heap.get? E=some J->(f.push o).get? E=some J:=λo E J e=>mn _ (hk E J e);have R:∀o:Obj,o.isFreed=false->(f.push o).get? f.objs.size=some o:=λo z=>n3 _ z;have j:c ∉ ι.ix:=λz=>by
     obtain⟨o,ev,_⟩:=id (G0.lst z);rw[hc]at ev;cases ev;obtain⟨i,hi,e⟩:=NX.mp z;have Yy:i<a.length:=by rw[<- G0.len];exact hi
     obtain⟨E,o,vs,hb,h1,ov,_⟩:=G0.at_ i _ (lC Yy);rw[lC hi,e]at hb;cases hb;rw[hc]at h1;cases h1;generalize ι.kd i=kk at ov;cases ov
   have e2:=λo=>Ext.lay (ι:=ι) (o:=o) h;refine p _ c Y _ _ (upd H f.objs.size (oK f.objs.size _)) (I.laid (t':=tk) (kk _) jB ⟨R _ rfl,⟨_,R _ rfl⟩,λh1 h2 q k=>k _ q⟩) (e2 _) (G0.lay h) ⟨aQ,G0.fresh h,λ_=>G0.ia h⟩ ⟨by rw[aF (aM hc h)];exact hc,j,λz=>(by cases z)⟩
theorem baz {k o:Type}{f:k->o}:∀{l:List k},(∀x∈l,∀y∈l,f x=f y->x=y)->l.Nodup->(l.map f).Nodup
 | [],_,_=>Sm|x::l,h,nd=>by rw[wh,DK];rw[DK]at nd;refine⟨λz=>?_,baz (λa j b i=>h a (nW _ j) b (nW _ i)) nd.2⟩;obtain⟨y,c,e⟩:=mM.mp z;have:=h y (nW _ c) x qc e;rw[this]at c;exact nd.1 c
def JY {is:List Nat}(L:uS X q x g)(fr:CW X.N is g.fv)(A:wD X B w):wD X (.Lambda g.ar g.bd g.sc q::B) (aa (my x is) w):=.of (by
 intro pos J s O H Q I h;obtain⟨R,n,p,d,g',G0,v,h,U⟩:=h;obtain⟨⟨d1,g1⟩,i,h⟩:=bind_some h;obtain⟨⟨Y,Z⟩,h2,h⟩:=bind_some h;cases h;unfold my at i;obtain⟨ds,hc,i⟩:=nP.mp i;cases i;have k:∀y∈g.fv,X.env.cells.lookup y=some ((X.env.cells.lookup y).getD 0):=λy o=>by obtain⟨c,e⟩:=I.ok.has y (.inl (L.cells y o));rw[e];rfl
 obtain⟨vc,r,rc⟩:=CY v fr k L.cells hc;show wpAny _ _ (spliced ((false,eval (.Lambda g.ar g.bd g.sc q) X.env)::su pos (lY B X.env))) _ _ s;refine aeY (NF L I G0 λa c fT pm s1 H1 I1 u G1 xf xc=>?_);refine a_ (A.un pos J s1 O H1 (λf b=>Q (.ref a::f) b) I1 ⟨R,n,p,Y,Z,G1,v.ext u,h2,λb C f j G2 rq=>?_⟩) λus s2 ⟨f,b,I2,r2,q2⟩=>⟨.ref a::f,b,I2,.cons rfl r2,q2⟩
 refine U b C _ (u.trans j) G2 (.cons (.lam L.lm (xf.ext j) (xc.ext j) ?_ ?_ r (ak.ext (u.trans j) _ rc)) rq)
 . rw[Dd];exact af4 _
 . rw[Dd]
   refine baz (λy o z hz e=>?_) (Qs.mp L.S.nd).1;have e:(X.env.cells.lookup y).getD 0=(X.env.cells.lookup z).getD 0:=e;have E:=k y o;rw[e]at E;exact I.ok.inj y z _ E (k z hz))
noncomputable def et (X:Cx):List (Str×Addr):=(X.env.cells.map (·.1)).filterMap λy=>(X.env.cells.lookup y).map λc=>(y,c)
def nX (h:f∈(et X).map (·.2)):∃y,X.env.cells.lookup y=some f:=by obtain⟨⟨y,c⟩,hm,rfl⟩:=mM.mp h;obtain⟨z,_,e⟩:=OW.mp hm;obtain⟨i,a,b⟩:=nP.mp e;cases b;exact⟨_,a⟩
def CZ (e:X.env.cells.lookup x=some d):d∈(et X).map (·.2):=
 mM.mpr ⟨(x,d),OW.mpr ⟨x,Cm (f:=(·.1)) (vD e),by rw[e];rfl⟩,rfl⟩
def AH (I:jo X b v H s):∀g o,b_ (et X) s.heap g=some o->s.heap.get? g=some o/\H g=none:=λg o q=>by obtain⟨a,e⟩:=ie q;obtain⟨y,c⟩:=nX a;exact⟨e,I.gH y g c⟩
section
variable {σ:ko}
theorem tY (I:jo X b σ H s)(G0:az X.kw H K a):∀{cl:List (Str×Addr)} {i:List V},yM X σ cl i->cS (dZ (b_ (et X) s.heap) H) K cl i
 |_,_,.nil=>.nil
 |_,_,.cons (y:=y) (c:=c) (v:=v) e k hN hσ t=>by
  obtain⟨mm,_,f⟩:=I.loc;obtain⟨u,r,h⟩:=f _ y v hN hσ (.inr (.inl k));rcases h with⟨g,_⟩|⟨_,c',e',o,ho,hd⟩
  . have g:X.env.scope.names.lookup y=some .local:=g
    rw[k]at g;cases g
  . rw[e]at e';cases e'
    have n:=I.gH y c e;exact .cons ⟨jr (wC (CZ e) ho),G0.fresh n,λ_=>G0.ia n⟩ hd r (tY I G0 t)
end
theorem wF (I:jo X b v H s)(G0:az X.kw H K a):∀{ds:List D} {c:List V},nU X H K v ds c->ak X.kw (dZ (b_ (et X) s.heap) H) K ds c
 |_,_,.nil=>by simp[ak]
 |_,_,.cons r t=>by
  have e:Ext H K (dZ (b_ (et X) s.heap) H) K:=Ext.ky λg o q=>(AH I g o q).2;simp only[ak];refine⟨_,_,rfl,?_,wF I G0 t⟩;cases r with
  |val r=>exact Rel.ext e _ r
  |lam h hf i n hd p r =>
   simp only[Rel];exact⟨_,_,rfl,.inr ⟨_,_,_,_,_,h,hf.ext e,i.ext e,n,hd,tY I G0 p⟩,ak.ext e _ r⟩
def JZ (I:jo X b v H s)(i:∀y,X.fn y=true):pJ X.prog X.w X.K X.mg X.base X.A X.stack s (dZ (b_ (et X) s.heap) H):=by
 have a:=I.EB;have p:∀g o,b_ (et X) s.heap g=some o->X.s₀.heap.objs.size<=g:=λg o q=>by obtain⟨y,f⟩:=nX (ie q).1;exact I.ok.xX y g (i y) f
 refine⟨a.frames,a.mod,λg o e=>⟨(a.bs g o e).1,?_⟩,a.nq,a.hU,λg c=>?_,CT a.aV (AH I),a.bare⟩
 . rw[cz ?_]
   . exact(a.bs g o e).2
   . cases z:b_ (et X) s.heap g with
     |none=>rfl|some n=>exact absurd (sY (mA e) (n7 I.ok.nq (p g n z))) (Ac _)
 . rw[cz ?_]
   . exact a.qf g c
   . cases z:b_ (et X) s.heap g with
     |none=>rfl
     |some n =>
      obtain⟨y,f⟩:=nX (ie z).1;rcases l2.mp (I.qg g c)with e|c
      . exact absurd e (I.sJ y g f)
      . obtain⟨_,o,h,_⟩:=I.ok.hU.mem c
        exact absurd (sY (mA h) (p g n z)) (Ac _)
def Fx {E:u9}{nm:Pos}(F:d_ X.prog X.w X.kw X.mg X.base h_ i f E U (kD X.kw o l))(K:dy i X.A)(T:X.mg x=some (.ref f))(P:KR X.kw (.ref f)=true)(C:Gj X.kw E U [])(N:∀ds g r,l ds g=some r->ds.length=o)(S:∀y,X.fn y=true)(L:wD X (e::B) w)(M:Gl X x)(O:(x == ("__debug__":Str))=false)(es:lY (e::B) X.env=(false,eval e X.env)::lY B X.env)(J:(su nm (lY B X.env)).any (·.1)=false):DE X (.Call (.Name x q) (e::B) [] nm) (ao (gI l) w):=.of (by
 intro a8 s σ H Q I h;obtain⟨ι,σd,g,d,g',G0,S0,h,k⟩:=h;obtain⟨⟨ds,g1⟩,h1,h⟩:=bind_some h;refine OT (oz I M T ?_ O);refine aeZ (h₀:=X.base) I.ok.mod.kW P (a_ (L.un nm a8 s σ H (λj R=>∃a,Ext H ι R a/\az X.kw R a g1/\nU X R a σ ds j) I ⟨ι,σd,g,ds,g1,G0,S0,h1,λR a j e1 n Y=>⟨a,e1,n,Y⟩⟩) λZ s1 ⟨j,R,fn,r,a,e1,n,Y⟩=>⟨fn.mP,?_⟩) es J;obtain⟨z1,⟨gx,hx⟩,z3,z4,rfl⟩:=AF h;have cm:=AH fn;have rl:=wF fn n Y;have hl:j.length=o:=by rw[<- Y.len];exact N _ _ _ hx
 have Ge:az X.kw (dZ (b_ (et X) s1.heap) R) (Ix.none a) []:=n.empty (λb nn=>.inl ((Ext.ky (ι:=a) λb ps k=>(cm b ps k).2).there b nn)) λk c=>by rw[(n.tb k c).1];exact(Ext.ky (ι:=a) λb ps k=>(cm b ps k).2).same _ _ (n.tb k c).1 (n.tb k c).2
 have sp:kD X.kw o l j (dZ (b_ (et X) s1.heap) R) (λv z=>∃p,Ext (dZ (b_ (et X) s1.heap) R) (Ix.none a) z p/\Rel X.kw z p d v) E0:=⟨hl,Ix.none a,[],ds,d,gx,Ge,ak.toN _ z1 rl,hx,λz p v e _ r=>⟨p,e,r⟩⟩
 have YA:(Z ++ []).length=U.length:=by rw[tA,<- r.length];exact F.len _ _ _ _ sp
 have GA:=C s1 Z fn.mP YA;rw[tA]at GA;refine agh (SR (F.run X.A X.stack s1 (dZ (b_ (et X) s1.heap) R) ⟨Z,[]⟩ Z j _ E0 K (JZ fn S) GA r sp) λrr s' c=>?_);cases rr with
 |error e=>exact c.elim
 |ok fl =>
  cases fl with
  |next=>exact vT c|brk=>exact vT c|cont=>exact vT c
  |ret u =>
   obtain⟨v,z,os,bare,un,aV,rv,p,e,r'⟩:=c;obtain⟨E1,G2,same,jD⟩:=JV n (λb ps k=>(cm b ps k).2) e;refine fn.after ⟨v,dh (b_ (et X) s1.heap) z,os,bare,NB un cm jD aV,CU aV jD,rv,?_⟩;refine k _ a v (e1.trans E1) G2 (Rel.wB jD d z4 (Rel.qG e.cP (λb C=>?_) d z3 r'));obtain⟨ps,ev,ND⟩:=n.lst C;exact⟨ps,by rw[same b C];exact ev,ND⟩)
end
section
open PyProof.Rows
variable {E:Expr->FE}{p:List Value->Prop}{Z:Env}{Y:Nat->Nat->Fn}{R:List YC}{r:Bool}{Q:Nat->u9}{O:List (Addr×Pos×Str)}{K:Nat->Addr}{I:Str->Option Value}{y:List CmpOp}{w:KW}{v:mW}{t:List Addr}{n:Expr->FT}{m:List u9}{j:SW}{h:Stmt}{d:FG}{c:d9}{a:Expr}
structure G0 where
 T:Nat->Fn
 k:Nat
 fns:List (Str×Nat×Nat)
 kH:List Str
 wG:List (Str×D)
 wH:List (Str×List (Str×D))
 NL:List (Str×Nat)
structure Cs where
 N:List Str
 sc:Scope
 all:Bool
 mt:List Str
 own:List Str
 lam:Option (Pos×Str×d9)
inductive wI (m:G0)(X:Cx)(x:Str)(i n:Nat):Prop
 |mk (f:Addr) (fd:u9) (ps:List Str) (ok:d_ X.prog X.w X.K X.mg X.base h_ m.k f fd ps (kD X.kw n (m.T i))) (hm:X.mg x=some (.ref f)) (kp:KR X.K (.ref f)=true) (b:Gj X.K fd ps []) (ln:∀ds g r,m.T i ds g=some r->ds.length=n):wI m X x i n
structure Gd (m:G0)(c:Cs)(X:Cx):Prop where
 hN:X.N=c.N
 hs:X.env.scope=c.sc
 nd:c.N.Nodup
 xe:X.xe=λ_ _=>False
 cm:X.calm=true
 rm:dy m.k X.A
 al:c.all=true->∀x,X.fn x=true
 ow:∀x∈c.own,X.fn x=true
 fn:∀x i n,(x,i,n)∈m.fns->wI m X x i n
 bl:∀x∈m.kH,X.mg x=none
 cn:∀x d,(x,d)∈m.wG->∃v u,X.mg x=some u/\kr v u /\ ∀K H ι,Rel K H ι d v
 dc:∀x t,(x,t)∈m.wH->∃a,X.mg x=some (.ref a)/\i4 X.w X.kw a t
 lf:∀x i n,(x,i,n)∈m.fns->X.lx.lm x=none
 ll:∀x i,(x,i)∈m.NL->(∃l,X.lx.lm x=some l)/\qQ X.prog X.kw X.base m.k x (m.T i)
 lh:∀p x l,c.lam=some (p,x,l)->uS X p x l
noncomputable def kg:FT:=λ_ _=>none
noncomputable def qS:FA:=λ_ _=>none
noncomputable def cM:FS:=λ_ _=>none
noncomputable def qT:FI:=λ_ _=>none
noncomputable def qU:FG:=λ_ _ _=>none
def sg:DT X e kg:=.of (λc s g H Q I h=>by obtain⟨_,_,_,_,_,_,_,h,_⟩:=h;cases h)
def si:DA X B qS:=.of (λ_ c s g H Q I h=>by obtain⟨_,_,_,_,_,_,_,h,_⟩:=h;cases h)
def cH:DS X h cM:=.of (λc s g H Q I e=>by obtain⟨_,_,_,_,_,_,_,_,e,_⟩:=e;cases e)
def sj:DI X J e qT:=.of (λc s g H Q I h=>by obtain⟨_,_,_,_,_,_,_,h,_⟩:=h;cases h)
def oP:DG X e qU:=.of (λc s g H v u Q I r h=>by obtain⟨_,_,_,_,_,_,_,_,_,h,_⟩:=h;cases h)
noncomputable def isStar (e:Expr):Bool:=Bx e.ctorIdx 22
noncomputable def isSet (e:Expr):Bool:=Bx e.ctorIdx 7
noncomputable def uT (e:Expr):Bool:=Bx e.ctorIdx 26
noncomputable def nY (e:Expr):Bool:=Bx e.ctorIdx 8||Bx e.ctorIdx 9||Bx e.ctorIdx 10
noncomputable def QS (e:Expr):Bool:=Bx e.ctorIdx 24
noncomputable def qV (e:Expr):Bool:=Bx e.ctorIdx 25
noncomputable def yN (e:Expr):Bool:=Bx e.ctorIdx 16
noncomputable def mB:Expr->Bool
 |.UnaryOp .Not _ _=>false|.BoolOp ..=>false|.IfExp ..=>false|.Compare ..=>false|_=>true
noncomputable def QT (e:Expr):Bool:=Bx e.ctorIdx 23||Bx e.ctorIdx 21||Bx e.ctorIdx 19
def bG (h:isStar e=false):lY (e::B) Z=(false,eval e Z)::lY B Z:=by cases e<;>first|rfl|cases h
def marks {op:CmpOp}(h:isSet e=false):Y2 op e=false:=by cases e<;>first|rfl|cases h
def plainT (h:mB e=true):∀whole,isTrue e Z whole=(do let c <- whole;Yj e.pos;zk [c] (truthy c)):=by
 intro whole;cases e with
 |UnaryOp op a p=>cases op<;>first|rfl|cases h
 |_=>first|rfl|cases h
def yO (h:uT e=false):oA e:=by intro o i;cases e<;>first|rfl|cases h
def baseOk (h:yN e=false):Zg e x Z (eval e Z)=eval e Z:=by cases e<;>first|rfl|cases h
def wJ {t:Option Expr}(h:nY e=false):NM e t i Z=pure false:=by cases e<;>first|rfl|cases h
def mC (h:isSet e=false):∀x,y3 e Z x=pure x:=by intro x;cases e<;>first|rfl|cases h
def gW (h:B.any isStar=false):(su q (lY B Z)).any (·.1)=false:=by
 induction B with
 |nil=>rfl
 |cons e B c =>
  rw[vy,El]at h;rw[bG h.1]
  show(false||(su q (lY B Z)).any (·.1))=false
  rw[c h.2];rfl
def wK (h:B.any isStar=false):(su q (lY B Z)).all (λx=>!x.1)=true:=by
 induction B with
 |nil=>rfl
 |cons e B c =>
  rw[vy,El]at h;rw[bG h.1];show(true&&(su q (lY B Z)).all (λx=>!x.1))=true;rw[c h.2];rfl
noncomputable def kh:List Str->Str->Option Nat
 | [],_=>none|y::N,x=>if y == x then some 0 else(kh N x).map (· + 1)
theorem f_:∀{N:List Str} {x:Str} {i:Nat},kh N x=some i->N[i]? = some x
 | [],_,_,h=>by cases h
 |y::N,x,i,h=>by
  unfold kh at h;split at h
  . rename_i e
    cases h;simp[eq_of_beq e]
  . obtain⟨j,a,rfl⟩:=nP.mp h
    simpa using f_ a
theorem lookup_mem {c:Type}:∀{l:List (Str×c)} {x:Str} {a:c},l.lookup x=some a->(x,a)∈l
 | [],_,_,h=>by cases h
 | (y,b)::l,x,a,h=>by
  rw[vb]at h;split at h
  . rename_i e
    cases h;rw[eq_of_beq e];exact qc
  . exact nW _ (lookup_mem h)
def nn {a:Type}{x:a}{P:Prop}(h:(none:Option a)=some x):P:=nomatch h
noncomputable def yP:Expr->Option (Str×Pos)
 |.Name x p=>some (x,p)|_=>none
def qW (h:yP e=some (x,q)):e = .Name x q:=by
 cases e with
 |Name y q=>cases h;rfl|_=>exact nn h
noncomputable def nV (e:Expr):Option Str:=(yP e).map (·.1)
def oQ (h:nV e=some x):∃p,e = .Name x p:=by obtain⟨⟨y,p⟩,a,rfl⟩:=nP.mp h;exact⟨p,qW a⟩
noncomputable def Ho:Expr->Option (Expr×Expr×Pos)
 |.Subscript o i p=>some (o,i,p)|_=>none
def wL (h:Ho e=some (J,a,q)):e = .Subscript J a q:=by
 cases e with
 |Subscript=>cases h;rfl|_=>exact nn h
noncomputable def sV (e:Expr):Option (Expr×Expr):=(Ho e).map λq=>(q.1,q.2.1)
def AI (h:sV e=some (J,a)):∃p,e = .Subscript J a p:=by obtain⟨⟨c,f,p⟩,b,o⟩:=nP.mp h;cases o;exact⟨p,wL b⟩
noncomputable def tV:Expr->Option (List Expr)
 |.Tuple c _ _=>some c|_=>none
def AJ (h:tV e=some B):∃k p,e = .Tuple B k p:=by
 cases e with
 |Tuple a k p=>cases h;exact⟨k,p,rfl⟩|_=>exact nn h
noncomputable def C0:Expr->Option (Expr×List Expr×Pos)
 |.Call f c g p=>if g.isEmpty then some (f,c,p)else none|_=>none
def qX (h:C0 e=some (J,B,q)):e = .Call J B [] q:=by
 cases e with
 |Call g i c f=>cases c with
  |nil=>cases h;rfl|cons=>exact nn h
 |_=>exact nn h
noncomputable def cV (e:Expr):Option (Str×List Expr):=(C0 e).bind λq=>(nV q.1).map λx=>(x,q.2.1)
def Hq (h:cV e=some (x,B)):∃p q,e = .Call (.Name x p) B [] q:=by obtain⟨⟨f,b,q⟩,c,h⟩:=bind_some h;obtain⟨y,a,h⟩:=nP.mp h;cases h;obtain⟨p,a⟩:=oQ a;exact⟨p,q,by rw[qX c];exact congrArg (λz=>Expr.Call z b [] q) a⟩
noncomputable def baV {c:Type}:List c->Option (c×c)
 | [a,b]=>some (a,b)|_=>none
def C2 {c:Type}{l:List c}{a b:c}(h:baV l=some (a,b)):l = [a,b]:=by
 cases l with
 |nil=>cases h
 |cons x l=>cases l with
  |nil=>cases h
  |cons y l=>cases l with
   |nil=>cases h;rfl|cons=>cases h
noncomputable def gV:List YC->Option (Expr×Expr×List Expr)
 | [g]=>if g.is_async=0 then some (g.target,g.iter,g.ifs)else none|_=>none
def Hr (h:gV R=some (e,J,B)):R = [⟨e,J,B,0⟩]:=by
 cases R with
 |nil=>cases h
 |cons g R=>cases R with
  |cons=>cases h
  |nil =>
   obtain⟨a,b,d,k⟩:=g;change (if k=0 then some (a,b,d)else none)=some _ at h;by_cases c:k=0
   . subst c;cases h;rfl
   . rw[if_neg c]at h;cases h
noncomputable def iO (x:Str):Bool:=x == ("__debug__":Str)||x == ("__classdict__":Str)||x == ("__name__":Str)
def nZ (h:iO x=false):(x == ("__debug__":Str))=false/\(x == ("__classdict__":Str))=false/\x ≠ "__name__":=by simp only[iO,El]at h;exact⟨h.1.1,h.1.2,λe=>by have:=h.2;rw[e]at this;simp at this⟩
structure mD where
 nm:Str
 fn:Fn
 ok:∀{X:Cx} {k:Nat},dy k X.A->X.calm=true->(∃id,dX X (.builtin id) (kA X.kw fn)/\Nu nm=some (.builtin id))\/(∃T,dX X (.type T) (kA X.kw fn)/\Nu nm=some (.type T))
structure AK where
 nm:Str
 iD:D->Bool
 m:D->List D->G->Option (D×G)
 ok:∀{X:Cx} {k:Nat},dy k X.A->∃T id,MR X T nm id iD m
noncomputable def aE (E:Expr->FE):List Expr->FA
 | []=>ag|e::c=>if isStar e then qS else aa (E e) (aE E c)
structure uU where
 nm:Str
 tup:Bool
 f:(Expr->FE)->List Expr->FI
 ok:∀{X:Cx} {k:Nat} {E:Expr->FE} {tg:Expr} {as:List Expr} {p pos:Pos},dy k X.A->X.calm=true->X.mg nm=none->Gl X nm->(∀e,DE X e (E e))->as.any isStar=false->(tup=true->qV tg=true)->DI X tg (.Call (.Name nm p) as [] pos) (f E as)
structure qY where
 e:G0->Cs->(Expr->FE)->Bool->Expr->Option FE
 C3:∀{m:G0} {c:Cs} {X:Cx} {E:Expr->FE},Gd m c X->(∀e,DE X e (E e))->∀{rf x f},e m c E rf x=some f->DE X x f
 t:G0->Cs->(Expr->FE)->Expr->Option FT
 tok:∀{m:G0} {c:Cs} {X:Cx} {E:Expr->FE},Gd m c X->(∀e,DE X e (E e))->∀{x f},t m c E x=some f->DT X x f
structure Pk where
 bl:List mD
 br:List mD
 mt:List AK
 it:List uU
 xr:List qY
noncomputable def C4:Const->FE
 |.int i=>fC (.int i)|.str x=>fC (.str x)|.bool b=>fC (.bl b)|.none=>fC .ay|_=>cg
noncomputable def uV:Option v7->Bool
 |some .local=>true|some .cell=>true|some .free=>true|_=>false
noncomputable def eName (m:G0)(c:Cs)(x:Str):FE :=
 if iO x then cg else
 match uV (c.sc.names.lookup x),kh c.N x with
 |true,some i=>af i|true,none=>cg|false,_=>if c.sc.names.lookup x=some .globalImplicit then(match m.wG.lookup x with|some d=>fC d|none=>match m.fns.lookup x with|some _=>fC (.fn x [])|none=>cg)else cg
noncomputable def NN (op:SW)(e c:Bool)(b a:FE):FE:=match op with
 |.Add=>aj aJ b a|.Sub=>aj (bD cA (· - ·)) b a|.Mult=>aj (if c then(if e then uQ else oM)else bJ) b a|.FloorDiv=>aj (bD dS (· / ·)) b a|.Mod=>aj (bD cI (· % ·)) b a|.Pow=>aj (bD jK (λi j=>i ^ j.toNat)) b a|_=>cg
noncomputable def Tf (op:UnaryOp)(a:FE):FE:=match op with
 |.USub=>pf kQ a|_=>cg
noncomputable def bE (E:Expr->FE)(g:Bool)(op:BoolOp):List Expr->FE
 | []=>cg| [a]=>E a
 |a::b::r=>match op with
  |.And=>qx (E a) (bE E g .And (b::r))|.Or=>if g then ma (E a) (bE E g .Or (b::r))else ES (E a) (bE E g .Or (b::r))
noncomputable def Tg:CmpOp->D->D->G->Option (D×G)
 |.Lt=>oLt|.LtE=>oLe|.Gt=>nO|.GtE=>Hb|.Eq=>oEq|.NotEq=>cY|.Is=>jk|.IsNot=>uM|.In=>mi|.NotIn=>lA
noncomputable def so (E:Expr->FE)(l:Expr):List CmpOp->List Expr->FE
 | [op],[b]=>if isSet b then cg else aj (Tg op) (E l) (E b)|_,_=>cg
noncomputable def pE (E:Expr->FE):Option Expr->FO
 |none=>eh|some e=>aY (E e)
noncomputable def Fy (E:Expr->FE)(v:Expr):Expr->FE
 |.Slice c g none _=>cU (E v) (pE E c) (pE E g)|.Slice c g (some st) _=>wd (E v) (pE E c) (pE E g) (aY (E st))|s=>aj au (E v) (E s)
noncomputable def AL (m:G0)(P:Pk)(c:Cs)(e:Bool)(E:Expr->FE)(f:Expr)(a:List Expr)(b:Pos):FE:=match f with
 |.Name x _=>if iO x||a.any isStar then cg else if c.sc.names.lookup x=some .globalImplicit then
   (match m.fns.lookup x with
   |some (i,_)=>ao (m.T i) (aE E a)
   |none=>if a.isEmpty || !(m.kH.elem x)then cg else match(if e then P.br else P.bl).find? (λr=>r.nm == x)with
    |some r=>ao r.fn (aE E a)|none=>cg)
  else cg
 |.Attribute o x g=>if yN o||a.any isStar || !(g.endLine == b.line) || !(decide (a.length<29))then cg else match P.mt.find? (λr=>r.nm == x)with
  |some r=>gC r.iD r.m (E o) (aE E a)|none=>cg
 |_=>cg
def Gd.hu {m:G0}{c:Cs}(g:Gd m c X):X.A.units+64<cLine:=g.rm.units
def Gd.gl {m:G0}{c:Cs}(g:Gd m c X)(h:c.sc.names.lookup x=some .globalImplicit):Gl X x:=by show X.env.scope.names.lookup x=_;rw[g.hs];exact h
theorem gw (a:∀e,DE X e (E e)):∀c:List Expr,DA X c (aE E c)
 | []=>B6
 |e::c=>by
  unfold aE;split
  . exact si
  . rename_i h
    exact rO (a e) (gw a c) (bG (by simpa using h))
def C5 {v:Const}:DE X (.Constant v i q) (C4 v):=by
 cases v with
 |int j=>exact Mc|str x=>exact Md|bool b=>exact Ql|none=>exact Me|_=>exact bT
def Fz {m:G0}{c:Cs}(g:Gd m c X):DE X (.Name x q) (eName m c x):=by
 unfold eName;split
 . exact bT
 rename_i r;obtain⟨a,p,_⟩:=nZ (by simpa using r);split
 . rename_i i b l
   refine Mf i (by rw[g.hN];exact f_ l) ?_ a p;rw[g.hs];unfold uV at b;split at b
   . rename_i e;exact .inl e
   . rename_i e;exact .inr (.inl e)
   . rename_i e;exact .inr (.inr e)
   . cases b
 . exact bT
 . split
   . rename_i k
     split
     . rename_i d hd
       obtain⟨v,u,s,z,o⟩:=g.cn x d (lookup_mem hd);exact I_ (g.gl k) s z o a
     . split
       . rename_i y j
         obtain⟨i,n⟩:=y;obtain⟨f,fd,ps,_,hm,_⟩:=g.fn x i n (lookup_mem j);exact .of (PE.imp (rJ (v:=.ref f) (g.gl k) hm rfl a) λE H Q h=>by obtain⟨B,C,I,d,J,G0,O,h,q⟩:=h;cases h;exact q H B _ Ext.refl G0 (by simp only[Rel];exact⟨f,[],rfl,.inl ⟨rfl,g.lf x i n (lookup_mem j),hm⟩,by simp[ak]⟩))
       . exact bT
   . exact bT
def J0 {k:Bool}{h:FE}(op:DE X a C)(f:DE X e h):DE X (.BinOp a j e q) (NN j r k C h):=by
 cases j<;>first|exact bT|skip
 . exact kB M4 op f
 . exact kB MK op f
 . cases k
   . exact kB vU op f
   . cases r
     . exact kB JH op f
     . exact kB JT op f
 . exact kB ML op f
 . exact kB MM op f
 . exact kB Jo op f
def NO {op:UnaryOp}(e:DE X a C):DE X (.UnaryOp op a q) (Tf op C):=by
 cases op with
 |USub=>exact Qm MN e|_=>exact bT
theorem Hs (f:∀e,DE X e (E e)){gf:Bool}{op:BoolOp}{p:Pos}:∀g:List Expr,DE X (.BoolOp op g p) (bE E gf op g)
 | []=>bT| [a]=>Mp (f a)
 |a::b::r=>by
  have c:=Hs f (gf:=gf) (op:=op) (p:=p) (b::r);cases op<;>cases gf
  . exact B5 (f a) c
  . exact B5 (f a) c
  . exact Qo (f a) c
  . exact M8 (f a) c
def C6 (hu:X.A.units+64<cLine):∀op:CmpOp,bQ X (ra op) (dW X.kw (Tg op))
 |.Lt=>Qw|.LtE=>Qx|.Gt=>Qy|.GtE=>Qz|.Eq=>QA hu|.NotEq=>Nh hu|.Is=>QE|.IsNot=>Jz|.In=>Nn hu|.NotIn=>CL hu
def J2 (hu:X.A.units+64<cLine)(a:∀l,DE X l (E l)):DE X (.Compare e y B q) (so E e y B):=by
 unfold so;split
 . split
   . exact bT
   . rename_i h
     exact Mh (C6 hu _) (a _) (a _) (marks (by simpa using h))
 . exact bT
def J3 (hu:X.A.units+64<cLine)(a:∀l,DE X l (E l)):DT X (.Compare e y B q) (aB (so E e y B)):=by
 have none_:DT X (.Compare e y B q) (aB cg):=.of (λc s g H Q I h=>by obtain⟨_,_,_,_,_,_,_,h,_⟩:=h;cases h);unfold so;split
 . split
   . exact none_
   . rename_i h
     exact Mj (C6 hu _) (a _) (a _) (marks (by simpa using h))
 . exact none_
def uW (a:∀e,DE X e (E e)):∀o:Option Expr,DO X o (pE E o)
 |none=>Ju|some e=>yt (a e)
def J4 (hu:X.A.units+64<cLine)(f:∀s,DE X s (E s)):DE X (.Subscript e J q) (Fy E e J):=by
 unfold Fy;split
 . exact CC (f _) (uW f _) (uW f _)
 . exact CA (f _) (uW f _) (uW f _) (yt (f _))
 . rename_i b a
   refine Nm hu (f _) (f _) (yO ?_);cases J with
   |Slice c g st v =>
    cases st with
    |none=>exact absurd rfl (b _ _ _)|some s=>exact absurd rfl (a _ _ _ _)
   |_=>rfl
def FC {m:G0}{c:Cs}(P:Pk)(g:Gd m c X)(A:∀C,DE X C (E C)):DE X (.Call e B [] q) (AL m P c r E e B q):=by
 unfold AL;split
 . rename_i x p
   split
   . exact bT
   rename_i h;simp only[uG,not_or,Pn]at h;obtain⟨H,U,z⟩:=nZ h.1;have j:=h.2;split
   . rename_i s
     split
     . rename_i i n hf
       obtain⟨fa,fd,ps,ok,hm,kp,b,ln⟩:=g.fn x i n (lookup_mem hf);cases B with
       |nil=>exact E3 ok g.rm hm kp b ln (g.gl s) H
       |cons C I =>
         rw[vy,El]at j;exact Jj ok g.rm hm kp b ln (gw A _) (g.gl s) H (bG j.1) (gW j.2)
     . split
       . exact bT
       rename_i u;simp only[uG,not_or,Pn,ae7,vR]at u;split
       . rename_i f v
         have l:f.nm=x:=by have:=afT v;exact eq_of_beq this
         have y:x∈m.kH:=OZ.mp (by simpa using u.2);cases B with
         |nil=>simp at u
         |cons C I =>
          rw[vy,El]at j;rcases f.ok g.rm g.cm with⟨id,k,a⟩|⟨T,k,a⟩
          . rw[l]at a
            exact E4 k (g.bl x y) a (gw A _) (g.gl s) z H (bG j.1) (gW j.2)
          . rw[l]at a
            exact Cb k (g.bl x y) a (gw A _) (g.gl s) z H (bG j.1) (gW j.2)
       . exact bT
   . exact bT
 . rename_i o x Y
   split
   . exact bT
   rename_i h;simp only[uG,not_or,Pn,vR,ae7,decide_eq_false_iff_not,Classical.not_not]at h;obtain⟨⟨⟨k,a⟩,J⟩,O⟩:=h;split
   . rename_i f v
     have l:f.nm=x:=by have:=afT v;exact eq_of_beq this
     obtain⟨T,id,R⟩:=f.ok g.rm;rw[l]at R;cases B with
     |nil=>exact JL R (A o) (baseOk k) (by simpa using J)
     |cons C I =>
       rw[vy,El]at a;refine Nq R (A o) (gw A _) (baseOk k) ?_ (by simpa using J) (bG a.1) (gW a.2);rw[wK (by rw[vy,a.1,a.2];rfl)];have Q:decide ((C::I).length+([]:List Po).length+(if([]:List Po).isEmpty then 0 else 1)<30)=true:=by simp at O ⊢;lia
       rw[Q];rfl
   . exact bT
 . exact bT
noncomputable def wM (c:Cs)(x:Str):Option Nat:=match c.sc.names.lookup x with
 |some .local=>kh c.N x|some .cell=>if c.all||c.own.elem x then kh c.N x else none|_=>none
noncomputable def FD (f:Expr->FG):List Expr->ph
 | []=>gp|e::c=>bV (f e) (FD f c)
noncomputable def Ht (c:Cs)(E:Expr->FE)(e:Expr):FG:=match nV e with
 |some x=>(match wM c x with|some i=>gN i|none=>qU)
 |none=>match sV e with
  |some q=>if uT q.2 then qU else gB (E q.1) (E q.2)|none=>qU
noncomputable def n6 (c:Cs)(E:Expr->FE):Nat->Expr->FG
 | 0,e=>Ht c E e
 |n+1,e=>match tV e with
  |some g=>if g.any isStar then qU else gT g.length (FD (n6 c E n) g)|none=>Ht c E e
def sr {m:G0}{c:Cs}(g:Gd m c X)(h:wM c x=some i):X.N[i]? = some x/\Ea X.env.scope x/\(X.fn x=true\/X.env.scope.names.lookup x=some .local):=by
 unfold wM at h;rw[g.hN,g.hs];split at h
 . rename_i e;exact⟨f_ h,.inl e,.inr e⟩
 . rename_i e
   split at h
   . rename_i a
     rw[uG]at a;exact⟨f_ h,.inr e,.inl (a.elim (λa=>g.al a x) λa=>g.ow x (OZ.mp a))⟩
   . cases h
 . cases h
def Gd.tZ {m:G0}{c:Cs}(g:Gd m c X):X.N.Nodup:=by rw[g.hN];exact g.nd
def pS (h:isStar e=false):xW (e::B) Z=(false,AR e Z)::xW B Z:=by cases e<;>first|rfl|cases h
def yQ (h:B.any isStar=false):(xW B Z).length=B.length/\(xW B Z).findIdx? (·.1)=none:=by
 induction B with
 |nil=>exact⟨rfl,rfl⟩
 |cons e B c =>
  rw[vy,El]at h;obtain⟨a,b⟩:=c h.2;rw[pS h.1];exact⟨by simp[a],by rw[List.findIdx?_cons,b];rfl⟩
def J5 (h:uT J=false):∀v,AR (.Subscript e J q) Z v=(do
  let c <- zk [v] (eval e Z);let iv <- zk [v,c] (eval J Z)
  Yj q
  zk [v,c,iv] (agU c iv v)
  release [v,c,iv] []):=by
 intro v;cases J<;>first|rfl|cases h
def C7 {m:G0}{c:Cs}(g:Gd m c X)(k:∀e,DE X e (E e))(e:Expr):DG X e (Ht c E e):=by
 unfold Ht;split
 . rename_i x f
   obtain⟨p,rfl⟩:=oQ f;split
   . rename_i i h;obtain⟨a,b,d⟩:=sr g h;exact Jf g.tZ a b d
   . exact oP
 . split
   . rename_i q j
     obtain⟨p,rfl⟩:=AI j;split
     . exact oP
     . rename_i h;exact JK g.hu (k _) (k _) (J5 (by simpa using h))
   . exact oP
def n8 {m:G0}{c:Cs}(g:Gd m c X)(j:∀e,DE X e (E e)):∀(n:Nat) (e:Expr),DG X e (n6 c E n e):=by
 intro n;induction n with
 |zero=>exact C7 g j
 |succ n p =>
  intro e;show DG X e (match tV e with|some a=>_|none=>_);split
  . rename_i a q
    obtain⟨u,i,rfl⟩:=AJ q;split
    . exact oP
    . rename_i b
      have b:a.any isStar=false:=by simpa using b
      have f:∀a:List Expr,a.any isStar=false->B8 X a (FD (n6 c E n) a):=λa=>by
       induction a with
       |nil=>exact λ_=>Jg
       |cons e a r =>
        intro h;rw[vy,El]at h;exact EY (p e) (r h.2) (by rw[pS h.1];rfl)
      have f:=f a b;exact My g.cm f (yQ b).1 (yQ b).2
  . exact C7 g j e
noncomputable def C8 (m:G0)(P:Pk)(c:Cs)(E:Expr->FE)(h:Expr)(a:Expr):FI:=match cV a with
 |some (x,g)=>if c.sc.names.lookup x=some .globalImplicit then(match P.it.find? (λr=>r.nm == x)with
  |some r=>if m.kH.elem x && !(g.any isStar)&&(!r.tup||qV h)then r.f E g else qT|none=>cy (E a))else cy (E a)
 |none=>cy (E a)
def n9 {m:G0}{c:Cs}(P:Pk)(g:Gd m c X)(q:∀n,DE X n (E n)):DI X e J (C8 m P c E e J):=by
 unfold C8;split
 . rename_i x u k
   obtain⟨p,pos,rfl⟩:=Hq k;split
   . rename_i i
     split
     . rename_i r l
       have f:r.nm=x:=by have:=afT l;exact eq_of_beq this
       split
       . rename_i h
         simp only[la,uG,vR,beq_iff_eq]at h;obtain⟨⟨o,b⟩,a⟩:=h;have j:x∈m.kH:=OZ.mp o;subst f;exact r.ok g.rm g.cm (g.bl _ j) (g.gl i) q b (λz=>by rcases a with a|a;(rw[z]at a;cases a);exact a)
       . exact sj
     . exact vW (q _)
   . exact vW (q _)
 . exact vW (q _)
noncomputable def NP (sc:Scope)(S:Scope):Scope:={ sc with names:=sc.names.map λ(n,k)=>if(k == .free&&S.kind == .function&&S.names.lookup n == some .cell)then(n,.cell)else(n,k) }
noncomputable def t6:List Str->Bool
 | []=>true|x::r=>!(r.elem x)&&t6 r
theorem n_:∀{l:List Str},t6 l=true->l.Nodup
 | [],_=>Sm|x::r,h=>by simp only[t6,la,vR]at h;exact DK.mpr (And.intro (λz=>(by rw[OZ.mpr z]at h;exact absurd h.1 (by simp))) (n_ h.2))
noncomputable def kT (sc:Scope):List Str:=(sc.names.filter λy=>y.2 == .local||y.2 == .cell).map (·.1)
noncomputable def QU (sc:Scope):List Str:=(sc.names.filter λy=>y.2 == .cell).map (·.1)
noncomputable def i6 (sc:Scope):List Str:=(sc.names.filter λy=>y.2 == .free).map (·.1)
noncomputable def gh (c:Cs)(sc:Scope):Cs:=⟨kT sc++i6 sc,NP sc c.sc,false,c.mt,QU sc,none⟩
noncomputable def wN (c:Cs)(sc:Scope):List (Option Nat):=(kT sc).map (λ_=>none)++(i6 sc).map (λx=>kh c.N x)
noncomputable def AM (c:Cs)(sc:Scope):Bool:=rR c.sc c.N (kT sc++i6 sc) (wN c sc) sc&&t6 (kT sc++i6 sc)
noncomputable def C9 (T:Expr->FT):List Expr->FT
 | []=>b9| [t]=>T t|_=>kg
noncomputable def NQ (c:Cs):Expr->Bool
 |.Name x _=>c.mt.elem x|_=>false
noncomputable def uX (m:G0)(P:Pk)(c:Cs)(a:Bool)(E:Cs->Expr->FE)(T:Cs->Expr->FT)(g:Expr)(n:List YC)(sc:Scope):FE:=match gV n with
 |some (i,it,h)=>if AM c sc && !(isSet it)then
  (if NQ c it then ly (if a then jx else bH) (Fm (E c it)) (wN c sc) (n6 (gh c sc) (E (gh c sc)) 3 i) (C9 (T (gh c sc)) h) (E (gh c sc) g)
  else bA (if a then jx else bH) (C8 m P c (E c) i it) (wN c sc) (n6 (gh c sc) (E (gh c sc)) 3 i) (C9 (T (gh c sc)) h) (E (gh c sc) g))else cg
 |none=>cg
def Gd.comp {m:G0}{c:Cs}(g:Gd m c X)(h:t6 (kT M++i6 M)=true){C:Addr}{s3:j0}{fp:List Addr}{a8:List (Addr×Obj)}:Gd m (gh c M) (bh X (kT M++i6 M) M C s3 H fp a8) where
 hN:=rfl
 hs:=by show Up M X.env=NP M c.sc;rw[<- g.hs];rfl
 nd:=n_ h
 xe:=rfl
 cm:=g.cm
 rm:=g.rm
 al:=λz=>by cases z
 ow:=λx o=>by
  show(M.names.any λy=>y.1 == x&&y.2 == .cell)=true
  obtain⟨y,j,e⟩:=mM.mp (show x∈(M.names.filter λy=>y.2 == .cell).map (·.1) from o)
  rw[ro]at j;rw[aek];exact⟨y,j.1,by rw[e,j.2];simp⟩
 fn:=λx i n hm=>by obtain⟨f,fd,k,a,b,d,e,l⟩:=g.fn x i n hm;exact⟨f,fd,k,a,b,d,e,l⟩
 bl:=g.bl
 cn:=g.cn
 dc:=g.dc
 lf:=g.lf
 ll:=g.ll
 lh:=λ_ _ _ h=>nomatch h
def NR (a:∀e,DT X e (n e)):∀c:List Expr,gJ X c (C9 n c)
 | []=>E6| [t]=>E_ (a t)|_::_::_=>.of (λg s i H Q I h=>by obtain⟨_,_,_,_,_,_,_,h,_⟩:=h;cases h)
def yR {m:G0}{c:Cs}(g:Gd m c X){E:Cs->Expr->FE}{T:Cs->Expr->FT}(b:∀c X,Gd m c X->∀e,DE X e (E c e))(f:∀c X,Gd m c X->∀e,DT X e (T c e))(h:AM c M=true){tg elt:Expr}{ifs:List Expr}:
  eY X (kT M++i6 M) (wN c M) M /\ ∀C s3 H fp a8,DG (bh X (kT M++i6 M) M C s3 H fp a8) tg (n6 (gh c M) (E (gh c M)) 3 tg) /\
   gJ (bh X (kT M++i6 M) M C s3 H fp a8) ifs (C9 (T (gh c M)) ifs)/\DE (bh X (kT M++i6 M) M C s3 H fp a8) elt (E (gh c M) elt):=by
 simp only[AM,la]at h;refine⟨Co g.hs g.hN h.1,λC s3 H fp a8=>?_⟩;have a:=g.comp h.2 (C:=C) (s3:=s3) (H:=H) (fp:=fp) (a8:=a8);exact⟨n8 a (b _ _ a) 3 tg,NR (f _ _ a) ifs,b _ _ a elt⟩
def C_ {h:pv}{c:FT}(i:X.xe=λ_ _=>False)(j:X.calm=true)(ok:eY X U z M)(f:He X e a h)(k:∀g n H p r,DG (bh X U M g n H p r) e d/\gJ (bh X U M g n H p r) B c/\DE (bh X U M g n H p r) J C)(l:∀x,y3 a X.env x=pure x):DE X (.ListComp J [⟨e,a,B,0⟩] M q) (ly jx h z d c C):=by
 rw[wj];exact tL i j ok (yA f) k l
def wO {m:G0}{c:Cs}(P:Pk)(g:Gd m c X){E:Cs->Expr->FE}{T:Cs->Expr->FT}(f:∀c X,Gd m c X->∀e,DE X e (E c e))(j:∀c X,Gd m c X->∀e,DT X e (T c e)){elt:Expr}:
   DE X (.ListComp elt R M q) (uX m P c r E T elt R M):=by
 unfold uX;split
 . rename_i tg it ifs b
   obtain rfl:=Hr b;split
   . rename_i h
     simp only[la,vR]at h;obtain⟨ok,a⟩:=yR g f j h.1 (tg:=tg) (elt:=elt) (ifs:=ifs);split
     . cases r
       . exact Fo g.xe g.cm ok (yz (f c X g it)) a (mC h.2)
       . exact C_ g.xe g.cm ok (yz (f c X g it)) a (mC h.2)
     . cases r
       . exact Jk g.xe g.cm ok (n9 P g (f c X g)) a (mC h.2)
       . exact Fp g.xe g.cm ok (n9 P g (f c X g)) a (mC h.2)
   . exact bT
 . exact bT
noncomputable def YY (T:Expr->FT)(op:BoolOp):List Expr->FT
 | []=>kg| [a]=>T a
 |a::b::r=>match op with
  |.And=>ib (T a) (YY T .And (b::r))|.Or=>yk (T a) (YY T .Or (b::r))
noncomputable def xE (P:Pk)(m:G0)(c:Cs)(E:Expr->FE)(a:Bool)(e:Expr):Option FE:=P.xr.findSome? λr=>r.e m c E a e
noncomputable def xT (P:Pk)(m:G0)(c:Cs)(E:Expr->FE)(e:Expr):Option FT:=P.xr.findSome? λr=>r.t m c E e
noncomputable def QV (m:G0)(P:Pk)(E:Cs->Bool->Expr->FE)(T:Cs->Expr->FT)(c:Cs)(h:Bool):Expr->FE
 |.Constant v _ _=>C4 v|.Name x _=>eName m c x|.BinOp a op b _=>NN op h (QS a) (E c false a) (E c false b)|.UnaryOp op a _=>Tf op (E c false a)|.BoolOp op g _=>bE (E c false) (g.dropLast.any QT) op g|.IfExp t a b _=>jZ (T c t) (E c h a) (E c h b)|.Compare l i rs _=>so (E c false) l i rs|.Tuple n _ _=>aI aA (aE (E c false) n)|.List n _=>aI (if h then mkRef else fP) (aE (E c false) n)|.Dict p g _=>if p.isEmpty&&g.isEmpty then(if h then qL else fC .eI)else cg|.Subscript v s _=>Fy (E c false) v s|.Call f r p pos=>if p.isEmpty then AL m P c h (E c false) f r pos else cg|.ListComp q u sc _=>uX m P c h (λc e=>E c false e) T q u sc|_=>cg
noncomputable def QW (m:G0)(P:Pk)(E:Cs->Bool->Expr->FE)(T:Cs->Expr->FT)(c:Cs):Expr->FT
 |.Compare l g rs _=>aB (so (E c false) l g rs)|.UnaryOp op a q=>match op with|.Not=>ER (T c a)|op=>if mB (.UnaryOp op a q)then nH (E c false (.UnaryOp op a q))else kg
 |.BoolOp op h _=>YY (T c) op h|e=>if mB e then nH (E c false e)else kg
noncomputable def AN (m:G0)(P:Pk)(E:Cs->Bool->Expr->FE)(T:Cs->Expr->FT)(c:Cs)(a:Bool)(e:Expr):FE:=match xE P m c (E c false) a e with
 |some f=>f|none=>QV m P E T c a e
noncomputable def baA (m:G0)(P:Pk)(E:Cs->Bool->Expr->FE)(T:Cs->Expr->FT)(c:Cs)(e:Expr):FT:=match xT P m c (E c false) e with
 |some f=>f|none=>QW m P E T c e
noncomputable def iv (m:G0)(P:Pk):Nat->(Cs->Bool->Expr->FE)×(Cs->Expr->FT)
 | 0=>(λ_ _ _=>cg,λ_ _=>kg)|n+1=>(AN m P (iv m P n).1 (iv m P n).2,baA m P (iv m P n).1 (iv m P n).2)
theorem ki {j k:Type}{f:j->Option k}:∀{l:List j} {b:k},l.findSome? f=some b->∃a∈l,f a=some b
 | [],_,h=>by cases h
 |a::l,b,h=>by
  rw[List.findSome?_cons]at h;cases ha:f a with
  |none=>rw[ha]at h;obtain⟨x,i,e⟩:=ki h;exact⟨x,nW _ i,e⟩
  |some c=>rw[ha]at h;cases h;exact⟨a,qc,ha⟩
def QX (c:∀e,DT X e (n e)){op:BoolOp}:∀g:List Expr,DT X (.BoolOp op g q) (YY n op g):=by
 have w:∀g:List Expr,g ≠ []->DW X (.BoolOp op g q) (YY n op g):=λg=>by
  induction g with
  |nil=>intro h;exact absurd rfl h
  |cons a r i =>
   intro _;cases r with
   |nil=>cases op;exact Ja (c a);exact Ml (c a)
   |cons b r =>
    have:=i (by simp);cases op
    . exact Mm (c a) this
    . exact Qn (c a) this
 intro g;cases g with
 |nil=>exact sg|cons a r=>exact(w (a::r) (by simp)).dt
theorem AO (m:G0)(P:Pk):∀n:Nat,(∀c X,Gd m c X->∀rf e,DE X e ((iv m P n).1 c rf e))/\(∀c X,Gd m c X->∀e,DT X e ((iv m P n).2 c e))
 | 0=>⟨λ_ _ _ _ _=>bT,λ_ _ _ _=>sg⟩
 |n+1=>by
  obtain⟨i,j⟩:=AO m P n;refine⟨λc X g rf e=>?_,λc X g e=>?_⟩
  . show DE X e (AN m P (iv m P n).1 (iv m P n).2 c rf e)
    unfold AN;split
    . rename_i f hf
      obtain⟨r,_,h⟩:=ki hf;exact r.C3 g (i c X g false) h
    have b:=i c X g false;cases e with
    |Constant=>exact C5|Name=>exact Fz g|BinOp=>exact J0 (b _) (b _)|UnaryOp=>exact NO (b _)|BoolOp=>exact Hs b _|IfExp=>exact Mq (j c X g _) (i c X g rf _) (i c X g rf _)|Compare=>exact J2 g.hu b|Tuple=>exact B7 (gw b _)
    |List=>cases rf with
      |false=>exact Mr (gw b _)|true=>exact Ms (gw b _)
    |Dict p u _=>cases p with
      |cons=>exact bT
      |nil=>cases u with
        |cons=>exact bT
        |nil=>cases rf with
         |false=>exact Ff|true=>exact JM
    |Subscript=>exact J4 g.hu b
    |Call f v p pos=>cases p with
      |nil=>exact FC P g b|cons=>exact bT
    |ListComp=>exact wO P g (λc X g e=>i c X g false e) j|_=>exact bT
  . show DT X e (baA m P (iv m P n).1 (iv m P n).2 c e)
    unfold baA;split
    . rename_i f hf
      obtain⟨r,_,h⟩:=ki hf;exact r.tok g (i c X g false) h
    have k:∀e,DT X e (if mB e then nH ((iv m P n).1 c false e)else kg):=λe=>by
      split
      . rename_i h;exact Mk (i c X g false _) (plainT h)
      . exact sg
    cases e with
    |Compare=>exact J3 g.hu (i c X g false)
    |UnaryOp op a q=>cases op with
      |Not=>exact Mn (j c X g _)|_=>exact k _
    |BoolOp=>exact QX (j c X g) _|_=>exact k _
noncomputable def Hu (f:Stmt->FS):List Stmt->FS
 | []=>aK| [s]=>f s|s::t::r=>ax (f s) (Hu f (t::r))
noncomputable def AQ (S:Scope):Bool:=(if S.kind.isAnnotationScope then ae8 else S.kind)== .function
noncomputable def AS (S:Scope)(x:Str)(c p:Pos)(sc:Scope):Bool:=AQ S&&S.names.lookup x == some .local&&c.line == p.line && !(sc.names.any λ(n,k)=>n == x&&(k == .local||k == .cell))
noncomputable def Dc:Expr->Option Str
 |.Constant v _ _=>match v with|.str k=>some k|_=>none
 |_=>none
noncomputable def De (a:List Str):Expr->Bool
 |e=>((nV e).map λx=>a.elem x).getD (((sV e).bind λq=>(Dc q.2).map λk=>a.elem (Ck "=" ++ k)).getD false)
noncomputable def aZ (E:Bool->Expr->FE)(a:List Str):List Expr->List Expr->FA
 |_,[]=>ag| [],v::c=>if isStar v then qS else aa (E false v) (aZ E a [] c)|t::g,v::c=>if isStar v then qS else aa (E (De a t) v) (aZ E a g c)
noncomputable def Hv (m:G0)(P:Pk)(c:Cs)(a:Bool)(E:Cs->Expr->FE)(T:Cs->Expr->FT)(g:Expr)(n:List YC)(sc:Scope):FE:=match gV n with
 |some (i,it,h)=>if AM c sc && !(isSet it)then
  (bA (if a then jx else bH) (C8 m P c (E c) i it) (wN c sc) (n6 (gh c sc) (E (gh c sc)) 3 i) (C9 (T (gh c sc)) h) (E (gh c sc) g))else cg
 |none=>cg
noncomputable def qZ (S:Scope)(a:List Expr):List Str:=a.filterMap fun
 |.Name id pos=>if S.names.lookup id == some .local&&pos.line == (a.head?.map (·.pos.line)).getD 0 then some id else none|_=>none
noncomputable def NS (S:Scope)(a c:List Expr):Option Bool :=
 if !(a.length == 2||a.length == 3)||c.length != a.length || !(AQ S)then some false
 else if(qZ S a).length != a.length||(qZ S a).eraseDups.length != (qZ S a).length then some false
 else if c.all (foldedForSure 8)then some false
 else if c.all (constantsAlone 8)then none
 else some true
noncomputable def wQ (c:Cs)(x:Str):Bool:=c.sc.names.lookup x == some .local
noncomputable def Ti:Expr->Option (Expr×List YC×Scope×Pos)
 |.ListComp c g sc p=>some (c,g,sc,p)|_=>none
def NT (h:Ti e=some (J,R,M,q)):e = .ListComp J R M q:=by
 cases e with
 |ListComp=>cases h;rfl|_=>exact nn h
noncomputable def FF (m:G0)(P:Pk)(E:Cs->Bool->Expr->FE)(T:Cs->Expr->FT)(c:Cs)(g v:Expr):FS:=match yP g with
 |some (x,C)=>(match wM c x with
  |some i=>(match Ti v with
   |some (h,u,sc,p)=>aG (if AS c.sc x C p sc then Hv m P c (c.mt.elem x) (λc e=>E c false e) T h u sc else uX m P c (c.mt.elem x) (λc e=>E c false e) T h u sc) (gN i)|none=>if nY v then cM else aG (E c (c.mt.elem x) v) (gN i))
  |none=>cM)
 |none=>match sV g with
  |some _=>aG (E c (De c.mt g) v) (n6 c (E c false) 3 g)
  |none=>match tV v with
   |some n=>(match tV g with
    |some q=>if n.any isStar then cM else(match NS c.sc q n with
     |some r=>if r then(match baV q,baV n with
      |some B,some _=>(match nV B.1,nV B.2 with
       |some x,some y=>(match kh c.N x,kh c.N y with|some i,some j=>if qZ c.sc q == [x,y]&&wQ c x&&wQ c y && !(i == j)then me i j (aZ (E c) c.mt q n)else cM|_,_=>cM)
       |_,_=>cM)
      |_,_=>cM)else aG (aI aA (aZ (E c) c.mt q n)) (n6 c (E c false) 3 g)
     |none=>cM)
    |none=>cM)
   |none=>if nY v||qV v||isStar g then cM else aG (E c false v) (n6 c (E c false) 3 g)
noncomputable def FH (c:Cs)(E:Expr->FE)(g:Expr)(op:SW)(v:Expr):FS:=match(nV g).bind λx=>wM c x with
 |some i=>(match op with|.Add=>pQ i (λi j=>i+j) (E v)|.Sub=>pQ i (λi j=>i-j) (E v)|_=>cM)
 |none=>cM
noncomputable def NU (m:G0)(P:Pk)(W:Nat)(f:Bool)(E:Cs->Bool->Expr->FE)(T:Cs->Expr->FT)(B:List Stmt->FS)(c:Cs):Stmt->FS
 |.Return v _=>(match v with|some e=>aH (E c f e)|none=>cM)
 |.If t a b _=>bM (T c t) (B a) (B b)|.Assign h v _=>(match h with|g::r=>if r.isEmpty then FF m P E T c g v else cM| []=>cM)
 |.AugAssign g op v _=>FH c (E c false) g op v|.For g it body i _=>if isSet it || !i.isEmpty then cM else fK (C8 m P c (E c false) g it) (n6 c (E c false) 3 g) (B body)|.While t body [] _=>B_ W (T c t) (B body)|.Pass _=>aK|.Break _=>EW|.Expr e _=>if(Dc e).isSome then aK else if nY e then cM else kC (E c false e)|_=>cM
noncomputable def sS (m:G0)(P:Pk)(W:Nat)(a:Bool)(E:Cs->Bool->Expr->FE)(T:Cs->Expr->FT)(c:Cs):Nat->Stmt->FS
 | 0,_=>cM|n+1,s=>NU m P W a E T (Hu (sS m P W a E T c n)) c s
noncomputable def body (m:G0)(P:Pk)(W:Nat)(a:Bool)(c:Cs)(b:List Stmt):FS:=Hu (sS m P W a (iv m P 30).1 (iv m P 30).2 c 12) b
theorem wR {f:Stmt->FS}(h:∀s,DS X s (f s)):∀c:List Stmt,k8 X c (Hu f c)
 | []=>Jb| [s]=>Jc (h s)|s::t::r=>EX (h s) (wR h (t::r))
theorem uY {E:Bool->Expr->FE}{b:List Str}(a:∀rf e,DE X e (E rf e)):∀(g c:List Expr),DA X c (aZ E b g c)
 |_,[]=>by cases ‹List Expr›<;>exact B6
 | [],v::c=>by
  unfold aZ;split
  . exact si
  . rename_i h;exact rO (a _ v) (uY a [] c) (bG (by simpa using h))
 |t::g,v::c=>by
  unfold aZ;split
  . exact si
  . rename_i h;exact rO (a _ v) (uY a g c) (bG (by simpa using h))
def yT {m:G0}{c:Cs}(g:Gd m c X){elt:Expr}{gs:List YC}{sc:Scope}{p px:Pos}{l:Nat}:NM (.ListComp elt gs sc p) (some (.Name x px)) l X.env=pure (AS c.sc x px p sc):=by rw[<- g.hs];rfl
def YB {m:G0}{c:Cs}{n:List Expr}{kt k2:Nat}{pt pt2:Pos}(g:Gd m c X)(o:n.any isStar=false)(h:NS c.sc B n=some r):TF [.Tuple B kt pt] (.Tuple n k2 pt2) X.env=pure (if r then some (qZ c.sc B)else none):=by
 have j:(n.any fun|.Starred ..=>true|_=>false)=false:=by
   have:(λ(e:Expr)=>match e with|.Starred ..=>true|_=>false)=isStar:=by funext e;cases e<;>rfl
   rw[this];exact o
 have i:(X.env.blockKind != ae8)= !(AQ c.sc):=by rw[<- g.hs];rfl
 unfold NS at h;show(if(!(B.length == 2||B.length == 3)||n.length != B.length||X.env.blockKind != ae8)=true then pure none else if(n.any fun|.Starred ..=>true|_=>false)=true then pure none else
   if((qZ X.env.scope B).length != B.length||(qZ X.env.scope B).eraseDups.length != (qZ X.env.scope B).length)=true then pure none else if n.all (foldedForSure 8)=true then pure none else if n.all (constantsAlone 8)=true then _ else pure (some (qZ X.env.scope B)))=_
 rw[i,j,g.hs];split at h
 . rename_i f;cases h;rw[if_pos f];rfl
 rename_i f;rw[if_neg f,if_neg (by simp)];split at h
 . rename_i b;cases h;rw[if_pos b];rfl
 rename_i b;rw[if_neg b];split at h
 . rename_i a;cases h;rw[if_pos a];rfl
 rename_i a;rw[if_neg a];split at h
 . cases h
 rename_i k;cases h;rw[if_neg k];rfl
def Hw:DS X h (aG cg d):=.of (λc h g H Q I s=>by obtain⟨_,_,_,_,_,_,_,_,s,_⟩:=s;cases s)
def Vz (h:qV J=false):TF [e] J Z=pure none:=by
 cases e with
 |Tuple c g p=>cases J<;>first|rfl|cases h
 |List c p=>cases J<;>first|rfl|cases h
 |_=>rfl
def yU (h:isStar e=false):(xW [e] Z).map (·.2)= [AR e Z]:=by rw[pS h];rfl
def FJ:Yz [.Subscript e J q] a i Z=pure false:=by cases a<;>rfl
def NW:TF [.Subscript e J q] a Z=pure none:=by cases a<;>rfl
def J6 {m:G0}{c:Cs}(P:Pk)(g:Gd m c X){E:Cs->Bool->Expr->FE}{T:Cs->Expr->FT}(A:∀c X,Gd m c X->∀rf v,DE X v (E c rf v))(B:∀c X,Gd m c X->∀v,DT X v (T c v)){tg:Expr}{p:Pos}:DS X (.Assign [tg] e p) (FF m P E T c tg e):=by
 have n:∀{x:Str},wQ c x=true->X.env.scope.names.lookup x=some .local:=fun {x} h=>by rw[g.hs];exact eq_of_beq h
 unfold FF;split
 . rename_i x px s
   obtain rfl:=qW s;split
   . rename_i i k
     obtain⟨a,b,d⟩:=sr g k;split
     . rename_i elt gs sc q f
       obtain rfl:=NT f;split
       . rename_i u
         unfold Hv;split
         . rename_i tg it ifs J
           obtain rfl:=Hr J;split
           . rename_i h
             simp only[la,vR]at h;obtain⟨ok,C⟩:=yR g (λc X g v=>A c X g false v) B h.1 (tg:=tg) (elt:=elt) (ifs:=ifs);have hs:=(yT g (elt:=elt) (gs:=[⟨tg,it,ifs,0⟩]) (sc:=sc) (p:=q) (px:=px) (x:=x) (l:=p.line)).trans (by rw[u]);cases c.mt.elem x
             . exact Ak g.xe g.cm ok (n9 P g (A c X g false)) C g.tZ a b hs (mC h.2) d
             . exact xP g.xe g.cm ok (n9 P g (A c X g false)) C g.tZ a b hs (mC h.2) d
           . exact Hw
         . exact Hw
       . rename_i u
         exact B9 g.tZ a b (wO P g (λc X g v=>A c X g false v) B) ((yT g).trans (by rw[show AS c.sc x px q sc=false by simpa using u])) d
     . split
       . exact cH
       . rename_i h
         exact B9 g.tZ a b (A c X g _ _) (wJ (by simpa using h)) d
   . exact cH
 . split
   . rename_i q hq
     obtain⟨_,rfl⟩:=AI hq;exact vF (A c X g _ _) (n8 g (A c X g false) 3 _) FJ NW (yU rfl)
   . split
     . rename_i o f
       obtain⟨k2,pt2,rfl⟩:=AJ f;split
       . rename_i z ht
         obtain⟨kt,pt,rfl⟩:=AJ ht;split
         . exact cH
         rename_i f;have f:o.any isStar=false:=by simpa using f
         have H:∀l,Yz [.Tuple z kt pt] (.Tuple o k2 pt2) l X.env=pure false:=λ_=>rfl;split
         . rename_i r hp
           have I:=YB (kt:=kt) (k2:=k2) (pt:=pt) (pt2:=pt2) g f hp;cases r with
           |false=>exact vF (B7 (uY (A c X g) z o)) (n8 g (A c X g false) 3 _) (H _) I rfl
           |true =>
             rw[if_pos rfl];split
             . rename_i O Q R U
               split
               . rename_i x y s Y
                 split
                 . rename_i i j k Z
                   split
                   . rename_i h
                     simp only[la,vR,beq_iff_eq]at h;obtain⟨⟨⟨h1,h2⟩,h3⟩,h4⟩:=h;obtain⟨ex,ey⟩:=O;obtain⟨a,b⟩:=Q;obtain rfl:=C2 R;obtain rfl:=C2 U;obtain⟨px,rfl⟩:=oQ s;obtain⟨py,rfl⟩:=oQ Y;exact Na g.cm g.tZ (by rw[g.hN];exact f_ k) (by rw[g.hN];exact f_ Z) (by simpa using h4) (n h2) (n h3) (uY (A c X g) _ _) (I.trans (by rw[if_pos rfl,h1])) (H _)
                   . exact cH
                 . exact cH
               . exact cH
             . exact cH
         . exact cH
       . exact cH
     . split
       . exact cH
       rename_i h;simp only[uG,not_or,Pn]at h;exact vF (A c X g false _) (n8 g (A c X g false) 3 _) (wJ h.1.1) (Vz h.1.2) (yU h.2)
def J7 {m:G0}{c:Cs}(g:Gd m c X)(l:∀v,DE X v (E v)):DS X (.AugAssign e j J q) (FH c E e j J):=by
 unfold FH;split
 . rename_i i h
   obtain⟨x,n,f⟩:=bind_some h;obtain⟨k,rfl⟩:=oQ n;obtain⟨a,b,d⟩:=sr g f;cases j with
   |Add=>exact Cy g.tZ a b Li (l _) d|Sub=>exact Cy g.tZ a b Lj (l _) d|_=>exact cH
 . exact cH
def NY (h:(Dc e).isSome=true):∃s k p,e = .Constant (.str s) k p:=by
 cases e with
 |Constant v k p=>cases v with
  |str s=>exact⟨s,k,p,rfl⟩|_=>cases h
 |_=>cases h
def J8 {m:G0}{c:Cs}(P:Pk)(g:Gd m c X){E:Cs->Bool->Expr->FE}{T:Cs->Expr->FT}(f:∀c X,Gd m c X->∀rf e,DE X e (E c rf e))(j:∀c X,Gd m c X->∀e,DT X e (T c e)){B:List Stmt->FS}(l:∀b,k8 X b (B b))(s:Stmt):
  DS X s (NU m P i r E T B c s):=by
 have a:Ut (model X.prog X.w) X.A X.env X.xe:=by rw[g.xe];exact PassesOwn.never
 cases s with
 |Return v p=>cases v with
  |some e=>exact Mu (f c X g _ _)|none=>exact cH
 |If=>exact Qp (j c X g _) (l _) (l _)
 |Assign u v p=>cases u with
  |nil=>exact cH
  |cons x W=>cases W with
    |nil=>exact J6 P g f j|cons=>exact cH
 |AugAssign=>exact J7 g (f c X g false)
 |For x it body n p =>
  show DS X _ (if isSet it || !n.isEmpty then cM else fK _ _ _);split
  . exact cH
  . rename_i h
    simp only[uG,not_or,Pn,ae7]at h;cases n with
    |cons=>cases h.2|nil=>exact MJ a g.cm (n9 P g (f c X g false)) (n8 g (f c X g false) 3 _) (l _) (mC h.1)
 |While t body n p=>cases n with
  |nil=>exact E2 i a (j c X g _) (l _)|cons=>exact cH
 |Pass=>exact Jd|Break=>exact Mt
 |Expr e p =>
  show DS X _ (if(Dc e).isSome then aK else if nY e then cM else kC (E c false e));split
  . rename_i h
    obtain⟨s,k,q,rfl⟩:=NY h;exact Mv
  . split
    . exact cH
    . rename_i h;exact Je (f c X g false _) (wJ (by simpa using h))
 |_=>exact cH
def J9 {m:G0}{c:Cs}(P:Pk)(g:Gd m c X)(e:List Stmt):k8 X e (body m P i r c e):=by
 obtain⟨a,b⟩:=AO m P 30;have:∀n s,DS X s (sS m P i r (iv m P 30).1 (iv m P 30).2 c n s):=λn=>by
  induction n with
  |zero=>exact λ_=>cH|succ n h=>exact λs=>J8 P g a b (wR h) s
 exact wR (this 12) e
structure cj where
 nm:Str
 ps:List Str
 N:List Str
 st:Stmt
 kp:Bool
 mt:List Str
 pu:Bool
 gn:Str
 ld:Option d9
 lam:Option (Pos×Str)
structure Mo where
 ds:List cj
 kH:List Str
 wG:List (Str×D)
 wH:List (Str×List (Str×D))
 P:Pk
 W:Nat
noncomputable def kI:Nat->List cj->List (Str×Nat×Nat)
 |_,[]=>[]|j,d::ds=>if d.ld.isSome then kI (j+1) ds else(d.gn,j,d.ps.length)::kI (j+1) ds
noncomputable def kJ:Nat->List cj->List (Str×Nat)
 |_,[]=>[]|j,d::ds=>if d.ld.isSome then(d.gn,j)::kJ (j+1) ds else kJ (j+1) ds
noncomputable def lD (ds:List cj):List (Str×d9):=ds.filterMap λd=>d.ld.map λl=>(d.gn,l)
noncomputable def Mo.g (M:Mo)(T:Nat->Fn)(k:Nat):G0:=⟨T,k,kI 0 M.ds,M.kH,M.wG,M.wH,kJ 0 M.ds⟩
noncomputable def AU (a:Bool)(f:Fn):Fn:=if a then fD f else f
noncomputable def Mo.q_ (M:Mo)(d:cj):Option (Pos×Str×d9):=d.lam.bind λq=>((lD M.ds).lookup q.2).map λl=>(q.1,q.2,l)
noncomputable def cj.run (M:Mo)(d:cj)(T:Nat->Fn)(k:Nat):Fn:=match d.ld with
 |some l=>bF l.fv.length l.ps.length ((iv (M.g T k) M.P 30).1 ⟨l.fv++l.ps,l.sc,false,[],[],none⟩ false l.bd)|none=>AU d.pu (aq d.kp d.N.length d.ps.length (body (M.g T k) M.P M.W d.kp ⟨d.N,aX d.st,true,d.mt,[],M.q_ d⟩ (d7 d.st)))
theorem t7:∀{ds:List cj} {j:Nat} {x:Str} {i n:Nat},(x,i,n)∈kI j ds->∃d q,i=j+q/\ds[q]? = some d/\d.ld=none/\d.gn=x/\d.ps.length=n
 | [],_,_,_,_,h=>by simp[kI]at h
 |d::ds,j,x,i,n,h=>by
  unfold kI at h;have rest:(x,i,n)∈kI (j+1) ds->∃e q,i=j+q/\(d::ds)[q]? = some e/\e.ld=none/\e.gn=x/\e.ps.length=n:=λh=>by obtain⟨e,q,f,c,a⟩:=t7 h;exact⟨e,q+1,by lia,by simpa using c,a⟩
  split at h
  . exact rest h
  . rename_i b
    rcases l2.mp h with h|h
    . cases h;exact⟨d,0,rfl,rfl,by simpa using b,rfl,rfl⟩
    . exact rest h
theorem t8:∀{ds:List cj} {j:Nat} {x:Str} {i:Nat},(x,i)∈kJ j ds->∃d q l,i=j+q/\ds[q]? = some d/\d.ld=some l/\d.gn=x
 | [],_,_,_,h=>by simp[kJ]at h
 |d::ds,j,x,i,h=>by
  unfold kJ at h;have rest:(x,i)∈kJ (j+1) ds->∃e q l,i=j+q/\(d::ds)[q]? = some e/\e.ld=some l/\e.gn=x:=λh=>by obtain⟨e,q,l,f,c,a⟩:=t8 h;exact⟨e,q+1,l,by lia,by simpa using c,a⟩
  split at h
  . rename_i b
    rcases l2.mp h with h|h
    . cases h
      obtain⟨l,e⟩:=adM.mp b;exact⟨d,0,l,rfl,rfl,e,rfl⟩
    . exact rest h
  . exact rest h
structure Oa (M:Mo)(T:Nat->Nat->Fn):Prop where
 z:∀j ds g,T 0 j ds g=none
 s:∀k j d,M.ds[j]? = some d->T (k+1) j=d.run M (T k) k
 sc:∀d∈M.ds,d.ld=none->jM d.N d.ps (aX d.st)
 lc:∀d∈M.ds,∀p x l,M.q_ d=some (p,x,l)->l.fv=mr l.sc/\l.ar.defaults = []/\l.ar.kw_defaults = []/\d.nm ++ ".<locals>." ++ "<lambda>" = l.qual /\ ∀y∈l.fv,(aX d.st).names.lookup y=some .cell
 ln:((lD M.ds).map (·.1)).Nodup
 lf:∀d∈M.ds,d.ld=none->d.gn ∉ (lD M.ds).map (·.1)
inductive wU (M:Mo)(T T':Nat->Fn)(k:Nat):Nat->List cj->Prop
 |nil {j:Nat}:wU M T T' k j []
 |cons {j:Nat} {d:cj} {ds:List cj} (h:T' j=d.run M T k) (r:wU M T T' k (j+1) ds):wU M T T' k j (d::ds)
theorem wU.get {M:Mo}{T U:Nat->Fn}{k:Nat}:∀{j:Nat} {ds:List cj},wU M T U k j ds->∀{i:Nat} {d:cj},ds[i]? = some d->U (j+i)=d.run M T k
 |_,_,.nil,_,_,h=>by simp at h|_,_,.cons h r,0,d,e=>by simp at e;subst e;exact h|j,_,.cons h r,i+1,d,e=>by have:=r.get (i:=i) (by simpa using e);rw[show j+(i+1)=j+1+i by lia];exact this
structure vx (M:Mo)(K:KW)(f:Nat->Addr)(fd:Nat->u9):Prop where
 fn:∀j d,M.ds[j]? = some d->d.ld=none->x9 K.fr d.nm d.nm d.st (f j) (fd j)/\K.mg d.gn=some (.ref (f j))/\Gj K.fr (fd j) d.ps []
 lt:∀(j:Nat) (d:cj),M.ds[j]? = some d->d.ld=none->∀p x,d.lam=some (p,x)->∃cc P,(fd j).code = .ref cc/\adw K.fr cc P=true/\(P,p,d.nm ++ ".<locals>." ++ "<lambda>")∈K.lx.tb
 lm:K.lx.lm=λx=>(lD M.ds).lookup x
 ls:∀(j:Nat) (d:cj) (l:d9),M.ds[j]? = some d->d.ld=some l->uR l
 bl:∀x∈M.kH,K.mg x=none
 cn:∀x d,(x,d)∈M.wG->∃v u,K.mg x=some u/\kr v u /\ ∀K H ι,Rel K H ι d v
 dc:∀x t,(x,t)∈M.wH->∃a,K.mg x=some (.ref a)/\i4 K.w K a t
def Oa.len {M:Mo}(G:Oa M Y){d:cj}(h:M.ds[o]? = some d)(a:d.ld=none):∀ds g r,Y i o ds g=some r->ds.length=d.ps.length:=λds g r q=>by
 cases i with
 |zero=>rw[G.z]at q;cases q
 |succ i =>
  rw[G.s i o d h]at q;unfold cj.run at q;rw[a]at q;unfold AU at q;dsimp only at q;split at q
  . exact Aq (λ_ _ _=>tK _ _ _) ds g r q
  . exact tK ds g r q
def AV {M:Mo}(G:Oa M Y)(A:vx M w K Q)(h:(x,c)∈lD M.ds):w.lx.lm x=some c:=by rw[A.lm];exact fE G.ln h
def yV {ds:List cj}{d:cj}(h:ds[i]? = some d)(a:d.ld=some c):(d.gn,c)∈lD ds:=OW.mpr ⟨d,qt h,by rw[a];rfl⟩
def J_ {M:Mo}{f:Nat->Addr}(G:Oa M Y)(A:vx M w f Q){d:cj}(a:d∈M.ds)(b:d.ld=none):w.lx.lm d.gn=none:=by
 rw[A.lm];show(lD M.ds).lookup d.gn=none;cases e:(lD M.ds).lookup d.gn with
 |none=>rfl|some l=>exact absurd (Cm (f:=(·.1)) (vD e)) (G.lf d a b)
section
variable {M:Mo}{P:p9}{base:Heap}
theorem Df (G:Oa M Y)(A:vx M w K Q):∀k,(∀j d,M.ds[j]? = some d->d.ld=none->d_ P w.w w.fr w.mg base h_ k (K j) (Q j) d.ps (kD w d.ps.length (Y k j))) /\ ∀j d l,M.ds[j]? = some d->d.ld=some l->qQ P w base k d.gn (Y k j)
 | 0=>⟨λj d h _=>Ji λds g=>G.z j ds g,λj d l h _=>Fu λds g=>G.z j ds g⟩
 |k+1=>by
  obtain⟨ih,YE⟩:=Df G A k;have U:∀{X:Cx},X.prog=P->X.kw=w->X.base=base->(∀x i n,(x,i,n)∈(M.g (Y k) k).fns->wI (M.g (Y k) k) X x i n/\X.lx.lm x=none)/\(∀x i,(x,i)∈(M.g (Y k) k).NL->(∃l,X.lx.lm x=some l)/\qQ X.prog X.kw X.base (M.g (Y k) k).k x ((M.g (Y k) k).T i)):=fun {X} C J e3=>by
    subst C J e3;refine⟨λx i n b=>?_,λx i b=>?_⟩
    . obtain⟨e,q,v,o,B,O,h4⟩:=t7 b
      have v:i=q:=by lia
      subst v O h4;obtain⟨F',jW,iw⟩:=A.fn i e o B;exact⟨⟨K i,Q i,e.ps,ih i e o B,jW,F'.kp,iw,G.len o B⟩,J_ G A (qt o) B⟩
    . obtain⟨e,q,l,v,o,B,O⟩:=t8 b
      have v:i=q:=by lia
      subst v O;exact⟨⟨l,AV G A (yV o B)⟩,YE i e l o B⟩
  refine⟨λj d h c=>?_,λj d l h c=>?_⟩
  . obtain⟨F,hm,hb⟩:=A.fn j d h c
    have hd:=qt h;have S:=G.sc d hd c;have eX:d.ps.length<=d.N.length:=by have:=congrArg aeS S.pre;rw[yX]at this;lia
    have main:d_ P w.w w.fr w.mg base h_ (k+1) (K j) (Q j) d.ps (kD w d.ps.length (aq d.kp d.N.length d.ps.length (body (M.g (Y k) k) M.P M.W d.kp ⟨d.N,aX d.st,true,d.mt,[],M.q_ d⟩ (d7 d.st)))):=by
      refine Qu F S eX λZ y outer s H E jA R=>?_;have r:=U (X:=(lT w.lx h_ P w.w w.fr w.mg base d.N d.nm (aX d.st) (K j) Z y outer s H E).ve) rfl rfl rfl;by_cases To:w.fr.In base
      . have gd:Gd (M.g (Y k) k) ⟨d.N,aX d.st,true,d.mt,[],M.q_ d⟩ (lT w.lx h_ P w.w w.fr w.mg base d.N d.nm (aX d.st) (K j) Z y outer s H E).ve:=⟨rfl,rfl,S.nd,rfl,rfl,R,λ_ _=>rfl,(λ_ h=>nomatch h),λx i n b=>(r.1 x i n b).1,A.bl,A.cn,A.dc,λx i n b=>(r.1 x i n b).2,r.2,λp x l u=>?_⟩
        . exact J9 M.P gd _
        obtain⟨c2,c3,c4,c5,c6⟩:=G.lc d hd p x l u;obtain⟨⟨p',x'⟩,hq,u⟩:=Option.bind_eq_some_iff.mp u;obtain⟨l',gS,u⟩:=nP.mp u;cases u;have c1:=vD gS;obtain⟨cc,PP,t1,t2,t3⟩:=A.lt j d h c _ _ hq;rw[c5]at t3;obtain⟨e,YF,YG⟩:=OW.mp c1;obtain⟨l',C,J⟩:=nP.mp YG;cases J;obtain⟨je,YH⟩:=TJ YF;exact⟨AV G A c1,A.ls je e l YH C,c2,c3,c4,⟨cc,PP,jA.symm.trans t1,agz To t2,t3⟩,c5,c6,λ_=>rfl⟩
      . exact .of λa8 s' σ H' T I _=>absurd I.ok.mod.kW To
    rw[G.s k j d h];unfold cj.run;rw[c];unfold AU;dsimp only;split
    . exact JA main
    . exact main
  . rw[G.s k j d h]
    unfold cj.run;rw[c];have S:=A.ls j d l h c;refine NC S (AV G A (yV h c)) λcl a cd y outer s H R=>?_;have r:=U (X:=oO w.lx P w.w w.fr w.mg base l cl a cd y outer s H) rfl rfl rfl;have gd:Gd (M.g (Y k) k) ⟨l.fv++l.ps,l.sc,false,[],[],none⟩ (oO w.lx P w.w w.fr w.mg base l cl a cd y outer s H):=⟨rfl,rfl,S.nd,rfl,rfl,R,(λz=>nomatch z),(λ_ h=>nomatch h),λx i n b=>(r.1 x i n b).1,A.bl,A.cn,A.dc,λx i n b=>(r.1 x i n b).2,r.2,λ_ _ _ h=>nomatch h⟩
    exact(AO (M.g (Y k) k) M.P 30).1 _ _ gd false l.bd
end
noncomputable def AW (K:mW)(lx:Lx):Sp:=λb H Q _=>∃(a:Addr) (c:List Int),b = [.ref a]/\dD K H a (c.map V.int)/\c.length<=63/\(∀q∈lx.tb,H q.1=some (.cE q.2.1 q.2.2)) /\ ∀g,Q (.bl true) g
theorem t_ {K:KW}{H:Hp}{g:Ix}:∀c:List Int,ak K H g (c.map D.int) (c.map V.int)
 | []=>by simp[ak]|n::c=>by simp only[wh,ak];exact⟨_,_,rfl,by simp[Rel],t_ c⟩
def NZ {K:KW}(h:∀g:List Int,g.length<=63->∃n,l [.lst (g.map .int)] []=some (.bl true,n))(p:List V)(H:Hp)(Q:VK)(E:XK)(q:AW K.fr K.lx p H Q E):kD K 1 l p H Q E:=by
 obtain⟨a,g,rfl,c,j,k,f⟩:=q;obtain⟨n,s⟩:=h g j;refine⟨rfl,⟨[],[],λ_=>0⟩,[],[.lst (g.map .int)],.bl true,n,⟨Sm,rfl,(λb fn=>by cases fn),(λi x z=>by simp at z),λq f=>⟨k q f,by simp⟩⟩,?_,s,λo u v e G r=>?_⟩
 . simp only[ak]
   refine⟨_,_,rfl,?_,rfl⟩;simp only[Rel];refine⟨a,_,rfl,?_,t_ g⟩;rcases c with c|c
   . exact .inl ⟨c,by simp,by simp⟩
   . exact .inr c
 . simp only[Rel]at r
   rw[r];exact f o
inductive bt (K:mW)(ts:List Addr):List cj->List Addr->List u9->List (Addr×Pos×Str)->Prop
 |nil:bt K ts [] [] [] []
 |cons {nm gn:Str} {ps N:List Str} {st:Stmt} {kp pu:Bool} {mt:List Str} {ds:List cj} {fs:List Addr} {fj:List u9} {tb:List (Addr×Pos×Str)} {f:Addr} {oc:Value} {od an:Option Addr} {sl:Array (Option Value)} {Dc dc pm cd ct:Value}
  (a:HX K qr gn=some (some (.ref f)))
  (l:K.lookup f=some ⟨oc,od,.func (Hg nm nm (gm st) (d7 st) (aX st) .none Dc dc pm an cd ct),sl⟩)
  (e:adX K cd nm=true) (k:KR K (.ref f)=true)
  (b:∀us:List Value,us.length=ps.length->Th (Hg nm nm (gm st) (d7 st) (aX st) .none Dc dc pm an cd ct) ⟨us,[]⟩=pure (ps.zip us))
  (r:bt K ts ds fs fj tb):bt K ts (⟨nm,ps,N,st,kp,mt,pu,gn,none,none⟩::ds) (f::fs) (Hg nm nm (gm st) (d7 st) (aX st) .none Dc dc pm an cd ct::fj) tb
 |maker {nm gn:Str} {ps N:List Str} {st:Stmt} {kp pu:Bool} {mt:List Str} {ds:List cj} {fs:List Addr} {fj:List u9} {tb:List (Addr×Pos×Str)} {f:Addr} {oc:Value} {od an:Option Addr} {sl:Array (Option Value)} {Dc dc pm ct:Value} {cc:Addr} {P:Addr} {p:Pos} {x:Str} {vs:Array Value} {YI:Option Addr} {oX:Array (Option Value)}
  (a:HX K qr gn=some (some (.ref f)))
  (l:K.lookup f=some ⟨oc,od,.func (Hg nm nm (gm st) (d7 st) (aX st) .none Dc dc pm an (.ref cc) ct),sl⟩)
  (e:adX K (.ref cc) nm=true) (k:KR K (.ref f)=true)
  (h:K.lookup cc=some ⟨.type "code",YI,.fields vs,oX⟩) (h11:vs[11]? = some (.ref P)) (hh:adw K cc P=true) (o:K.lookup P=none) (m:P∈ts)
  (b:∀us:List Value,us.length=ps.length->Th (Hg nm nm (gm st) (d7 st) (aX st) .none Dc dc pm an (.ref cc) ct) ⟨us,[]⟩=pure (ps.zip us))
  (r:bt K ts ds fs fj tb):bt K ts (⟨nm,ps,N,st,kp,mt,pu,gn,none,some (p,x)⟩::ds) (f::fs) (Hg nm nm (gm st) (d7 st) (aX st) .none Dc dc pm an (.ref cc) ct::fj) ((P,p,nm ++ ".<locals>." ++ "<lambda>")::tb)
 |lam {nm gn:Str} {ps N:List Str} {st:Stmt} {kp pu:Bool} {mt:List Str} {ds:List cj} {fs:List Addr} {fj:List u9} {tb:List (Addr×Pos×Str)} {ld:d9}
  (b:∀(cl:List (Str×Addr)) (pm dE fT:Value) (us:List Value),us.length=ld.ps.length->Th (agg "<lambda>" ld.qual ld.ar ld.bd ld.sc cl pm dE fT) ⟨us,[]⟩=pure (ld.ps.zip us))
  (r:bt K ts ds fs fj tb):bt K ts (⟨nm,ps,N,st,kp,mt,pu,gn,some ld,none⟩::ds) (0::fs) (default::fj) tb
section
variable {f0:Addr}{d0:u9}
theorem bt.all (X:v.In A)(G:A.Ns qr I){ds:List cj}{fs:List Addr}{u:List u9}{tb:List (Addr×Pos×Str)}(L:bt v T ds fs u tb):
  ∀j d,ds[j]? = some d->(d.ld=none->(x9 v d.nm d.nm d.st (fs.getD j f0) (u.getD j d0)/\I d.gn=some (.ref (fs.getD j f0))/\Gj v (u.getD j d0) d.ps []) /\ ∀g:List Value,g.length=d.ps.length->Th (u.getD j d0) ⟨g,[]⟩=pure (d.ps.zip g)) /\
   (∀p x,d.lam=some (p,x)->∃cc P,(u.getD j d0).code = .ref cc/\adw v cc P=true/\(P,p,d.nm ++ ".<locals>." ++ "<lambda>")∈tb) /\
   ∀l,d.ld=some l->∀(cl:List (Str×Addr)) (n y B:Value) (g:List Value),g.length=l.ps.length->Th (agg "<lambda>" l.qual l.ar l.bd l.sc cl n y B) ⟨g,[]⟩=pure (l.ps.zip g):=by
 induction L with
 |nil=>intro j d A;simp at A
 |cons a l e k b r h =>
  intro j d A;cases j with
  |zero=>cases A;exact⟨λ_=>⟨⟨BV l e k,afd X G a,.all b⟩,b⟩,λ_ _ z=>nn z,λ_ z=>nn z⟩|succ j=>exact h j d A
 |maker a l e k h1 _ h2 C E b r h =>
  intro j d A;cases j with
  |zero=>cases A;exact⟨λ_=>⟨⟨BV l e k,afd X G a,.all b⟩,b⟩,λp x z=>by cases z;exact⟨_,_,rfl,h2,qc⟩,λ_ z=>nn z⟩
  |succ j =>
   obtain⟨c,i,q⟩:=h j d A;refine⟨c,λp x z=>?_,q⟩;obtain⟨cc,P,f,s,o⟩:=i p x z;exact⟨cc,P,f,s,nW _ o⟩
 |lam b r h =>
  intro j d A;cases j with
  |zero=>cases A;exact⟨λz=>nn z.symm,λ_ _ z=>nn z,λl z=>by cases z;exact b⟩|succ j=>exact h j d A
end
def bt.out {ds:List cj}(L:bt v t ds T m O):∀q∈O,(∃c,adw v c q.1=true)/\v.lookup q.1=none/\q.1∈t:=by
 induction L with
 |nil=>intro q h;cases h|cons a l e k b r g=>exact g|lam b r g=>exact g
 |maker a l e k h1 _ h2 i n b r g =>
  intro q h;cases h with
  |head=>exact⟨⟨_,h2⟩,i,n⟩|tail _ h=>exact g q h
def YJ (h:p []):∀c:List Value,c.length=0->p c
 | [],_=>h
def Dg (h:∀a c,c.length=i->p (a::c)):∀c:List Value,c.length=i+1->p c
 |a::c,e=>h a c (Nat.succ.inj e)
def kj (h:∀a,p [a]):∀c:List Value,c.length=1->p c:=Dg λa=>YJ (h a)
def mY (h:∀a b,p [a,b]):∀c:List Value,c.length=2->p c:=Dg λa=>kj (h a)
def oa (h:∀a b c,p [a,b,c]):∀g:List Value,g.length=3->p g:=Dg λa=>mY (h a)
def N0 (h:∀a b c d,p [a,b,c,d]):∀g:List Value,g.length=4->p g:=Dg λa=>oa (h a)
def Tp (h:∀a b c d e,p [a,b,c,d,e]):∀g:List Value,g.length=5->p g:=Dg λa=>N0 (h a)
structure Hx (l:d9):Prop where
 kind:l.sc.kind = .function
 co:l.sc.isCoroutine=false
 gen:l.sc.isGenerator=false
 Hm:∀y∈l.sc.names,y.2 ≠ .cell
 fr:∀x,l.sc.names.lookup x=some .free->x∈l.fv
 fv:∀x∈l.fv,l.sc.names.lookup x=some .free
 ps:∀x∈l.ps,l.sc.names.lookup x=some .local
 nd:(l.fv++l.ps).Nodup
def whole {l:XC}{K:mW}{M:Mo}{d:cj}(X:K.In A)(G:A.Ns qr I)(J:M.ds[i]? = some d)(w:d.ld=none)(E:d.ps = [x])(Z:d.gn = "law")(N:I "law" = some (.ref f))(gd:Oa M Y)(mg:∀e∈M.ds,∀l,e.ld=some l->Hx l)(L:bt K t M.ds T m O)(n:(O.map (·.1)).Nodup)(U:∀y∈M.kH,HX K qr y=some none)(Q:∀y e,(y,e)∈M.wG->∃v fa,HX K qr y=some (some fa)/\kr v fa /\ ∀K H ι,Rel K H ι e v)(dc:∀y B,(y,B)∈M.wH->∃a,HX K qr y=some (some (.ref a)) /\ ∀lx,i4 u ⟨K,u,I,lx⟩ a B)(C:∀g:List Int,g.length<=63->∃g',Y o i [.lst (g.map .int)] []=some (.bl true,g')):
   ∃(fd:u9) (lx:Lx),TabsOk K t lx/\(∀(s:j0) (v:Value),agV s fd ⟨[v],[]⟩ [(x,v)]) /\ ∀base:Heap,K.In base->base.Ns qr I->d_ l.prog u K I base h_ o f fd [x] (AW K lx):=by
 have fs:vx M ⟨K,u,I,⟨O,λx=>(lD M.ds).lookup x⟩⟩ (λj=>T.getD j f) (λj=>m.getD j (m.getD 0 default)):=⟨λj d A b=>((L.all X G j d A).1 b).1,λj d A _ p x b=>(L.all X G (f0:=f) j d A).2.1 p x b,rfl,λj d l A b=>by
   have S:=mg d (qt A) l b;exact⟨S.kind,S.co,S.gen,S.Hm,S.fr,S.fv,S.ps,S.nd,(L.all X G (f0:=f) (d0:=default) j d A).2.2 l b⟩,λy r=>PySem.W.mg_none_of X G (U y r),λy e hm=>by
   obtain⟨v,fa,R,k,h⟩:=Q y e hm;exact⟨v,fa,afd X G R,k,h⟩,λy B hm=>by
   obtain⟨a,R,k⟩:=dc y B hm;exact⟨a,afd X G R,k _⟩⟩
 obtain⟨F,hm,z⟩:=fs.fn i d J w;rw[Z]at hm;have e:T.getD i f=f:=by have:=hm.symm.trans N;injection this with this;injection this
 refine⟨m.getD i (m.getD 0 default),⟨O,λx=>(lD M.ds).lookup x⟩,⟨λq c=>(L.out q c).1,λq c=>(L.out q c).2.1,λq c=>(L.out q c).2.2,n⟩,λs v=>.of_eq ?_,λbase _ _=>?_⟩
 . have:=((L.all X G (f0:=f) (d0:=m.getD 0 default) i d J).1 w).2 [v] (by rw[E];rfl)
   rw[this,E];rfl
 have ok:=(Df (P:=l.prog) (base:=base) gd fs o).1 i d J w;dsimp only at ok;rw[e,E]at ok;exact d_.imp ok (NZ (K:=⟨K,u,I,⟨O,λx=>(lD M.ds).lookup x⟩⟩) C)
end
section
open PySem.SeqAt PyProof.Rows PySem.W
section
variable {N:Nat}(hN:0<N)
include hN
end
end
section
open PyProof.Rows
variable {Y:Nat->Nat->Fn}{R:List cj}{M:Mo}
noncomputable def VA:mD:=⟨"len",bw,λ_ _=>.inl ⟨_,MV,PySem.boot_len⟩⟩
noncomputable def VB:mD:=⟨"int",j7,λ_ _=>.inr ⟨_,MX,boot_int⟩⟩
noncomputable def VC:mD:=⟨"tuple",fL,λ_ _=>.inr ⟨_,MY,boot_tuple⟩⟩
noncomputable def jL (c h:Fn):Fn:=λds g=>match ds with| [_,_]=>c ds g|_=>h ds g
def Dh {h:Fn}(c:dX X Z (kA X.kw l))(e:dX X Z (kA X.kw h)):dX X Z (kA X.kw (jL l h)):=by
 intro i s n H u v Q I r q;obtain⟨x,g,ds,d,b,G0,a,q,p⟩:=q;unfold jL at q;split at q
 . exact c i s n H u v Q I r ⟨x,g,_,d,b,G0,a,q,p⟩
 . exact e i s n H u v Q I r ⟨x,g,_,d,b,G0,a,q,p⟩
noncomputable def QY:mD:=⟨"min",jL kR ic,λb a=>.inl ⟨_,Dh (MW a) (JF b.hd),boot_min⟩⟩
noncomputable def QZ:AK:=⟨"get",i5,jy,λa=>⟨_,_,Nr a.units⟩⟩
noncomputable def isRef:D->Bool
 |.ref _=>true|_=>false
def FK {q:Ix}{x:V}(I:jo X b v H s)(G0:az X.kw H q a)(r:Rel X.kw H q c x)(i:kr x Z)(h:isRef c=true):
  s.TypeIs Z "list" /\ ∀p,Z = .ref p->∃u,s.heap.get? p=some u/\u.dict=none:=by
 cases c with
 |ref n =>
  obtain⟨p,rfl,g⟩:=r;have e:n<a.length:=by rw[<- G0.len];exact(l8.mp g.1).1
  obtain⟨f,y,_⟩:=G0.at (lC e) g;exact BQ I i (.inl ⟨rfl,f,.of y⟩)
 |_=>cases h
noncomputable def eZ (d:D)(ds:List D)(g:G):Option (D×G):=match d,ds with
 |.ref n,[x]=>(g[n]?).bind λc=>if aC (c.length+1)=true then some (.ay,g.set n (c ++ [x]))else none|_,_=>none
def Di:MR X "list" "append" "list.append" isRef eZ where
 pa:=PySem.F.plainAttrs_list
 slot:=PySem.F.slot_list_append
 ty:=PySem.F.type_list_append
 is:=FK
 run:=by
  intro a8 s σ H x xs v us Q I f rs q;obtain⟨ι,g,d,ds,l,r,G0,i,rl,k,q,p⟩:=q;cases d with
  |ref n =>
   match ds,q,rl with
   | [y],q,rl =>
    simp only[eZ]at q;obtain⟨o,h,q⟩:=bind_some q;split at q
    . rename_i j
      cases q;obtain⟨a,rfl,b⟩:=i;obtain⟨w,_,rfl,c,rfl⟩:=rl;obtain⟨ws,hw,e⟩:=G0.at h b;refine tf a8 s σ H _ _ v us Q I f rs ⟨a,ws,w,rfl,rfl,hw,?_,?_⟩
      . have:=aC.le j;rw[<- e.length];lia
      . exact p _ ι _ (Ext.put b hw) (G0.put b hw (ak.append e (by simp only[ak];exact⟨_,_,rfl,c,rfl⟩))) (by simp[Rel])
    . cases q
   | [],q,_=>cases q|_::_::_,q,_=>cases q
  |_=>cases k
noncomputable def FL:AK:=⟨"append",isRef,eZ,λ_=>⟨_,_,Di⟩⟩
noncomputable def Dj (E:Expr->FE)(c:List Expr):FI:=match c with
 | [a]=>iA (aE E [a])| [a,b]=>Se (aE E [a,b])|_=>qT
noncomputable def Ka:uU where
 nm:="range"
 tup:=false
 f:=Dj
 ok:=λl j hm h e c _=>by
  rename_i X k E i as p pos;unfold Dj;split
  . rename_i a
    simp only[vy,agQ,Zf]at c;exact Qq h hm (gw e _) (bG c)
  . rename_i a b
    simp only[vy,agQ,Zf,El]at c;exact Qr h hm (gw e _) (by rw[bG c.1,bG c.2];rfl) (bG c.2)
  . exact sj
noncomputable def Dk (E:Expr->FE)(b:List Expr):FI:=match b with
 | [a]=>uN (E a)|_=>qT
noncomputable def N2:uU where
 nm:="enumerate"
 tup:=true
 f:=Dk
 ok:=λl j hm i e b c=>by
  rename_i X k E h as p pos;unfold Dk;split
  . rename_i a
    simp only[vy,agQ,Zf]at b;have:=c rfl;cases h with
    |Tuple elts kt tp=>exact JD i hm (e a) (bG b)|_=>cases this
  . exact sj
noncomputable def Q0:uU where
 nm:="zip"
 tup:=true
 f:=λE as=>qO (aE E as)
 ok:=λo l hm j c a i=>by
  rename_i X k E b as p pos;have:=i rfl;cases as with
  |nil=>exact .of (λa8 s σ H R I h=>by obtain⟨_,_,_,_,_,_,_,h,_⟩:=h;cases h)
  |cons e es =>
   rw[vy,El]at a;cases b with
   |Tuple elts kt tp=>exact JS j hm (gw c _) (bG a.1) (gW a.2)|_=>cases this
noncomputable def Hz:G0->Cs->(Expr->FE)->Expr->Option FT:=λ_ _ _ _=>none
noncomputable def Dm (d:cj):Bool:=d.ld.isSome||(
 decide ((aX d.st).kind = .function) && !(aX d.st).isCoroutine && !(aX d.st).isGenerator&&t6 d.N&&decide (d.N.take d.ps.length=d.ps) &&
 d.ps.all (λx=>(aX d.st).names.lookup x == some .local||(aX d.st).names.lookup x == some .cell)&&(aX d.st).names.all (λy=>!(y.2 == .free)))
noncomputable def yW (ds:List cj):Bool:=ds.all Dm
def Dp (h:yW R=true):∀d∈R,d.ld=none->jM d.N d.ps (aX d.st):=λd hd b=>by have:=EN.mp h d hd;unfold Dm at this;rw[b]at this;simp only[agO,Bool.false_or,la,decide_eq_true_eq,vR,EN,uG,beq_iff_eq]at this;obtain⟨⟨⟨⟨⟨⟨k,c⟩,a⟩,f⟩,l⟩,i⟩,o⟩:=this;exact⟨k,c,a,n_ f,l,i,λy j e=>by have:=o y j;rw[e]at this;simp at this⟩
noncomputable def N3 (l:d9):Bool:=decide (l.sc.kind = .function) && !l.sc.isCoroutine && !l.sc.isGenerator&&l.sc.names.all (λy=>!(y.2 == .cell))&&l.sc.names.all (λy=>!(y.2 == .free)||l.fv.elem y.1) &&
 l.fv.all (λx=>l.sc.names.lookup x == some .free)&&l.ps.all (λx=>l.sc.names.lookup x == some .local)&&t6 (l.fv++l.ps)
noncomputable def HA (ds:List cj):Bool:=ds.all λd=>match d.ld with|some l=>N3 l|none=>true
def Kb (h:HA R=true):∀d∈R,∀l,d.ld=some l->Hx l:=λd hd l b=>by have:=EN.mp h d hd;rw[b]at this;simp only[N3,la,decide_eq_true_eq,vR,EN,uG,beq_iff_eq]at this;obtain⟨⟨⟨⟨⟨⟨⟨q,c⟩,a⟩,f⟩,r⟩,i⟩,s⟩,o⟩:=this;exact⟨q,c,a,λy j e=>by have:=f y j;rw[e]at this;simp at this,λx k=>(r _ (vD k)).elim (λz=>by simp at z) λz=>OZ.mp z,i,s,n_ o⟩
noncomputable def N4 (M:Mo):Bool:=M.ds.all (λd=>match M.q_ d with
 |some (_,_,l)=>decide (l.fv=mr l.sc)&&l.ar.defaults.isEmpty&&l.ar.kw_defaults.isEmpty&&decide (d.nm ++ ".<locals>." ++ "<lambda>" = l.qual)&&l.fv.all (λy=>(aX d.st).names.lookup y == some .cell)|none=>true)&&t6 ((lD M.ds).map (·.1))&&M.ds.all (λd=>d.ld.isSome || !((lD M.ds).map (·.1)).elem d.gn)
def Kc (z:∀j ds g,Y 0 j ds g=none)(r:∀k,wU M (Y k) (Y (k+1)) k 0 M.ds)(u:yW M.ds=true)(s:N4 M=true):Oa M Y:=by
 simp only[N4,la,EN]at s;obtain⟨⟨s,o⟩,q⟩:=s;refine⟨z,λk j d h=>by simpa using (r k).get h,Dp u,λd hd p x l i=>?_,n_ o,λd hd i m=>?_⟩
 . have:=s d hd
   rw[i]at this;simp only[la,decide_eq_true_eq,EN,beq_iff_eq,aeo]at this;obtain⟨⟨⟨⟨a,b⟩,c⟩,e⟩,f⟩:=this;exact⟨a,b,c,e,f⟩
 . have:=q d hd
   rw[i,OZ.mpr m]at this;simp at this
noncomputable def HB:List Addr->Bool
 | []=>true|x::r=>!(r.elem x)&&HB r
theorem Dq:∀{l:List Addr},HB l=true->l.Nodup
 | [],_=>Sm|x::r,h=>by simp only[HB,la,vR]at h;exact DK.mpr (And.intro (λz=>(by rw[OZ.mpr z]at h;exact absurd h.1 (by simp))) (Dq h.2))
noncomputable def At (K:mW)(b:List Addr)(w:World)(mg:Str->Option Value)(M:Mo):Prop:=∃fs c tb,bt K b M.ds fs c tb/\HB (tb.map (·.1))=true/\(∀y∈M.kH,HX K qr y=some none) /\
 (∀y e,(y,e)∈M.wG->∃v u,HX K qr y=some (some u)/\kr v u /\ ∀K H g,Rel K H g e v) /\
 (∀y t,(y,t)∈M.wH->∃a,HX K qr y=some (some (.ref a)) /\ ∀lx,i4 w ⟨K,w,mg,lx⟩ a t)
def Ke {l:XC}{q:p9}{A:(Str->Option Value)->Heap->Prop}{H:World->Heap->Prop}{d:DefRec}{K:Params->mW}{R:Nat}{dt:cj}(O:l.most=some 63)(J:dy R Qj)(N:d.params.defaults = [])(p:d.name = "law")(Q:∀(w:World) (h:Heap),H w h->(K w.params).In h /\ ∀P∈T,h.get? P=some (Pd #[]))(F:∀(w:World) (mg:Str->Option Value) (h:Heap),(K w.params).In h->h.Ns qr mg->At (K w.params) T w mg M)(W:M.ds[i]? = some dt)(I:dt.ld=none)(S:dt.ps = [x])(Z:dt.gn = "law")(gd:Oa M Y)(X:HA M.ds=true)(E:∀g:List Int,g.length<=63->∃g',Y R i [.lst (g.map .int)] []=some (.bl true,g')):
  agv q U A H l.row.toRowW d [] (λf vs=>agk f vs):=
 IT (n:=63) (k:=R) (x:=x) (CX:=λ_=>h_) (sp:=λw o=>AW (K w.params) o) O (by decide) N J Q
  (λw mg v h b G c=>by obtain⟨fs,y,tb,L,j,B,C,r⟩:=F w mg h b G;rw[p]at c;exact whole b G W I S Z c gd (Kb X) L (Dq j) B C r E)
  (λ_ _ _ a g e s u=>⟨a,g,rfl,s,e,u,λ_=>rfl⟩) λ_ _ _ _ _ z=>z
section
variable {α β:Type}{P:α->Prop}{Q:α->β->Prop}
def bn:∀y∈([]:List α),P y:=λy h=>by simp at h
def bc {x:α}{l:List α}(h:P x)(r:∀y∈l,P y):∀y∈x::l,P y:=λy z=>by
 rcases l2.mp z with rfl|z
 . exact h
 . exact r y z
def Tq:∀y e,(y,e)∈([]:List (α×β))->Q y e:=λy e h=>by simp at h
def cc {x:α}{d:β}{l:List (α×β)}(h:Q x d)(r:∀y e,(y,e)∈l->Q y e):∀y e,(y,e)∈(x,d)::l->Q y e:=λy e z=>by
 rcases l2.mp z with z|z
 . cases z;exact h
 . exact r y e z
end
noncomputable def FN (m:G0)(c:Cs)(x:Str):Option (List (Str×D)):=if iO x then none else if c.sc.names.lookup x=some .globalImplicit then m.wH.lookup x else none
def Kf {m:G0}{c:Cs}(g:Gd m c X){t:List (Str×D)}(h:FN m c x=some t):(x == ("__debug__":Str))=false/\Gl X x /\ ∃a,X.mg x=some (.ref a)/\i4 X.w X.kw a t:=by
 unfold FN at h;split at h
 . cases h
 . rename_i b
   split at h
   . rename_i e
     exact⟨(nZ (by simpa using b)).1,g.gl e,g.dc x t (lookup_mem h)⟩
   . cases h
noncomputable def Tr:Expr->Option (Expr×Str×Pos)
 |.Attribute o x p=>some (o,x,p)|_=>none
noncomputable def one {b:Type}:List b->Option b
 | [a]=>some a|_=>none
def N6 {b:Type}{l:List b}{a:b}(h:one l=some a):l = [a]:=by
 cases l with
 |nil=>cases h
 |cons x l=>cases l with
  |nil=>cases h;rfl|cons=>cases h
def N7 (h:Tr e=some (J,x,q)):e = .Attribute J x q:=by
 cases e with
 |Attribute=>cases h;rfl|_=>exact nn h
noncomputable def Ts (e:Expr):Option (Str×Expr):=(sV e).bind λu=>(nV u.1).map λC=>(C,u.2)
def N8 (h:Ts e=some (x,J)):∃g p4,e = .Subscript (.Name x p4) J g:=by obtain⟨⟨o,f⟩,b,h⟩:=bind_some h;obtain⟨c,a,h⟩:=nP.mp h;cases h;obtain⟨g,rfl⟩:=AI b;obtain⟨p4,rfl⟩:=oQ a;exact⟨g,p4,rfl⟩
noncomputable def Tt (e:Expr):Option (Expr×Str×Pos×Expr×Pos):=(C0 e).bind λq=>(Tr q.1).bind λr=>(one q.2.1).map λy=>(r.1,r.2.1,r.2.2,y,q.2.2)
def N9 {y:Expr}{pos:Pos}(h:Tt e=some (J,x,q,y,pos)):e = .Call (.Attribute J x q) [y] [] pos:=by obtain⟨⟨f,g,p⟩,c,h⟩:=bind_some h;obtain⟨⟨i,l,j⟩,b,h⟩:=bind_some h;obtain⟨k,a,h⟩:=nP.mp h;cases h;obtain rfl:=qX c;obtain rfl:=N7 b;obtain rfl:=N6 a;rfl
noncomputable def Tu (x:Expr):Option (Str×Expr×Str×Pos×Expr×Pos):=(Tt x).bind λq=>(Ts q.1).map λr=>(r.1,r.2,q.2)
def N_ {y:Expr}{nm:Str}{pos:Pos}(h:Tu e=some (x,J,nm,q,y,pos)):∃g p4,e = .Call (.Attribute (.Subscript (.Name x p4) J g) nm q) [y] [] pos:=by obtain⟨⟨o,k,c,i,pos'⟩,b,h⟩:=bind_some h;obtain⟨⟨f,j⟩,a,h⟩:=nP.mp h;cases h;obtain rfl:=N9 b;obtain⟨g,p4,rfl⟩:=N8 a;exact⟨g,p4,rfl⟩
noncomputable def Q1:qY where
 e:=λm c E _ x=>(Tu x).bind λq=>if !(q.2.2.1 == "index")||uT q.2.1||isStar q.2.2.2.2.1 || !(q.2.2.2.1.endLine == q.2.2.2.2.2.line)then none else(FN m c q.1).map λt=>As t (E q.2.1) (E q.2.2.2.2.1)
 C3:=by
  intro m c X E g i rf x f h;obtain⟨⟨C,k,nm,ap,y,pos⟩,v1,b⟩:=bind_some h;obtain⟨v,z,rfl⟩:=N_ v1;dsimp only at b;split at b
  . cases b
  . rename_i j
    simp only[uG,not_or,vR,afk,Pn]at j;obtain⟨⟨⟨s1,s2⟩,s3⟩,s4⟩:=j;have s1:=eq_of_beq s1;subst s1;obtain⟨t,s,rfl⟩:=nP.mp b;obtain⟨o,u,a,l,r⟩:=Kf g s;refine JC r l (i _) (i _) u (yO s2) o (baseOk rfl) ?_ s4 (bG s3);rw[wK (by rw[vy,s3];rfl)];rfl
 t:=Hz
 tok:=by intro m c X E g i x f h;cases h
end
section
def gG:entryFor table "dict.update.loop" = some sk.«dict.update.loop»:=entryFor_of_tree (by kernel_rfl)
def dH:plainId "dict.update.loop" = true:=by decide +kernel
def wV:typeLookup (.type "list") "keys" = pure none:=by rw[aeD,adm];kernel_rfl
def wW {A:nc}{o:Obj}{p:Array Value}{Q:Option Value->j0->Prop}(H:s.heap.get? f=some o)(C:o.cls = .type "list")(B:o.data = .seq p i)(z:o.dict=none)(I:A.handled=none)(h:∀n J,(∀b O,s.heap.get? b=some O->n.get? b=some O)->Q none { s with heap:=n,toks:=J }):
  wpAny (model k u) A (getAttr? (.ref f) "keys") Q E s:=by
 obtain⟨c,w,R,q⟩:=o;simp only at C B z;subst C B z;obtain⟨l,g,d,J,os⟩:=s;have j:∀prog,(⟨l,g,d,prog,os⟩:j0).TypeIs (.ref f) "list":=λ_=>⟨_,H,rfl⟩
 have U:=sub_AttributeError;have x:=F.slot_list_getattribute.lookup;have Y:=F.slot_list_getattribute.bind (.ref f);have r:=am_list_getattr_none;unfold getAttr? getAttrBy? getAttrBy;repeat (any_goals (first|assumption|exact j _| ((with_reducible show wpAny _ _ (call (Value.builtin "list.__getattribute__") _ _) _ _ _);refine Of F.slot_list_getattribute (j _) am_entry_list_getattribute (F.args_list_getattribute_2 _ _) (meets_getattribute_miss_list f p i q "keys" _ wV (by decide) (by size_fits)) ⟨H,I,λn prog e a=>?_⟩)|wp_step))
 obtain⟨v,y,Z⟩:=a.there;show wpAny _ _ (getattributeRaised _ _ _ _ _ _ _) _ _ _;unfold getattributeRaised;repeat (any_goals (first|assumption|wp_step))
 exact h _ _ a.keeps
end
section
open PyProof.Rows SeqAt
noncomputable def AX:D->Option (D×D)
 |.tup [k,v]=>some (k,v)|_=>none
noncomputable def i7:List D->Option (List (D×D))
 | []=>some []|d::ds=>(AX d).bind λp=>(i7 ds).map λr=>p::r
noncomputable def mE:Fn:=λds g=>match ds with
 | [.lst ps]=>(i7 ps).bind λa=>(XN g.length a (g ++ [[]])).map λb=>(.bq g.length,b)|_=>none
theorem wX {A:nc}{E:Value->j0->Prop}{P:j0->Prop}(hu:A.units+32<cLine)(hh:A.handled=none){a l B:Addr}{n:Nat}{ps:List D}{vs:List V}:∀(O:List (D×D)) (i:Nat) {s:j0} {H:Hp} {C:Ix} {g U:G},jo X b v H s->az X.kw H C g->eE C n a true->mT X.kw H C l vs->ak X.kw H C ps vs->i7 (ps.drop i)=some O->XN n O g=some U ->
  s.heap.IsListIter B l i->fS X b H B ->
  (∀Y Q,jo X b v Q Y->Ext H C Q C->az X.kw Q C U->P Y) ->
  F2 (model X.prog X.w) A (.builtin "dict.update.loop" ⟨[.ref a,.ref B,.int i 0,.none],[]⟩) (wants (λr s₂=>r = .none/\P s₂) E) s
 | [],i,s,H,C,g,U,I,G0,ha,hq,Z,h,j,J,hf,p=>by
  cases j;have hd:ps.drop i = []:=by
    cases e:ps.drop i with
    |nil=>rfl|cons x r=>rw[e]at h;simp only[i7]at h;obtain⟨_,_,h⟩:=bind_some h;obtain⟨_,_,h⟩:=nP.mp h;cases h
  obtain⟨av,eH,pl,hz⟩:=I.list hq.sq;have hlen:av.length<=i:=by rw[<- eH.length,<- Z.length];exact ZZ.mp hd
  refine Sl gG ?_;rw[TZ dH _];show wpAny _ A.in1 (Bv (.ref B) >>= _) _ _ s;refine jg (af8 hh J pl.isList (by simp;lia) λh' hx=>?_);show wpAny _ A.in1 (Builtin.Dict.addKeywords a [] >>= _) _ _ _;exact jg (kn (kn ⟨rfl,p _ H (I.turned (t':=s.toks) (λR o hb q=>hx R o hb q) hf.1 hf.2.1 hf.2.2.2.1 hf.2.2.2.2.1 hf.2.2.2.2.2) Ext.refl G0⟩))
 | (k,a8)::O,i,s,H,C,g,U,I,G0,ha,hq,Z,h,j,J,hf,p=>by
  obtain⟨x,r,hd,HC,YM⟩:∃x r,ps.drop i=x::r/\AX x=some (k,a8)/\i7 r=some O:=by
    cases e:ps.drop i with
    |nil=>rw[e]at h;simp[i7]at h
    |cons x r =>
      rw[e]at h;simp only[i7]at h;obtain⟨p0,h1,h⟩:=bind_some h;obtain⟨r0,h2,h⟩:=nP.mp h;cases h;exact⟨x,r,rfl,h1,h2⟩
  have hi:ps[i]? = some x:=by have:=congrArg (λl=>l[0]?) hd;simpa using this
  have YN:ps.drop (i+1)=r:=by have:=congrArg List.tail hd;simpa using this
  have hx:x = .tup [k,a8]:=by
    unfold AX at HC;split at HC
    . cases HC;rfl
    . cases HC
  subst hx;obtain⟨av,eH,pl,hz⟩:=I.list hq.sq;obtain⟨w,hw,ab⟩:=Z.get hi;obtain⟨u,YO,ru⟩:=eH.get hw;obtain⟨R,us,rfl,YQ,YR⟩:=ab;cases ru;obtain⟨kv,_,rfl,rk,vv,_,rfl,rv,rfl⟩:=YR;refine Sl gG ?_;rw[TZ dH _];show wpAny _ A.in1 (Bv (.ref B) >>= _) _ _ s;refine jg (afU J pl.isList (by simpa using YO) λh' VD sb=>?_);have I1:jo X b v H { s with heap:=h' }:=I.turned (t':=s.toks) (λR o hb e=>sb.extBut R o hb e) hf.1 hf.2.1 hf.2.2.2.1 hf.2.2.2.2.1 hf.2.2.2.2.2;obtain⟨lW,Q2,⟨o,h1,h2,m,h3⟩,_⟩:=I1.tuple YQ.sq;obtain⟨ku,vu,rfl,Nt,YS⟩:∃ku vu,lW = [ku,vu]/\kr kv ku/\kr vv vu:=by
    cases Q2 with
    |cons a1 r1=>cases r1 with
      |cons a2 r2=>cases r2;exact⟨_,_,rfl,a1,a2⟩
  show wpAny _ A.in1 (zk [.ref R] _ >>= _) _ _ _;refine jg (sZ ?_);refine jg (wpAny_tryCatch ?_);unfold Builtin.Dict.pairItems;refine jg (RY ⟨o,h1,h2⟩ ?_);rw[if_pos (by decide)];refine jg (Uo h1 h3 (kn ?_));simp only[XN]at j;obtain⟨g1,y,j⟩:=bind_some j;simp only[kS]at y;obtain⟨xs,mX,y⟩:=bind_some y;split at y
  . rename_i hk
    simp only[la]at hk;cases y;obtain⟨es,Ha,c,f,tS,iC,Np,YT,nd,sy,sz,rl⟩:=G0.yi mX ha;have en:=Ent.of Np YT rl;have YU:=aC.le hk.2;rw[yG en]at YU;refine sZ ?_;refine tR I1 (by rw[in1_units];lia) f iC sz en nd hk.1 rk Nt rv YS λtk vQ dM e1 e2 e3 e0 e4 e5=>?_;refine kn ⟨YD dH _,?_⟩;have x1:Ext H C (upd H a (dO a dM c)) C:=Ext.put ha f;have fO:B≠a:=λz=>by rw[z]at hf;rw[hf.1]at f;cases f
    have:=wX (P:=P) hu hh O (i+1) (wt (tk:=tk) I1 f e4 e5) (wu G0 ha tS f e1 e2 sy e0 (by lia)) ha (hq.ext x1) (ak.ext x1 _ Z) (by rw[YN];exact YM) j (VD.at λo q=>by rw[e5.2 B fO];exact q) ⟨by rw[aF fO];exact hf.1,hf.2⟩ (E:=E) λY Q I' x' G'=>p Y Q I' (x1.trans x') G';exact this
  . cases y
def Kg (B:dy i X.A):dX X (.type "dict") (kA X.kw mE):=by
 intro C s E H xs us Q I r q;obtain⟨n,g,ds,d,g',G0,Y,q,p⟩:=q;unfold mE at q;split at q
 . rename_i ps
   obtain⟨Z,Nl,q⟩:=bind_some q;obtain⟨g2,YV,q⟩:=nP.mp q;cases q;obtain⟨v,_,rfl,rv,rfl⟩:=Y;obtain⟨l,vs,rfl,hq,YW⟩:=rv;obtain⟨u,rfl,ru⟩:=Tw r;cases ru;have hf:H s.heap.objs.size=none:=I.aV.fresh (lb _);have f:∀h:Heap,(h.push { cls:=.type "dict",data:=.dict #[] }).get? h.objs.size=some { cls:=.type "dict",data:=.dict #[] }:=λh=>n3 _ rfl;have J:jo X C E (upd H s.heap.objs.size (dO s.heap.objs.size [] 0)) { s with heap:=s.heap.push { cls:=.type "dict",data:=.dict #[] } }:=I.laid (t':=s.toks) (λb u e=>mn _ e) (lb _) ⟨f _,⟨_,f _⟩,λc j q i=>i _ q⟩;have x:Ext H n (upd H s.heap.objs.size (dO s.heap.objs.size [] 0)) (n.more s.heap.objs.size 1):=Ext.iY (b:=1) hf;have G1:az X.kw (upd H s.heap.objs.size (dO s.heap.objs.size [] 0)) (n.more s.heap.objs.size 1) (g ++ [[]]):=G0.iY hf (.d 0 [] [] (rb _) .nil .nil (by simp[cO]) (beq_eq_false_iff_ne.mpr (ta (oZ (big I)))) (rb _)) (by simp[ak]);have HD:eE (n.more s.heap.objs.size 1) g.length s.heap.objs.size true:=eE.new G0.len;refine callType_codes (Q₁:=λobj s₁=>obj = .ref s.heap.objs.size/\s₁={ s with heap:=s.heap.push { cls:=.type "dict",data:=.dict #[] } }) F.kt_called_dict (F.kt_typeCall_dict_1 _) F.entry_dict_init (kt_code_dict_new _ ⟨rfl,rfl⟩) ?_;rintro obj s₁ ⟨rfl,rfl⟩;have z:aiz { s with heap:=s.heap.push { cls:=.type "dict",data:=.dict #[] } } (.ref s.heap.objs.size) "dict":=⟨_,f _,rfl⟩
   refine⟨z,F.args_dict_init_2 _ _,?_⟩;unfold sk.«dict.__init__»;refine jg ?_;unfold Builtin.Dict.selfAndRest;refine jg (agf z ?_);show wpAny _ _ (pure (s.heap.objs.size,[yE l])) _ _ _;refine kn ?_;show wpAny _ _ (afM "dict.__init__" s.heap.objs.size (.ref l) [] .none) _ _ _;unfold afM;have y:=hq.ext x;obtain⟨av,eH,pl,hz⟩:=J.list y.sq;obtain⟨o,m,c,j,h3,h4⟩:=id pl;refine jg (RY ⟨o,c,j⟩ ?_);rw[if_pos (by decide)];refine jg (wW (A:=X.A.in1.in1) c j h4 h3 (by simp[B.hd]) λO a R=>?_);rw[if_pos (by rfl)];have k:jo X C E (upd H s.heap.objs.size (dO s.heap.objs.size [] 0)) { s with heap:=O,toks:=a }:=J.kept (t':=a) R;refine jg (yn (jg (ad5 (pl.keeps R).isList ?_)));have I3:jo X C E (upd H s.heap.objs.size (dO s.heap.objs.size [] 0)) { s with heap:=O.push { cls:=.type "list_iterator",data:=.fields #[.ref l,.int 0 0] },toks:=a }:=k.kept (t':=a) λb u e=>mn _ e;refine kn ⟨YD dH _,?_⟩;refine wX (A:=X.A.in1) (by rw[in1_units];have:=B.units;lia) (by simp[B.hd]) Z 0 I3 G1 HD y (ak.ext x _ YW) Nl YV ⟨_,n3 _ rfl,rfl,rfl⟩ (k.ny (lb _) (k.aV.fresh (lb _))) λs' U I' x' G'=>?_;refine⟨.ref s.heap.objs.size,U,I',rfl,p U _ _ (x.trans x') G' ?_⟩;simp only[Rel];exact⟨_,rfl,HD⟩
 . cases q
end
section
noncomputable def rl (x:Nat):Nat:=(x*2147483648) % 18446744073709551616+x / 8589934592
noncomputable def gx (w:Nat):Nat:=let y:=((w+18446744073709551616-2870177450013471924) % 18446744073709551616)*614540362697595703 % 18446744073709551616;y % 2147483648*8589934592+y / 2147483648
noncomputable def out (w:Nat):Int:=if(w == 18446744073709551616-1)=true then 1546275796 else if w<9223372036854775808 then(w:Int)else(w:Int)-18446744073709551616
end
set_option maxRecDepth 10000
section
def el (a b:Int):[a,b].length=2:=rfl
def ec:((18446744073709551616:Nat):Int)=18446744073709551616:=rfl
end
section
open PyProof.Rows
noncomputable def e_ (R:Str->Option Fn)(i:Nat)(fr:FA):FE:=λc g=>match c[i]? with
 |some (some (.fn y ds))=>(R y).bind λfn=>(fr c g).bind λq=>fn (ds++q.1) q.2|_=>none
def Dt {R:Str->Option Fn}{fr:FA}{y:Str}{fn:Fn}(g:h[i]? = some (some (.fn y [])))(c:R y=some fn):e_ R i fr h a=(fr h a).bind λq=>fn q.1 q.2:=by unfold e_;rw[g];simp[c]
noncomputable def HF:mD:=⟨"dict",mE,λa _=>.inr ⟨_,Kg a,boot_dict⟩⟩
noncomputable def Tv (m:G0):Str->Option Fn:=λy=>match m.fns.lookup y with
 |some q=>some (m.T q.1)|none=>(m.NL.lookup y).map λi=>cR (m.T i)
noncomputable def Ob:qY where
 e:=λm c E _ x=>match x with
  |.Call (.Name y _) (a::as) [] _=>if iO y||(a::as).any isStar || !(uV (c.sc.names.lookup y))then none else(kh c.N y).map λi=>e_ (Tv m) i (aE E (a::as))|_=>none
 C3:=by
  intro m c X E g hE rf x f h;split at h
  . rename_i y p a as pos
    split at h
    . cases h
    . rename_i hh
      simp only[uG,not_or,Pn,vR,afk]at hh;obtain⟨⟨h1,h2⟩,h3⟩:=hh;obtain⟨i,hi,rfl⟩:=nP.mp h;obtain⟨o1,o2,_⟩:=nZ h1;rw[vy,El]at h2;have hN:X.N[i]? = some y:=by rw[g.hN];exact f_ hi
      have hv:Bt X.env.scope y:=by
        rw[g.hs];unfold uV at h3;split at h3
        . rename_i e;exact .inl e
        . rename_i e;exact .inr (.inl e)
        . rename_i e;exact .inr (.inr e)
        . cases h3
      refine .of (λa8 s σ H Q I k=>?_);obtain⟨ι,σd,g0,d,g',G0,S0,k,pp⟩:=k;unfold e_ at k;split at k
      . rename_i z dz hz
        obtain⟨fn,sM,k⟩:=bind_some k;obtain⟨v,hσ,rv⟩:=S0.2 i _ hz;obtain⟨fa,gF,rfl,hV,rc⟩:=rv;obtain⟨mm,hn,NK⟩:=I.loc;obtain⟨u,r,l⟩:=NK i y _ hN hσ hv;cases r;have load:∀{Q:Value->j0->Prop} {E:Value->j0->Prop},Q (.ref fa) s->wpAny (model X.prog X.w) X.A (eval (.Name y p) X.env) Q E s:=λfin=>by
          rcases l with⟨hk,hm⟩|⟨hk,c,hc,gk⟩
          . exact Wd (aex I.ok.kind hk hn hm fin) o1
          . rcases hk with hk|hk
            . exact Wd (aeI I.ok.kind hk hc gk fin) o1
            . exact Wd (agy I.ok.kind hk hc gk fin o2) o1
        unfold Tv at sM;split at sM
        . rename_i jn hl
          obtain⟨j,n⟩:=jn;cases sM;obtain⟨ab,fd,ps,ok,hm,kp,b,ln⟩:=g.fn z j n (lookup_mem hl);rcases hV with⟨rfl,_,jW⟩|⟨l',_,_,_,_,o,_⟩
          . have e:dz = []:=by
              have:=rc.length;exact YL.mp (by simpa using this)
            subst e;have jW:X.mg z=some (.ref fa):=jW;rw[hm]at jW;cases jW;have q2:uE (kD X.kw n (m.T j)) [] E0 (iz X.kw (aE E (a::as))) σ H Q:=pL ln ⟨ι,σd,g0,d,g',G0,S0,k,pp⟩;refine OT (load ?_);refine aeZ (h₀:=X.base) I.ok.mod.kW kp (a_ ((gw hE (a::as)).un pos a8 s σ H _ I q2) λus s1 ⟨vs,H1,I1,r,q⟩=>⟨I1.mP,?_⟩) (bG h2.1) (gW h2.2);exact vg ok g.rm b .nil Aa I1 r q
          . have o:X.lx.lm z=some l':=o
            rw[g.lf z j n (lookup_mem hl)]at o;cases o
        . obtain⟨j,hl,rfl⟩:=nP.mp sM
          obtain⟨⟨l0,YX⟩,ok⟩:=g.ll z j (lookup_mem hl);obtain⟨⟨es,g1⟩,h4,h5⟩:=bind_some k;rcases hV with⟨_,o,_⟩|C
          . have o:X.lx.lm z=none:=o
            rw[YX]at o;cases o
          . have ub:∀{s':j0} {H':Hp} {σ':ko},jo X a8 σ' H' s'->∀{ι':Ix} {Ha:List V},B3 X.kw H' ι' z fa Ha->PySem.W.FnAt fa s'.heap:=fun {s' H' σ'} I' {ι' Ha} C'=>by
              obtain⟨_,_,_,_,_,_,hf,_⟩:=C';exact⟨_,_,_,_,(I'.aV fa _ hf.1).1⟩
            refine OT (load ?_);refine PySem.W.callWith_F (ub I C) (a_ ((gw hE (a::as)).un pos a8 s σ H (λvs H1=>∃ι1,Ext H ι H1 ι1/\az X.kw H1 ι1 g1/\ak X.kw H1 ι1 es vs) I ⟨ι,σd,g0,es,g1,G0,S0,h4,λH1 ι1 vs e1 G1 r1=>⟨ι1,e1,G1,r1⟩⟩) λus s1 aT=>?_) (bG h2.1) (gW h2.2);obtain⟨vs,H1,I1,r,ι1,e1,G1,r1⟩:=aT;have C1:B3 X.kw H1 ι1 z fa gF:=by obtain⟨l,c,fT,pm,cl,q1,q2,q3,q4,q5,q6⟩:=C;exact⟨l,c,fT,pm,cl,q1,q2.ext e1,q3.ext e1,q4,q5,q6.mono λc u z q=>q.ext e1⟩
            refine⟨ub I1 C1,agh (SR (ok.run X.A X.stack s1 H1 ι1 fa gF vs us Q dz es d g1 g' g.rm I1.EB C1 r G1 (ak.ext e1 _ rc) r1 h5 (pp.mono e1)) λrr s' k=>?_)⟩;cases rr with
            |error e=>exact k.elim
            |ok fl =>
              cases fl with
              |ret u=>exact I1.after k|next=>exact vT k|brk=>exact vT k|cont=>exact vT k
      . cases k
  . cases h
 t:=Hz
 tok:=by intro m c X E g hE x f h;cases h
noncomputable def dr (d:D)(g:G):D:=match d with
 |.ref n=>(match g[n]? with|some c=>.lst c|none=>.ref n)
 |d=>d
end
namespace PyProof.Rows
variable {X:Array Value}
def FP {out:Array Value}(h:A.get? f=some (Nf "list" Y.toArray i)):∃c,(agq A f Y out).get? f=some (Nf "list" out c):=by unfold agq;have a:f<A.objs.size:=mA h;have e:=get?_update_seq h (λ_=>#[]);have b:=mn (Nf "list" #[] 0) (mn (Nf "tuple" Y.toArray 0) e);exact⟨_,get?_update_seq b (λ_=>out)⟩
def Du {b:Addr}{o:Obj}(c:b≠f)(e:A.get? b=some o):(agq A f Y X).get? b=some o:=by unfold agq;rw[Yg _ _ c.symm];exact mn _ (mn _ ((Yg _ _ c.symm).trans e))
def Dv {ns:List Int}(B:ns.length<64)(z:∀(C:nc) (I:Value->j0->Prop) (H:List Value->j0->Prop),C.handled=O.handled->(∀(g:Heap) (p:Nat) (n:List Value),(∀b o,s.heap.get? b=some o->g.get? b=some o)->s.heap.objs.size<=g.objs.size->xo n ns->H n { s with heap:=g,toks:=p })->wpAny (model k u) C (collect Z) H I s)(h:∀(g:Heap) (p L c:Nat) (out:Array Value),(∀b o,s.heap.get? b=some o->g.get? b=some o)->s.heap.objs.size<=L->g.get? L=some (Nf "list" out c)->xo out.toList (N5 ns)->Q (.ref L) { s with heap:=g,toks:=p }):
  wpAny (model k u) O (call (.builtin "sorted") [Z]) Q E s:=by
 refine Calls.call_function_entry kind_sorted plain_sorted entry_sorted (args_sorted1 _) ?_;unfold sk.«sorted»;refine jg (m:=checkCount "sorted" 1 1 _) (kn ?_);refine jg (z _ _ _ rfl λa y n prog l j=>?_);have x:n.length<64:=by rw[j.length];exact B
 refine jg (wpAny_newList ?_ (by rw[Hy];lia));have f:(a.push (Nf "list" n.toArray 0)).get? a.objs.size=some (Nf "list" n.toArray 0):=n3 _ rfl;refine jg (sZ (xx slot_list_sort ⟨_,f,rfl⟩ entry_list_sort (list_sort_tree f j x λout v J R r=>⟨_,rfl,?_⟩) (args_list_sort _)));have e:=afI R r;subst e;obtain⟨c,z⟩:=FP (out:=out) f;refine kn ⟨_,rfl,h _ _ a.objs.size c out (λb o q=>?_) l z J⟩;have i:=prog b o q;exact Du (oZ (mA i)) (mn _ i)
end PyProof.Rows
section
open PyProof.Rows
variable {Z:Bool}{Y:Qt}{v:D}
def iK.at {g:Heap}(h:iK A f Z y)(k:∀o,A.get? f=some o->g.get? f=some o):iK g f Z y:=by obtain⟨b,c,P,l,e,r⟩:=h;exact⟨b,c,P,l,k _ e,r⟩
noncomputable def bU (val:Nat->Int):Nat->List Int
 | 0=>[]|i+1=>jV (bU val i) (val i)
theorem rg (val:Nat->Int){i:Nat}:∀{n:Nat},i<=n->(bU val i).length<=(bU val n).length
 | 0,h=>by
  have:i=0:=by lia
  subst this;exact lb _
 |n+1,h=>by
  by_cases e:i=n+1
  . subst e;exact lb _
  . refine n7 (rg val (n:=n) (by lia)) ?_
    show _<=(jV _ _).length;unfold jV;split<;>simp
def Dw {prog:p9}{R:Result->j0->Prop}{p:List Addr}{G:Array afx->Array afx->Prop}{P:Nat->Value->Prop}{St:Nat->j0->Prop}(W:WalksS prog u O.in1 f T p G o P St)(S:Addr)(B:S ∉ T)(n:Bool)(val:Nat->Int)(E:∀i v,P i v->∃t,v = .int (val i) t)(H:(bU val o).length<=4)(C:∀i,i<o->0<=val i/\val i<=7):
  ∀(k i:Nat) (s:j0),o-i=k->i<=o->St i s->iK s.heap S n (bU val i) ->
    (∀g,Moved (S::p) G s g->iK g.heap S n (bU val o)->R (.ok (.ret .none)) g) ->
    F2 (model prog u) O (.builtin "set.update.loop" ⟨[.ref S,.ref f],[]⟩) R s:=by
 have q:S ∉ p:=λh=>B (W.sub _ h);have r:∀b∈p,b∈S::p:=λb a=>nW _ a;intro k;induction k with
 |zero =>
  intro i s J y I j l;have Q:i=o:=by lia
  subst Q;refine Sl F.entry_set_update_loop ?_;rw[TZ F.plain_set_update_loop _];show wpAny _ O.in1 (Bv (.ref f) >>= _) _ _ s;refine jg (W.done s _ _ I λg hm=>?_);exact kn (l g (hm.mono r) (j.at λw e=>hm.heap S _ q e))
 |succ k U =>
  intro i s J y I j l;have c:i<o:=by lia
  refine Sl F.entry_set_update_loop ?_;rw[TZ F.plain_set_update_loop _];show wpAny _ O.in1 (Bv (.ref f) >>= _) _ _ s;refine jg (W.item i s _ _ c I λv g x Y hm=>?_);obtain⟨t,rfl⟩:=E i v x;have Z:iK g.heap S n (bU val i):=j.at λw e=>hm.heap S _ q e;show wpAny _ O.in1 (zk [VE (val i) t] (setAdd S (.int (val i) t)) >>= _) _ _ g;refine jg (sZ ?_);unfold setAdd;refine sZ ?_;refine jg ((GD prog u).pyHash (k:=val i) (intKind_is _ _ _ _) ?_);have hr:(bU val i).length<=3\/val i∈bU val i:=by
    by_cases hm:val i∈bU val i
    . exact .inr hm
    . have h1:=rg val (i:=i+1) c
      have h2:(bU val (i+1)).length=(bU val i).length+1:=by show(jV _ _).length=_;unfold jV;rw[if_neg hm];simp
      exact .inl (by lia)
  refine IZ (s:={ g with toks:=g.toks+1 }) Z hr (C i c) λb h' A z=>?_;refine kn ⟨YD F.plain_set_update_loop _,U (i+1) _ (by lia) c (W.frame _ g _ _ Y (af1 _) λb a w e=>?_) z λvh VF VG=>?_⟩
  . rw[A.2 b (λh:b=S=>B (by rw[<- h];exact a))];exact e
  . refine l vh (Moved.trans W.gtrans ((hm.mono r).then_heap (af1 _) λb w a e=>?_) VF) VG
    rw[A.2 b (λh:b=S=>a (by rw[h];exact qc))];exact e
def VI (e:A.get? f=some (emp Z)):iK A f Z []:=
 ⟨#[],0,tb [] Z,[],e,⟨rfl,rfl,rfl,ag0,by intro j b;simp[tb]at b,rfl,by decide⟩,rfl,ahX _,rfl,by intro j b;simp[tb]at b⟩
def VJ {prog:p9}(B:iK s.heap f (!u.params.followText "set-order") y):∃g n t E ok C,s.heap.get? f=some (iu g n t)/\Way prog u f g n t E ok/\(u.params.followText "set-order" = true\/t.plain=true)/\g.size<=18/\xo E C/\C.Perm y:=by
 obtain⟨g,n,t,l,q,T,x,z,o,_⟩:=B;have hf:t.fits g.size=true:=T.fits;have v:g.size<=18:=n7 T.n4 (by decide)
 have w:(g.toList.map (·.2)).Perm (l.map λp=>(nG p).2):=by
  have:=z.map (·.2)
  rwa[Dd]at this
 have J:∀l:List (Int×Nat),xo (l.map λp=>(nG p).2) (l.map (·.1)):=by
  intro l;induction l with
  |nil=>exact .nil|cons p l O=>exact .cons _ _ O
 cases hb:u.params.followText "set-order" with
 |true =>
  obtain⟨C,c,H⟩:=tJ (((tx (u.params.setOrder f n) g).map (·.2)).trans w) (J l)
  exact⟨g,n,t,_,_,C,q,U1 hf hb,.inl rfl,v,c,by rw[<- o];exact H⟩
 |false =>
  rw[hb]at x;obtain⟨C,c,H⟩:=tJ w (J l);have k:=T.ri;have bl:∀i j,t.place[i]? = some j->oW t.place (j+1)=i+1:=by
   intro i j e;obtain⟨a,e⟩:=acP.mp e;obtain⟨Q,I,r⟩:=lZ k (j+1);have c:¬oW t.place (j+1)<=i:=λh=>by have:=r i a h;lia
   have H:¬i+1<oW t.place (j+1):=λh=>by
    have b:i+1<t.place.size:=by lia
    have U:=I (i+1) b h;have Y:=qp k b (UY i);lia
   lia
  have R:oW t.place 0=0:=by
   obtain⟨Q,I,r⟩:=lZ k 0;refine afs λh=>?_;have b:0<t.place.size:=by lia
   have:=I 0 b (by lia);lia
  exact⟨g,n,t,_,_,C,q,U2 hf hb x T.pl T.sz R bl,.inr T.pl,v,c,by rw[<- o];exact H⟩
def xS {prog:p9}(hh:O.handled=none)(B:iK s.heap f (!u.params.followText "set-order") y)(h:∀(n:Heap) (p L c:Nat) (out:Array Value),(∀b o,s.heap.get? b=some o->n.get? b=some o)->s.heap.objs.size<=L->n.get? L=some (Nf "list" out c)->xo out.toList (N5 y)->Q (.ref L) { s with heap:=n,toks:=p }):
  wpAny (model prog u) O (call (.builtin "sorted") [.ref f]) Q E s:=by
 obtain⟨w,I,t,C,ok,g,q,W,hd,J,e,l⟩:=VJ (prog:=prog) B;have i:N5 g=N5 y:=by refine afI ((adT g).trans l) ?_;exact PySem.W.sortI_rises g
 have a:w.size<=lX:=by rw[Hy];lia
 refine Dv (ns:=g) (by rw[<- e.length,W.len];lia) (λR U z v k=>?_) (by rw[i];exact h);exact xN W (by rw[v];exact hh) q hd a λr H j x=>k r H _ x (Sx j) e
section
set_option maxHeartbeats 3200000 in
def baC {items:Array Value}{val:Nat->Int}(hh:O.handled=none)(I:s.heap.IsList f items)(C:∀(i:Nat) (v:Value),items[i]? = some v->∃t,v=VE (val i) t)(B:(bU val items.size).length<=4)(H:∀i,i<items.size->0<=val i/\val i<=7)(h:∀(n:Heap) (p:Nat),iK n s.heap.objs.size (!u.params.followText "set-order") (bU val items.size)->(∀b o,b<s.heap.objs.size->s.heap.get? b=some o->n.get? b=some o)->Q (.ref s.heap.objs.size) { s with heap:=n,toks:=p }):
  wpAny (model k u) O (call (.type "set") [.ref f]) Q E s:=by
 generalize Y:(!u.params.followText "set-order")=g at *;obtain⟨c,tl,ZV⟩:=F.called_set.mro;have ZO:=F.called_set.made;have Ad:=F.called_set.sub;refine agh (codeAny_of_tree ?_);show wpAny _ _ (callAny (.type "set") _) _ _ _;refine kn ⟨Code.quiet_builtin _ (by decide +kernel),Sl F.entry_type_call ?_⟩;rw[Around.under_plain (weight_type_call_type "set" [.ref f] []) rfl];have h1:=F.called_set.notType;have h2:=F.called_set.canCreate;have ab:=F.typeCall_set_1 (.ref f);repeat (any_goals (first|assumption|wp_step))
 refine SR (I0 (.ref f) (E:=E) (Q₁:=λobj q=>obj = .ref s.heap.objs.size/\q={ s with heap:=s.heap.push (emp g) }) ⟨rfl,by rw[Y]⟩) λr q w=>?_;cases r with
 |error e=>exact w
 |ok fl =>
  cases fl with
  |ret obj =>
   obtain⟨rfl,rfl⟩:=w;have l:(s.heap.push (emp g)).get? s.heap.objs.size=some (emp g):=n3 _ rfl;have Z:aiz { s with heap:=s.heap.push (emp g) } (.ref s.heap.objs.size) "set":=⟨_,l,rfl⟩
   have ae:=F.called_set.init.lookup;have ah:=F.called_set.init.bind (.ref s.heap.objs.size);repeat (any_goals (first|assumption|wp_step))
   refine SR (codeAny_call_builtin (R:=wants (λr j=>r = .none /\ ∃n p,j={ s with heap:=n,toks:=p }/\iK n s.heap.objs.size g (bU val items.size) /\
      (∀b o,b<s.heap.objs.size->s.heap.get? b=some o->n.get? b=some o)) E) F.called_set.init.plain F.entry_set_init (check_set_init_1 Z ?_)) λr₂ j a=>?_
   . obtain⟨ol,J,y,U,x⟩:=I
     obtain⟨ZW,Q3,ZP,Od⟩:=ol;simp only at y x;subst y;subst x;have VL:(s.heap.push (emp g)).get? f=some { cls:=.type "list",dict:=Q3,data:=.seq items U,slots:=Od }:=mn _ J;have ZX:=F.sub_list_set;have ZY:=F.sub_list_frozenset;have fO:(rn "list" == rn "dict")=false:=by decide
     have prog:(s.heap.push (emp g)).IsList f items:=⟨_,VL,rfl,U,rfl⟩
     unfold sk.«set.__init__» noKeywords ah3;generalize Y3:Pp=PI
     wp_walk
     subst Y3;refine ad5 prog ?_;refine jg (wpAny_runValue ?_);have z:f<s.heap.objs.size:=mA J;have Y4:O.in1.in1.in1.handled=none:=by simp[hh]
     have VM:f≠(s.heap.push (emp g)).objs.size:=by rw[GG];exact oZ (H9 z)
     have yf:s.heap.objs.size ∉ [(s.heap.push (emp g)).objs.size,f]:=by rw[GG];simp only[l2,ae2,A9,or_false,not_or];exact⟨oZ (UY _),YP z⟩
     refine Dw ((Walks.list Y4 _ f VM items).toS) s.heap.objs.size yf g val C B H (items.size-0) 0 _ (by lia) (rb _) ⟨⟨_,n3 _ rfl,rfl,rfl⟩,(prog.push _)⟩ ?hS0 ?hR
     case hS0=>exact VI (mn _ l)
     case hR =>
      intro s' hm yg;obtain⟨n,g',d',tG,BL⟩:=s';have eg:g'=s.gens:=hm.gens;have ed:d'=s.drawn:=hm.drawn;have eo:BL=s.os:=hm.os;subst eg;subst ed;subst eo;show wpAny _ _ _ _ _ _;refine kn ?_;show wpAny _ _ (ret xa) _ _ _;have ht:∀b o,b<s.heap.objs.size->s.heap.get? b=some o->n.get? b=some o:=λb o B e=>by
       have q1:b≠s.heap.objs.size:=oZ B;have q2:b≠(s.heap.push (emp g)).objs.size:=by rw[GG];exact oZ (H9 B)
       exact hm.heap b o (by simp only[l2,A9,or_false,not_or];exact⟨q1,q2⟩) (mn _ (mn _ e))
      exact kn ⟨rfl,n,tG,rfl,yg,ht⟩
   . cases r₂ with
     |error e=>exact a
     |ok fl₂ =>
      cases fl₂ with
      |ret r =>
       obtain⟨rfl,n,p,rfl,HE,vV⟩:=a;repeat (any_goals (first|assumption|wp_step))
       exact h _ _ HE vV
      |_=>exact a.elim
  |_=>exact w.elim
end
noncomputable def pT (a:FE):FE:=λh g=>(a h g).bind λr=>(iZ r.1 r.2).bind λn=>(fq n).bind λc=>if decide ((bU (λi=>c.getD i 0) c.length).length<=4 /\ ∀i,i<c.length->0<=c.getD i 0/\c.getD i 0<=7)=true then some (.lst ((N5 (bU (λi=>c.getD i 0) c.length)).map .int),r.2)else none
def Oe {P E B:Pos}(hh:X.A.handled=none)(T:X.mg "sorted" = none)(U:X.mg "set" = none)(S:DE X e C)(N:Gl X "sorted")(O:Gl X "set")(M:lY [Expr.Call (.Name "set" P) [e] [] B] X.env=(false,eval (.Call (.Name "set" P) [e] [] B) X.env)::lY [] X.env)(J:lY [e] X.env=(false,eval e X.env)::lY [] X.env):
   DE X (.Call (.Name "sorted" q) [.Call (.Name "set" P) [e] [] B] [] E) (pT C):=.of (by
 intro a8 s σ H Q I h;obtain⟨ι,σd,g,d,g',G0,S0,h,p⟩:=h;obtain⟨⟨d1,g1⟩,h1,h⟩:=bind_some h;obtain⟨xs,hx,h⟩:=bind_some h;obtain⟨n,hn,h⟩:=bind_some h;dsimp only at hx h;split at h
 . rename_i k
   cases h;rw[decide_eq_true_eq]at k;obtain⟨k,h7⟩:=k;have arg:=(kY S.un nA J) B a8 s σ H (λvs R=>∃j a Y,vs = [.ref a]/\dD X.kw R a Y/\ak X.kw R j xs Y/\Ext H ι R j/\az X.kw R j g') I (tD.bind G0 S0 h1 λR j v z f S1 r1=>by obtain⟨a,Y,rfl,hq,Z⟩:=l7 f r1 hx;exact⟨j,a,Y,rfl,hq,Z,z,f⟩)
   refine OT (ja I N T (u:=.builtin "sorted") rfl ?_ (by decide) (by decide));refine aeB ?_ M rfl;rw[M];show wpAny _ _ (spliced ((false,eval (.Call (.Name "set" P) [e] [] B) X.env)::su E (lY [] X.env))) _ _ s;refine aeY ?_;refine OT (ja I O U (u:=.type "set") rfl ?_ (by decide) (by decide));refine XP (a_ arg λkj s1 q1=>?_) J rfl;obtain⟨vs,R,x,rv,j,a,Y,rfl,hq,Z,z,f⟩:=q1;obtain⟨u,rfl,ru⟩:=rv.one;cases ru;obtain⟨l,eH,pl,hz⟩:=x.list hq;have hA:=nQ hn Z eH;have Y8:l.length=n.length:=by obtain⟨ps,rfl,rfl⟩:=mf hA;simp
   have y:l.toArray.size=n.length:=by rw[m3];exact Y8
   refine baC (items:=l.toArray) (val:=λi=>n.getD i 0) hh pl.isList (λi v hv=>ah_ (by simpa using hA:xo l.toArray.toList n) i v (by rw[adn];exact hv)) (by rw[y];exact k) (by rw[y];exact h7) λh2 TH tF k2=>?_;rw[y]at tF;refine agY ?_;have kk:∀b o,s1.heap.get? b=some o->h2.get? b=some o:=λb o K=>k2 b o (mA K) K;have I2:jo X a8 σ R { s1 with heap:=h2,toks:=TH }:=x.kept kk;refine xS (s:={ s1 with heap:=h2,toks:=TH }) hh tF λh3 Y9 L c out k3 hL hc hO=>?_;have Nw:s1.heap.objs.size<=L:=by obtain⟨_,_,_,_,ha,_⟩:=tF;exact n7 (Sx (mA ha)) hL
   have r:=x.aV.fresh Nw;have R5:((N5 (bU (λi=>n.getD i 0) n.length)).map V.int).length<=lX:=by rw[oY,(adT _).length_eq];exact n7 k (by decide)
   refine⟨.ref L,_,x.laid (t':=Y9) (λb o K=>k3 b o (kk b o K)) Nw (show eA X.prog X.w _ _ _ (.lst ((N5 (bU (λi=>n.getD i 0) n.length)).map V.int)) from⟨R5,out.toList,c,baP hO,by simpa[Nf]using hc⟩),rfl,p _ _ _ (z.trans (Ext.lay r)) (f.lay r) ?_⟩;simp only[Rel];exact⟨_,_,rfl,.inl ⟨.inl aQ,f.fresh r,f.ia r⟩,qJ _⟩
 . cases h)
@[simp] def yY:pT C h a=(C h a).bind λr=>(iZ r.1 r.2).bind λg=>(fq g).bind λc=>if decide ((bU (λi=>c.getD i 0) c.length).length<=4 /\ ∀i,i<c.length->0<=c.getD i 0/\c.getD i 0<=7)=true then some (.lst ((N5 (bU (λi=>c.getD i 0) c.length)).map .int),r.2)else none:=rfl
noncomputable def uZ (x:Expr):Option (Str×Expr):=match x with
 |.Call f c g _=>(match f with
  |.Name t _=>(match c with
   | []=>none|a::r=>if r.isEmpty&&g.isEmpty then some (t,a)else none)
  |_=>none)
 |_=>none
def wY (h:uZ e=some (x,J)):∃p pos,e = .Call (.Name x p) [J] [] pos:=by
 cases e with
 |Call f g i pos =>
  cases f with
  |Name n p =>
   cases g with
   |nil=>cases h
   |cons b r =>
    simp only[uZ]at h;split at h
    . rename_i c
      rw[la,aeo,aeo]at c;cases h;obtain⟨rfl,rfl⟩:=c;exact⟨_,_,rfl⟩
    . cases h
  |_=>cases h
 |_=>cases h
noncomputable def Dy (m:G0)(c:Cs)(t r:Str)(x:Expr):Option Expr:=(uZ x).bind λy=>(uZ y.2).bind λz=>if y.1 == t&&z.1 == r&&c.sc.names.lookup y.1 == some .globalImplicit&&c.sc.names.lookup z.1 == some .globalImplicit&&m.kH.elem y.1&&m.kH.elem z.1 && !(isStar z.2)then some z.2 else none
def Dz {m:G0}{c:Cs}{r:Str}(h:Dy m c x r e=some J):∃p g pos n,e = .Call (.Name x p) [.Call (.Name r g) [J] [] n] [] pos/\c.sc.names.lookup x=some .globalImplicit/\c.sc.names.lookup r=some .globalImplicit/\x∈m.kH/\r∈m.kH/\isStar J=false:=by
 obtain⟨⟨u,y⟩,l,i⟩:=bind_some h;obtain⟨⟨v,z⟩,f,b⟩:=bind_some i;dsimp only at b f;obtain⟨p,pos,rfl⟩:=wY l;obtain⟨g,n,rfl⟩:=wY f;split at b
 . rename_i t
   simp only[la,beq_iff_eq,vR]at t;obtain⟨⟨⟨⟨⟨⟨rfl,rfl⟩,k⟩,q⟩,s⟩,o⟩,j⟩:=t;cases b;exact⟨_,_,_,_,rfl,k,q,OZ.mp s,OZ.mp o,j⟩
 . cases b
noncomputable def Og:qY where
 e:=λm c E _ x=>(Dy m c "sorted" "set" x).map λa=>pT (E a)
 C3:=by intro m c X E g b u x f h;obtain⟨a,i,rfl⟩:=nP.mp h;obtain⟨p,r,pos,s,rfl,k,o,j,l,q⟩:=Dz i;exact Oe g.rm.hd (g.bl _ j) (g.bl _ l) (b a) (g.gl k) (g.gl o) rfl (bG q)
 t:=Hz
 tok:=by intro m c X E g b x f h;cases h
noncomputable def HG:Expr->Option (Const×Nat×Pos)
 |.Constant v k p=>some (v,k,p)|_=>none
def DB {v:Const}(h:HG e=some (v,i,q)):e = .Constant v i q:=by
 cases e with
 |Constant=>cases h;rfl|_=>exact nn h
noncomputable def Oh:Expr->Option (Qt×Expr×Scope×Pos)
 |.Lambda a b s p=>some (a,b,s,p)|_=>none
def Oi (h:Oh e=some (Y,J,M,q)):e = .Lambda Y J M q:=by
 cases e with
 |Lambda=>cases h;rfl|_=>exact nn h
noncomputable def Q4:Expr->Bool
 |e=>(Oh e).isSome
def wZ {b:Type}[DecidableEq b]{x y:Option b}(h:(x.isSome&&decide (x=y))=true):∃z,x=some z/\y=some z:=by simp only[la,decide_eq_true_eq]at h;obtain⟨z,a⟩:=adM.mp h.1;exact⟨z,a,h.2 ▸ a⟩
noncomputable def AY (f:Expr->Expr->Bool):List Expr->List Expr->Bool
 | [],bs=>bs.isEmpty|a::c,bs=>(bs.head?.map λb=>f a b&&AY f c bs.tail).getD false
def Kh {f:Expr->Expr->Bool}(h:∀a b,f a b=true->a=b):∀{c bs:List Expr},AY f c bs=true->c=bs:=fun {c}=>by
 induction c with
 |nil=>intro bs q;cases bs with
  |nil=>rfl|cons=>cases q
 |cons a c g=>intro bs q;cases bs with
  |nil=>cases q
  |cons b bs =>
   have q:(f a b&&AY f c bs)=true:=q;rw[la]at q;rw[h a b q.1,g q.2]
noncomputable def yZ:Nat->Expr->Expr->Bool
 | 0,_,_=>false
 |n+1,a,b=>((yP a).isSome&&decide (yP a=yP b))||((HG a).isSome&&decide (HG a=HG b)) ||
  ((Ho a).bind λx=>(Ho b).map λy=>yZ n x.1 y.1&&yZ n x.2.1 y.2.1&&decide (x.2.2=y.2.2)).getD false ||
  ((C0 a).bind λx=>(C0 b).map λy=>yZ n x.1 y.1&&AY (yZ n) x.2.1 y.2.1&&decide (x.2.2=y.2.2)).getD false
def baT {a b:Type}{x:Option a}{y:Option b}{f:a->b->Bool}(h:(x.bind λu=>y.map λv=>f u v).getD false=true):∃u v,x=some u/\y=some v/\f u v=true:=by
 cases x with
 |none=>cases h
 |some u=>cases y with
  |none=>cases h|some v=>exact⟨u,v,rfl,rfl,h⟩
def Oj:∀(n:Nat) (a b:Expr),yZ n a b=true->a=b:=λn=>by
 induction n with
 |zero=>intro a b h;cases h
 |succ n g =>
  intro a b h;rcases aeL.mp h with h|h
  . rcases aeL.mp h with h|h
    . rcases aeL.mp h with h|h
      . obtain⟨z,e,c⟩:=wZ h
        exact(qW e).trans (qW c).symm
      . obtain⟨z,e,c⟩:=wZ h
        exact(DB e).trans (DB c).symm
    . obtain⟨⟨l,k,o⟩,⟨f,i,j⟩,e,c,h⟩:=baT h
      simp only[la,decide_eq_true_eq]at h;rw[wL e,wL c,g _ _ h.1.1,g _ _ h.1.2,h.2]
  . obtain⟨⟨l,k,o⟩,⟨f,i,j⟩,e,c,h⟩:=baT h
    simp only[la,decide_eq_true_eq]at h;rw[qX e,qX c,g _ _ h.1.1,Kh g h.1.2,h.2]
noncomputable def HH:List Arg->Option (List (Str×Pos))
 | []=>some []|a::c=>if a.annotation.isSome then none else(HH c).map ((a.arg,a.pos):: ·)
def Ol:∀{g:List Arg} {l:List (Str×Pos)},HH g=some l->g=l.map λq=>⟨q.1,none,q.2⟩:=fun {g}=>by
 induction g with
 |nil=>intro l h;cases h;rfl
 |cons a g i =>
  intro l h;obtain⟨x,n,p⟩:=a;cases n with
  |some=>exact nn h
  |none =>
   obtain⟨c,b,rfl⟩:=nP.mp (show(HH g).map ((x,p):: ·)=some l from h)
   rw[i b];rfl
noncomputable def DC (a:Qt):Option (List (Str×Pos)):=if a.posonlyargs.isEmpty&&a.vararg.isNone&&a.kwonlyargs.isEmpty&&a.kw_defaults.isEmpty&&a.kwarg.isNone&&a.defaults.isEmpty then HH a.args else none
def DD {l:List (Str×Pos)}(h:DC Y=some l):Y=⟨[],l.map λq=>⟨q.1,none,q.2⟩,none,[],[],none,[]⟩:=by
 obtain⟨p,c,v,k,kd,kw,d⟩:=Y;unfold DC at h;split at h
 . rename_i z
   simp only[la,aeo,Option.isNone_iff_eq_none]at z;obtain⟨⟨⟨⟨⟨rfl,rfl⟩,rfl⟩,rfl⟩,rfl⟩,rfl⟩:=z;rw[<- Ol h]
 . cases h
noncomputable def Om (a b:Qt):Bool:=(DC a).isSome&&decide (DC a=DC b)
def Ki {b:Qt}(h:Om Y b=true):Y=b:=by obtain⟨z,c,e⟩:=wZ h;exact(DD c).trans (DD e).symm
noncomputable def AZ (N:List Str):List Str->Option (List Nat)
 | []=>some []|y::c=>(kh N y).bind λi=>(AZ N c).map (i :: ·)
theorem y4 {N:List Str}:∀{g:List Str} {is:List Nat},AZ N g=some is->CW N is g
 | [],is,h=>by cases h;exact⟨rfl,λj i y a _=>by simp at a⟩
 |y::g,is,h=>by
  unfold AZ at h;obtain⟨i,l,h⟩:=bind_some h;obtain⟨c,k,rfl⟩:=nP.mp h;obtain⟨o,e⟩:=y4 k;refine⟨by simp[o],λj f q a b=>?_⟩;cases j with
  |zero=>simp at a b;subst a b;exact f_ l|succ j=>exact e j f q (by simpa using a) (by simpa using b)
noncomputable def aL (E:Expr->FE)(q:Pos×Str×d9)(is:List Nat):List Expr->Option FA
 | []=>some ag
 |e::c=>match Oh e with
  |some (ar,bd,sc,p)=>if decide (p=q.1)&&Om ar q.2.2.ar&&yZ 9 bd q.2.2.bd&&decide (sc=q.2.2.sc)then(aL E q is c).map (aa (my q.2.1 is))else none|none=>if isStar e then none else(aL E q is c).map (aa (E e))
theorem A0 {X:Cx}{E:Expr->FE}(u:∀e,DE X e (E e)){p:Pos}{x:Str}{l:d9}(L:uS X p x l){is:List Nat}(v:CW X.N is l.fv):∀{g:List Expr} {f:FA},aL E (p,x,l) is g=some f->wD X g f
 | [],f,h=>by cases h;exact JX
 |e::g,f,h=>by
  rw[aL]at h;split at h
  . rename_i s bd sc q b
    obtain rfl:=Oi b;split at h
    . rename_i z
      simp only[la,decide_eq_true_eq]at z;obtain⟨⟨⟨i,c⟩,j⟩,o⟩:=z;obtain⟨k,a,rfl⟩:=nP.mp h;subst i;have:=Ki c;subst this;have:=Oj _ _ _ j;subst this;subst o;exact JY L v (A0 u L v a)
    . cases h
  . split at h
    . cases h
    . rename_i r
      obtain⟨k,a,rfl⟩:=nP.mp h;exact Fw (u _) (A0 u L v a) (bG (by simpa using r))
noncomputable def VO:qY where
 e:=λm c E _ x=>(cV x).bind λy=>if iO y.1||y.2.any isStar || !(y.2.any Q4) || !c.all || !(decide (c.sc.names.lookup y.1=some .globalImplicit))then none else c.lam.bind λq=>(m.fns.lookup y.1).bind λj=>(AZ c.N q.2.2.fv).bind λis=>(aL E q is y.2).map λfr=>ao (gI (m.T j.1)) fr
 C3:=by
  intro m c X E g s rf x f h;obtain⟨⟨y,as⟩,hv,k⟩:=bind_some h;obtain⟨p,pos,rfl⟩:=Hq hv;dsimp only at k;split at k
  . cases k
  . rename_i r
    simp only[uG,not_or,Pn,vR,afk,decide_eq_true_eq]at r;obtain⟨⟨⟨⟨h1,o⟩,z⟩,h4⟩,h5⟩:=r;obtain⟨⟨p',x',l⟩,hq,k1⟩:=bind_some k;obtain⟨⟨i,n⟩,hf,k2⟩:=bind_some k1;obtain⟨is,v,k3⟩:=bind_some k2;obtain⟨fr,j3,rfl⟩:=nP.mp k3;obtain⟨o1,o2,_⟩:=nZ h1;cases as with
    |nil=>cases z
    |cons a as =>
     rw[vy,El]at o;obtain⟨fa,fd,ps,ok,hm,kp,b,ln⟩:=g.fn y i n (lookup_mem hf);have u:CW X.N is l.fv:=by rw[g.hN];exact y4 v
     exact Fx ok g.rm hm kp b ln (g.al h4) (A0 s (g.lh _ _ _ hq) u j3) (g.gl h5) o1 (bG o.1) (gW o.2)
 t:=Hz
 tok:=by intro m c X E g s x f h;cases h
noncomputable def Oo:Nat->Expr->Option Expr
 |_,.Lambda a b s p=>some (.Lambda a b s p)|n+1,.Call _ c _ _=>c.findSome? (Oo n)|_,_=>none
noncomputable def y9:Nat->Stmt->Option Expr
 |n+1,.FunctionDef _ _ b _ _ _ _ _ _ _=>b.findSome? (y9 n)|n+1,.If _ b o _=>(b.findSome? (y9 n)).or (o.findSome? (y9 n))|n+1,.For _ _ b _ _=>b.findSome? (y9 n)|n,.Assign _ v _=>Oo n v|n,.Return (some v) _=>Oo n v|_,_=>none
noncomputable def A1 (nm:Str)(c:Stmt):d9:=match y9 9 c with
 |some (.Lambda a b s _)=>⟨a,b,s,nm ++ ".<locals>." ++ "<lambda>",mr s,a.args.map (·.arg)⟩|_=>⟨⟨[],[],none,[],[],none,[]⟩,.Constant .none 0 ⟨0,0,0,0⟩,⟨.function,[],false,false,[]⟩,"",[],[]⟩
noncomputable def Oq (a:Stmt):Pos:=match y9 9 a with
 |some (.Lambda _ _ _ p)=>p|_=>⟨0,0,0,0⟩
noncomputable def top (i:Nat):Stmt:=PySem.Challenge.pw_wholeglance_k26_whole_steps_at_most.main.body.getD i (.Pass ⟨0,0,0,0⟩)
noncomputable def md (nm:Str)(ps f:List Str)(i:Nat)(c:Bool:=false)(b:List Str:=[])(a:Bool:=false)(e:Str:=nm):cj:=⟨nm,ps,ps++f,top i,c,b,a,e,none,none⟩
noncomputable def mm (nm:Str)(ps c:List Str)(i:Nat)(x:Str)(b:Str:=nm)(a:List Str:=[]):cj:=⟨nm,ps,ps++c,top i,false,a,false,b,none,some (Oq (top i),x)⟩
noncomputable def ml (nm x:Str)(i:Nat):cj:=⟨"<lambda>",(A1 nm (top i)).fv++(A1 nm (top i)).ps,[],top i,false,[],false,x,some (A1 nm (top i)),none⟩
noncomputable def VP:=md "number_of" ["manner","name"] [] 2
noncomputable def VQ:=md "hands_of" ["manner"] [] 3
noncomputable def VR:=md "places_of" ["manner"] [] 4
noncomputable def VT:=md "collect_boxes" ["manner"] ["word"] 6
noncomputable def VU:=md "last_round" ["stride","span","moves","reads","moved_in"] ["seen","start","moved","hand","often"] 8 false ["seen","*seen"]
noncomputable def VV:=md "numbered_look" ["manner","reads"] ["hands","ending","used","last"] 13
noncomputable def VW:=md "moves_of" ["manner"] [] 14
noncomputable def VX:=md "renumbered" ["reads"] ["hands"] 15
noncomputable def VY:=md "others_of" ["manner","hand"] [] 20
noncomputable def VZ:=md "shaken_by" ["manner","hand"] [] 21
noncomputable def Q5:=md "shake_step" ["sources","targets","answer","reads"] ["place"] 22
noncomputable def Q6:=mm "shared_look" ["manner","hand","reads"] ["span","ending","used"] 25 "shared_look.lambda"
noncomputable def Q7:=mm "round_step" ["manner","hand","reads"] ["calls","signs","collected"] 26 "round_step_shared.lambda" "round_step_shared"
noncomputable def Q8:=md "second_collect" ["manner","hand","reads"] ["behind"] 28
noncomputable def Q9:=md "moved_in" ["manner","hand","reads"] ["shaken","opening","calls","moved","first","second","others","before","behind"] 29 false ["moved"] false "moved_in_shared"
noncomputable def Q_:=md "is_rewritten" ["manner","before","behind"] [] 31
noncomputable def Ra:=mm "signs_look" ["manner","hand","reads"] ["hands","span","ending","used","second"] 34 "signs_look.lambda"
noncomputable def Rb:=mm "round_step" ["manner","hand","reads"] ["others","sources","targets"] 35 "round_step_signs.lambda" "round_step_signs"
noncomputable def Rc:=md "moved_in" ["manner","hand","reads"] ["hands","first","second","moved","place","other","sign"] 37 false ["moved"] false "moved_in_signs"
noncomputable def Rf:=md "next_step" ["manner","hand","deed","ahead","reads"] [] 45
noncomputable def Rh:=md "look_step" ["manner","hand","reads"] ["word"] 46
noncomputable def Ri:=md "_law_hand" ["_law_script","_law_k"] ["_law_cell"] 50 true
noncomputable def Rj:=md "_law_take" ["_law_hand_here","_law_many"] ["_law_digit","_law_turn","_law_mixed","_law_other"] 51 false ["_law_hand_here"]
noncomputable def Rk:=md "_law_pick" ["_law_hand_here","_law_some"] [] 52
noncomputable def Rl:=md "_law_value" ["_law_hand_here"] ["_law_way"] 53
noncomputable def Rm:=md "_law_any_manner" ["_law_hand_here","_law_ways"] ["_law_word","_law_hands","_law_moves","_law_bits","_law_turn"] 54
noncomputable def Rn:=md "_law_places" ["_law_manner"] [] 55
noncomputable def Ro:=md "_law_state" ["_law_hand_here","_law_many"] [] 56
noncomputable def Rp:=md "_law_content" ["_law_hand_here","_law_manner","_law_box"] ["_law_hands","_law_places_here","_law_calls"] 57
noncomputable def Rq:=md "_law_boxes" ["_law_hand_here","_law_manner"] ["_law_hands","_law_names","_law_i"] 58 true
noncomputable def Rt:=md "_law_ahead" ["_law_hand_here","_law_many"] [] 59
noncomputable def Ru:=md "_law_most" ["_law_manner"] ["_law_hands","_law_moves","_law_rounds"] 60
noncomputable def Rv:=md "_law_changed" ["_law_hand_here","_law_manner","_law_box","_law_content_here"] ["_law_new","_law_number"] 61
noncomputable def Rw:=md "law" ["_law_script"] ["_law_n","_law_hand_here","_law_manner","_law_own","_law_places_here","_law_ahead_here","_law_boxes_here","_law_often","_law_reads","_law_told","_law_step","_law_found","_law_box"] 62 false ["_law_boxes_here"]
noncomputable def Rx:=ml "shared_look" "shared_look.lambda" 25
noncomputable def Ry:=ml "round_step" "round_step_shared.lambda" 26
noncomputable def Rz:=ml "signs_look" "signs_look.lambda" 34
noncomputable def RA:=ml "round_step" "round_step_signs.lambda" 35
noncomputable def ds:List cj:=[VP,VQ,VR,VT,VU,VV,VW,VX,VY,VZ,Q5,Q6,Q7,Q8,Q9,Q_,Ra,Rb,Rc,Rf,Rh,Ri,Rj,Rk,Rl,Rm,Rn,Ro,Rp,Rq,Rt,Ru,Rv,Rw,Rx,Ry,Rz,RA]
noncomputable def kU:List (Str×D):=[("once",.tup [.str "hands"]),("twice",.tup [.str "hands",.str "turn"]),("handed",.tup [.str "hands",.str "turn",.str "moves"]),("signs",.tup [.str "hands",.str "toggles",.str "shakes",.str "moves"]),("shared",.tup [.str "hands",.str "places",.str "toggles",.str "shakes",.str "moves"]),("tables",.tup [.str "hands",.str "boxes"])]
noncomputable def pk:Pk:=⟨[VA,QY,VB,VC,HF],[HF],[FL,QZ],[Ka,N2,Q0],[VO,Q1,Og,Ob]⟩
noncomputable def mo:Mo:=⟨ds,["len","min","int","tuple","sorted","dict","set","range","enumerate","zip"],[],[("NUMBERS",kU)],pk,1000000⟩
@[simp] def Xb:au (.tup r) c a=dP (.tup r) c a:=rfl
@[simp] def Xc:au (.lst r) c a=dP (.lst r) c a:=rfl
@[simp] def Xd:au (.ref i) c a=dP (.ref i) c a:=rfl
@[simp] def Xe:au (.bq i) c a=(a[i]?).bind λg=>if aO 6 c=true then(bz g c).map λc=>(c,a)else none:=rfl
@[simp] def V0:kS (.ref i) c v a=putD (.ref i) c v a:=rfl
@[simp] def V1:kS (.bq i) c v a=(a[i]?).bind λg=>if(aO 6 c&&pz g)=true then some (a.set i (bb g c v))else none:=rfl
@[simp] def Xf {c:FE}:gB C c v h a=(C h a).bind λr=>(c h r.2).bind λq=>(kS r.1 q.1 v q.2).map λg=>(h,g):=rfl
@[simp] def Kj {fr:FA}{c:D->Bool}{m:D->List D->G->Option (D×G)}:gC c m C fr h a=(C h a).bind λr=>if c r.1=true then(fr h r.2).bind λq=>m r.1 q.1 q.2 else none:=rfl
@[simp] def V2:qL h a=some (.bq a.length,a ++ [[]]):=rfl
@[simp] def Xg:i5 (.bq i)=true:=rfl
@[simp] def Xh:isRef (.ref i)=true:=rfl
@[simp] def ZQ:jy (.bq i) [c] a=(a[i]?).bind λg=>if aO 6 c=true then some ((bz g c).getD .ay,a)else none:=rfl
@[simp] def ZR:jy (.bq i) [c,v] a=(a[i]?).bind λg=>if aO 6 c=true then some ((bz g c).getD v,a)else none:=rfl
@[simp] def ZS:eZ (.ref i) [c] a=(a[i]?).bind λg=>if aC (g.length+1)=true then some (.ay,a.set i (g ++ [c]))else none:=rfl
@[simp] def Xi:aO i (.int I)=true:=by cases i<;>rfl
@[simp] def Xj:nR c (.bq i) a=(a[i]?).bind λg=>if aO 6 c=true then some (bz g c).isSome else none:=rfl
@[simp] def Xk:mi c v a=(nR c v a).map λb=>(.bl b,a):=rfl
@[simp] def A2:lA c v a=(nR c v a).map λb=>(.bl (!b),a):=rfl
end
section
variable {R:Str->Option Fn}{Z:List (List D)}{Y X U:Option D}{b T Q:List D}{f:Nat->Nat}{O:G}{M H:FS}{m q p:D}{J:D×G->Prop}{E B:Fn}{A:Prop}{y:Option Nat}{v:FT}{u:List Nat}{t:Int}{s:Sg}
def Ot {c:Type}{e:Type}{Q B C:c->e->Prop}(h:∃x y,Q x y/\B x y/\C x y)(k:∀x y,Q x y->B x y->C x y->A):A:=by obtain⟨x,y,g,b,a⟩:=h;exact k x y g b a
def Ou {e:Type}{f:Type}{Q B C D:e->f->Prop}(h:∃x y,Q x y/\B x y/\C x y/\D x y)(k:∀x y,Q x y->B x y->C x y->D x y->A):A:=by obtain⟨x,y,g,c,b,a⟩:=h;exact k x y g c b a
def Ov {f:Type}{i:Type}{Q B C D E:f->i->Prop}(h:∃x y,Q x y/\B x y/\C x y/\D x y/\E x y)(k:∀x y,Q x y->B x y->C x y->D x y->E x y->A):A:=by obtain⟨x,y,g,e,b,a,c⟩:=h;exact k x y g e b a c
noncomputable def u3:FS:=ax (aG b0 (gN 2)) (ax (bM (aB (aj oLt a5 (ao bw (aa a6 (ag))))) (aG (aj au a6 a5) (gN 2)) (aK)) (aH (aI mkRef (aa (aj bJ a7 (ao j7 (aa (aj Hb a7 (aj (bD jK (λi j=>i ^ j.toNat)) hW (fC (.int 18)))) (ag)))) (aa (aj aJ (aj aJ (aj (bD cI (· % ·)) a7 jd) (aj bJ (fC (.int 7919)) a5)) eL) (aa b0 (ag)))))))
noncomputable def u4:FS:=ax (bM (aB (aj nO (aj au a6 b0) b0)) (ax (aG (aj (bD cI (· % ·)) (aj au a6 b0) a5) (gN 2)) (ax (aG (aj (bD dS (· / ·)) (aj au a6 b0) a5) (gB a6 b0)) (aH a7))) (aK)) (ax (aG (aj aJ (aj au a6 b4) ba) (gB a6 b4)) (ax (aG (aj au a6 b4) (gN 3)) (ax (aG (aj (bD cI (· % ·)) (aj bJ (aj au a6 ba) (aj aJ (aj aJ (fC (.int 48271)) (aj bJ (aj bJ b4 bg) bg)) (aj bJ (fC (.int 65537)) bg))) (fC (.int 2305843009213693921))) (gN 4)) (ax (aG (aj aJ (aj aJ (aj (bD cI (· % ·)) cJ (fC (.int 1000003))) (aj bJ bg (fC (.int 99991)))) (fC (.int 11))) (gN 5)) (ax (aG (aj (bD cI (· % ·)) (aj bJ cJ dV) (fC (.int 2305843009213693907))) (gN 4)) (aH (aj (bD cI (· % ·)) (aj aJ (aj (bD dS (· / ·)) cJ (fC (.int 97))) (aj (bD dS (· / ·)) cJ (fC (.int 1000033)))) a5)))))))
noncomputable def A3 (take:Fn):FS:=aH (aj au a5 (ao take (aa a6 (aa (ao bw (aa a5 (ag))) (ag)))))
mutual
noncomputable def nf:D->Bool
 |.fn _ _=>false|.tup c=>TK c|_=>true
noncomputable def TK:List D->Bool
 | []=>true|d::ds=>nf d&&TK ds
end
def iP (b:-(2 ^ 64)<I)(a:I<2 ^ 64):cu I t=true:=by unfold cu;rw[uG];exact .inl (Us (by lia))
def iQ (b:-(2 ^ 64)<t)(a:t<2 ^ 64):cu I t=true:=by unfold cu;rw[uG];exact .inr (Us (by lia))
def iR (b:0<t)(a:t<1073741824):dS I t=true:=by unfold dS;rw[la];exact⟨Us (by lia),Us (by lia)⟩
def eO (a:0<t):cI I t=true:=Us (by lia)
noncomputable def Hd (g:G)(n:Nat)(B:Int):Prop:=∃a b c:Int,g[n]? = some [.int a,.int b,.int c]/\0<=a/\0<=b/\b<2 ^ 62/\0<=c/\c<=B
def Hd.mono {g n B B'}(h:Hd g n B)(o:B<=B'):Hd g n B':=by obtain⟨a,b,c,j,f,e,i,k,l⟩:=h;exact⟨a,b,c,j,f,e,i,k,by lia⟩
noncomputable def nv (n:Nat)(g c:G):Prop:=c.length=g.length /\ ∀j,j≠n->c[j]? = g[j]?
def nv.refl {n g}:nv n g g:=⟨rfl,λ_ _=>rfl⟩
theorem nv.trans {n g g1 g2}(a:nv n g g1)(b:nv n g1 g2):nv n g g2:=⟨b.1.trans a.1,λj h=>(b.2 j h).trans (a.2 j h)⟩
theorem nv.set:nv i a (a.set i r):=⟨by simp,λj h=>by rw[Oc (ta h)]⟩
def ub:cF [m,q,c] 0=some m:=rfl
def HD:cF [m,q,c] 1=some q:=rfl
def at2:cF [m,q,c] 2=some c:=rfl
def V3 (h:a[i]? = some [m,q,c]):putD (.ref i) (.int 0) p a=some (a.set i [p,q,c]):=by unfold putD;simp only[h];rfl
def put2 (h:a[i]? = some [m,q,c]):putD (.ref i) (.int 2) p a=some (a.set i [m,q,p]):=by unfold putD;simp only[h];rfl
noncomputable def dw (f:Fn):Prop:=∀(n:Nat) (m:Int) (g:G) (B:Int),B<2 ^ 40->0<m->m<1073741824->Hd g n B ->
 ∃r c,f [.ref n,.int m] g=some (.int r,c)/\0<=r/\r<m/\Hd c n (B+1)/\nv n g c
def Kk:dw (aq false 6 2 u4):=λn m g B U hm C h=>by
 obtain⟨a,b,c,e,i,k,o,E,uc⟩:=h;have j:n<g.length:=(l8.mp e).1;by_cases p:0<a
 . refine⟨a % m,g.set n [.int (a / m),.int b,.int c],aU (σ':=[some (.ref n),some (.int m),some (.int (a % m)),none,none,none]) rfl ?_ (by simp),aeH _ (by lia),adU _ hm,⟨a / m,b,c,by simp[j],Int.ediv_nonneg i (by lia),k,o,E,by lia⟩,nv.set⟩
   simp[u4,e,ub,p,eO hm,iR hm C,V3 e]
 . have l:(g.set n [.int a,.int b,.int (c+1)])[n]? = some [.int a,.int b,.int (c+1)]:=by simp[j]
   generalize f:b*(48271+2*(c+1)*(c+1)+65537*(c+1)) % 2305843009213693921=x;have Y:0<=x:=by rw[<- f];exact aeH _ (by decide)
   have r:x<2305843009213693921:=by rw[<- f];exact adU _ (by decide)
   generalize H:x*(x % 1000003+(c+1)*99991+11) % 2305843009213693907=y;refine⟨(y / 97+y / 1000033) % m,g.set n [.int a,.int b,.int (c+1)],aU (σ':=[some (.ref n),some (.int m),none,some (.int (c+1)),some (.int y),some (.int (x % 1000003+(c+1)*99991+11))]) rfl ?_ (by simp),aeH _ (by lia),adU _ hm,⟨a,b,c+1,l,i,k,o,by lia,by lia⟩,nv.set⟩;have m1:cu 2 (c+1)=true:=iP (by decide) (by decide);have I:cu (2*(c+1)) (c+1)=true:=iQ (by lia) (by lia);have q:cu 65537 (c+1)=true:=iP (by decide) (by decide);have m4:cu b (48271+2*(c+1)*(c+1)+65537*(c+1))=true:=iP (by lia) (by lia);have s:cu (c+1) 99991=true:=iQ (by decide) (by decide);have J:cu x (x % 1000003+(c+1)*99991+11)=true:=iP (by lia) (by lia);have z:cI (b*(48271+2*(c+1)*(c+1)+65537*(c+1))) 2305843009213693921=true:=eO (by decide);have O:cI x 1000003=true:=eO (by decide);have v:cI (x*(x % 1000003+(c+1)*99991+11)) 2305843009213693907=true:=eO (by decide);have Q:cI (y / 97+y / 1000033) m=true:=eO hm;have u:dS y 97=true:=iR (by decide) (by decide);have R:dS y 1000033=true:=iR (by decide) (by decide);simp[u4,e,ub,HD,at2,p,put2 e,l,m1,I,q,m4,s,J,z,O,v,Q,u,R,f,H]
def dw.w (h:dw l)(n:t<2 ^ 40)(j:0<I)(k:I<1073741824)(hh:Hd a i t)(q:∀r g,0<=r->r<I->Hd g i (t+1)->nv i a g->J (.int r,g)):k0 (l [.ref i,.int I] a) J:=by refine Ov (h i I a t n j k hh) λr g e c m b f=>?_;exact⟨_,e,q r g c m b f⟩
noncomputable def ig (f:Fn):Prop:=∀(n:Nat) (c:List D) (g:G) (B:Int),B<2 ^ 40->c ≠ []->c.length<1000->Hd g n B ->
 ∃d h,f [.ref n,.lst c] g=some (d,h)/\d∈c/\Hd h n (B+1)/\nv n g h
def Kl (u:dw l):ig (aq false 2 2 (A3 l)):=λn p g B k o q h=>by
 have s:0<p.length:=adH.mpr o;refine Ov (u n (p.length:Int) g B k (by lia) (by lia) h) λr j e t c i a=>?_;have b:r.toNat<p.length:=by lia
 have f:cF p r=some p[r.toNat]:=by unfold cF kZ;rw[if_pos t,if_pos c];exact lC b
 refine⟨p[r.toNat],j,aU (σ':=[some (.ref n),some (.lst p)]) rfl ?_ a.1,p6 b,i,a⟩;simp[A3,e,f]
def ig.w (h:ig l)(k:I<2 ^ 40)(j:r ≠ [])(f:r.length<1000)(hh:Hd a i I)(q:∀d g,d∈r->Hd g i (I+1)->nv i a g->J (d,g)):k0 (l [.ref i,.lst r] a) J:=by refine Ou (h i r a I k j f hh) λd g e b n c=>?_;exact⟨_,e,q d g b n c⟩
def TN:jK 10 18=true:=by decide
def TQ:jK 10 12=true:=by decide
noncomputable def DF (f:Fn):Prop:=∀(h:List Int) (i:Nat) (g:G),i<=100->∃c,f [.lst (h.map .int),.int i] g=some (.ref g.length,g ++ [c])/\Hd (g ++ [c]) g.length 0
def dQ {σ1:Sg}{g1:G}(c:M h a=some (.nx,σ1,g1)):ax M H h a=H σ1 g1:=by rw[oF,c];rfl
def lE (g:M h a=some (.rt c,s,O)):ax M H h a=some (.rt c,s,O):=by rw[oF,g];rfl
def ij {g1:G}{d:D}(c:C h a=some (d,g1)):aG C (gN i) h a=some (.nx,h.set i (some d),g1):=by rw[oG,c];rfl
def iS {g1:G}(c:v h a=some (true,g1)):bM v M H h a=M h g1:=by rw[vY,c];rfl
def bP {g1:G}(c:v h a=some (false,g1)):bM v M H h a=H h g1:=by rw[vY,c];rfl
def cw {g1:G}{d:D}(c:C h a=some (d,g1)):aH C h a=some (.rt d,h,g1):=by rw[yw,c];rfl
def aR (h:i<=1000):aC i=true:=by rw[Jx];exact decide_eq_true (by lia)
def Km:DF (aq true 3 2 u3):=λn i g q=>by
 have fin:∀cell:Int,∃p,(aH (aI mkRef (aa (aj bJ a7 (ao j7 (aa (aj Hb a7 (aj (bD jK (λi j=>i ^ j.toNat)) hW (fC (.int 18)))) (ag)))) (aa (aj aJ (aj aJ (aj (bD cI (· % ·)) a7 jd) (aj bJ (fC (.int 7919)) a5)) eL) (aa b0 (ag)))))) [some (.lst (n.map .int)),some (.int i),some (.int cell)] g=some (.rt (.ref g.length),[some (.lst (n.map .int)),some (.int i),some (.int cell)],g ++ [p])/\Hd (g ++ [p]) g.length 0:=by
   intro cell;have o:0<=cell % 2305843009213693951:=aeH _ (by decide);have l:cell % 2305843009213693951<2305843009213693951:=adU _ (by decide);have f:cI cell 2305843009213693951=true:=eO (by decide);have c:cu 7919 (i:Int)=true:=iP (by decide) (by decide);by_cases r:1000000000000000000<=cell
   . have a:cu cell 1=true:=iQ (by decide) (by decide)
     refine⟨[.int cell,.int (cell % 2305843009213693951+7919*i+3),.int 0],by simp[TN,r,a,c,f],?_⟩;exact⟨cell,cell % 2305843009213693951+7919*i+3,0,by simp,by lia,by lia,by lia,by lia,by lia⟩
   . have a:cu cell 0=true:=iQ (by decide) (by decide)
     refine⟨[.int 0,.int (cell % 2305843009213693951+7919*i+3),.int 0],by simp[TN,r,a,c,f],?_⟩;exact⟨0,cell % 2305843009213693951+7919*i+3,0,by simp,by lia,by lia,by lia,by lia,by lia⟩
 by_cases h:i<n.length
 . obtain⟨p,e,b⟩:=fin n[i]
   refine⟨p,yy (σ':=[some (.lst (n.map .int)),some (.int i),some (.int n[i])]) rfl ?_,b⟩;unfold u3;refine(dQ (ij (d:=.int 0) (g1:=g) rfl)).trans ?_;refine(dQ (σ1:=[some (.lst (n.map .int)),some (.int i),some (.int n[i])]) (g1:=g) ((iS (g1:=g) ?_).trans (ij ?_))).trans e
   . have:(i:Int)<(n.length:Int):=by lia
     simp[this]
   . have k:cF (n.map D.int) (i:Int)=some (.int n[i]):=gQ (by simp[h])
     simp[k]
 . obtain⟨p,e,b⟩:=fin 0
   refine⟨p,yy (σ':=[some (.lst (n.map .int)),some (.int i),some (.int 0)]) rfl ?_,b⟩;unfold u3;refine(dQ (ij (d:=.int 0) (g1:=g) rfl)).trans ?_;refine(dQ (σ1:=[some (.lst (n.map .int)),some (.int i),some (.int 0)]) (g1:=g) ((bP (g1:=g) ?_).trans rfl)).trans e;have:¬(i:Int)<(n.length:Int):=by lia
   simp[this]
noncomputable def fB (i:Int)(n:Nat):List D:=(nN n).map λ(k:Nat)=>D.int (i+k)
def dB {i n}:(fB i n).length=n:=by simp[fB]
def mG {fr:FA}{σ:Sg}{g:G}{Q:List D×G->Prop}(h:k0 (fr σ g) λr=>∃j:Int,r.1 = [.int j] /\ -1000000<=j/\j<=1000000/\Q (fB 0 j.toNat,r.2)):k0 (iA fr σ g) Q:=by obtain⟨⟨ds,c⟩,e,j,rfl,b,a,q⟩:=h;refine⟨_,?_,q⟩;unfold iA;rw[e];simp only[k9];rw[if_pos (fQ.of b a)];rfl
def Kn (h:(fB I i)[j]? = some c):j<i/\c = .int (I+j):=by
 unfold fB at h;rw[m2]at h;cases g:(nN i)[j]? with
 |none=>rw[g]at h;cases h
 |some x =>
  rw[g]at h;have a:=(l8.mp g).1;have:x=j:=by rw[Xw (by simpa using a)]at g;cases g;rfl
  subst this;cases h;exact⟨by simpa using a,rfl⟩
def iU (h:(fB 0 i)[j]? = some c):j<i/\c = .int j:=by obtain⟨a,rfl⟩:=Kn h;exact⟨a,by simp⟩
def Ow {mk:List D->G->Option (D×G)}{i:FI}{t:FG}(fr:k0 (i h a) λr=>aC r.1.length=true/\k0 (cQ t v C r.1 (cq z h) r.2) λq=>k0 (mk q.1 q.2) J):k0 (bA mk i z t v C h a) J:=by obtain⟨⟨ds,f⟩,c,b,q⟩:=fr;rw[fW,c];simp only[k9];rw[if_pos b,S3];exact q
theorem gX {n:Nat}:∀{c:List D},(∀x∈c,bR n x=true)->aP n c=true
 | [],_=>rfl|x::c,h=>by simp only[aP,la];exact⟨h x (by simp),gX λy a=>h y (by simp[a])⟩
theorem w4 {n:Nat}:∀{g:List D},aP n g=true->∀x∈g,bR n x=true
 | [],_,x,c=>by simp at c
 |y::g,h,x,c=>by
  simp only[aP,la]at h;rcases l2.mp c with rfl|c
  . exact h.1
  . exact w4 h.2 x c
def lF {n:Nat}(h:r[n]? = some c):cF r (n:Int)=some c:=by
 have g:=(l8.mp h).1;have b:(0:Int)<=n:=by lia
 have a:(n:Int)<(r.length:Int):=by lia
 unfold cF kZ;rw[if_pos b,if_pos a];simpa using h
def RB:cF [c,m] 0=some c:=rfl
def A4:cF [c,m] 1=some m:=rfl
theorem baE:∀c:List Int,fq (c.map .int)=some c
 | []=>rfl|v::c=>by simp[fq,baE c]
noncomputable def rh (pick:Fn):FS:=aH (ao fL (aa (bA bH (iA (aa a5 ag)) [none,none,some 0] (gN 1) b9 (ao pick (aa a7 (aa (aI fP (aa b0 (aa ba (aa b4 (aa eL (aa (fC (.int 8)) (aa (fC (.int 9)) (aa (fC (.int 11)) ag)))))))) ag)))) ag))
noncomputable def u5 (take pick:Fn):FS:=ax (aG (ao take (aa a6 (aa (fC (.int 8)) ag))) (gN 1)) (ax (bM (aB (aj oEq a5 b0)) (aH (aI aA (aa (ao take (aa a6 (aa (fC (.int 5)) ag))) (aa (aI aA (aa (aj (bD cA (· - ·)) (ao take (aa a6 (aa eL ag))) ba) (aa (aI aA ag) ag))) ag)))) aK) (ax (bM (aB (aj oEq a5 ba)) (aH (ao pick (aa a6 (aa (aI fP (aa (pf kQ ba) (aa (aj (bD cA (· - ·)) (aj (bD jK (λi j=>i ^ j.toNat)) hW (fC (.int 12))) ba) (aa (aj (bD cA (· - ·)) ba (aj (bD jK (λi j=>i ^ j.toNat)) hW (fC (.int 12)))) (aa (aI aA ag) (aa (aI aA (aa b0 ag)) ag)))))) ag)))) aK) (aH (ao take (aa a6 (aa (fC (.int 7)) ag))))))
noncomputable def gM:List D->Bool
 |k::_::r=>aO 6 k&&gM r| []=>true|_=>false
theorem eJ {k v:D}(c:aO 6 k=true):∀{g:List D},gM g=true->bz (bb g k v) k=some v
 | [],_=>by simp only[bb,bz];rw[if_pos ((fX k k c c).mpr rfl)]| [_],h=>by cases h
 |a::b::r,h=>by
  simp only[gM,la]at h;simp only[bb];by_cases e:bB a k=true
  . rw[if_pos e];simp only[bz];rw[if_pos e]
  . rw[if_neg e];simp only[bz];rw[if_neg e];exact eJ c h.2
theorem iV {k i v:D}(j:aO 6 k=true)(l:aO 6 i=true)(n:k≠i):∀{g:List D},gM g=true->bz (bb g k v) i=bz g i
 | [],_=>by simp only[bb,bz];rw[if_neg λz=>n ((fX k i j l).mp z)]| [_],h=>by cases h
 |a::b::r,h=>by
  simp only[gM,la]at h;simp only[bb];by_cases e:bB a k=true
  . have f:=(fX a k h.1 j).mp e
    subst f;have c:¬bB a i=true:=λz=>n ((fX a i j l).mp z);rw[if_pos e];simp only[bz];rw[if_neg c,if_neg c]
  . rw[if_neg e]
    simp only[bz];rw[iV j l n h.2]
theorem mH {k v:D}(c:aO 6 k=true):∀{g:List D},gM g=true->gM (bb g k v)=true
 | [],_=>by simp[bb,gM,c]| [_],h=>by cases h
 |a::b::r,h=>by
  simp only[gM,la]at h;simp only[bb];split
  . simp[gM,h]
  . simp[gM,h,mH c h.2]
theorem mI {n:Nat}{k v:D}(e:bR n k=true)(c:bR n v=true):∀{g:List D},aP n g=true->aP n (bb g k v)=true
 | [],_=>by simp[bb,aP,e,c]| [_],_=>by simp[bb,aP,e,c]
 |a::b::r,h=>by
  simp only[aP,la]at h;simp only[bb];split
  . simp[aP,h,c]
  . simp[aP,h,mI e c h.2.2]
mutual
theorem dC {n:Nat}:∀d:D,flat d=true->bR n d=true
 |.ay,_=>rfl|.bl _,_=>rfl|.int _,_=>rfl|.str _,_=>rfl|.tup c,h=>by simp only[bR];exact dR c (by simpa[flat]using h)|.lst c,h=>by simp only[bR];exact dR c (by simpa[flat]using h)|.eI,h=>by simp[flat]at h|.ref _,h=>by simp[flat]at h|.bq _,h=>by simp[flat]at h|.fn _ _,h=>by simp[flat]at h
theorem dR {n:Nat}:∀ds:List D,bC ds=true->aP n ds=true
 | [],_=>rfl|d::ds,h=>by simp only[bC,la]at h;simp only[aP,dC d h.1,dR ds h.2,aeg]
end
noncomputable def own (nm:Str)(j:Nat):D:=.tup [.str nm,.int j]
noncomputable def pB (nm:Str)(n:Nat):List D:=(nN n).map λj=>.tup [.str "read",own nm j]
def sv {nm n}:(pB nm n).length=n:=by simp[pB]
noncomputable def Bd (g:G):Prop:=∀(i:Nat) c,g[i]? = some c->aP g.length c=true
def pU (h:i<=o):∀{g:List D},aP i g=true->aP o g=true:=by
 have main:∀d:D,bR i d=true->bR o d=true:=λd=>by
  refine D.rec (motive_1:=λd=>bR i d=true->bR o d=true) (motive_2:=λds=>aP i ds=true->aP o ds=true) ?_ ?_ ?_ ?_ ?_ ?_ ?_ ?_ ?_ ?_ ?_ ?_ d
  . intro h;rfl
  . intro b h;rfl
  . intro b h;rfl
  . intro b h;rfl
  . intro g n h;simpa[bR]using n (by simpa[bR]using h)
  . intro g n h;simpa[bR]using n (by simpa[bR]using h)
  . intro h;rfl
  . intro k h;simp only[bR,decide_eq_true_eq]at h ⊢;lia
  . intro k h;simp only[bR,decide_eq_true_eq]at h ⊢;lia
  . intro x g n h;simpa[bR]using n (by simpa[bR]using h)
  . intro h;rfl
  . intro x g e a h
    simp only[aP,la]at h ⊢;exact⟨e h.1,a h.2⟩
 intro g h;exact gX λx c=>main x (w4 h x c)
def Y_:gT 2 (bV (gN i) (bV (gN j) gp)) (.tup [c,m]) h a=some ((h.set i (some c)).set j (some m),a):=by simp
noncomputable def vG (d:D):Prop:=flat d=true/\dep d<=3
noncomputable def lG (f:Fn):Prop:=∀n g B,B+3<2 ^ 40->Hd g n B->∃d c,f [.ref n] g=some (d,c)/\vG d/\Hd c n (B+3)/\nv n g c
def Ko (A:dw l)(C:ig E):lG (aq false 2 1 (u5 l E)):=λn g B y hd=>by
 have J:k0 (aq false 2 1 (u5 l E) [.ref n] g) λq=>vG q.1/\Hd q.2 n (B+3)/\nv n g q.2:=by
  refine OX rfl ?_;simp[u5];refine A.w (by lia) (by decide) (by decide) hd λr R h c f I=>?_;simp;by_cases O:r=0
  . subst O
    simp;refine A.w (by lia) (by decide) (by decide) f λo Q h c p H=>?_;simp;refine A.w (by lia) (by decide) (by decide) p λz U h c k i=>?_;have take:aC 2=true:=rfl;have b:aC 0=true:=rfl;simp[take,b];exact⟨(I.trans (H.trans i)).1,⟨by simp[flat,bC],by simp[dep,dA]⟩,k.mono (by lia),I.trans (H.trans i)⟩
  . by_cases a:r=1
    . subst a
      have s:aC 5=true:=rfl;have b:aC 0=true:=rfl;have x:aC 1=true:=rfl;simp[s,b,x,TQ];refine C.w (by lia) (by simp) (by simp) f λd Q hm p H=>?_;refine⟨(I.trans H).1,?_,p.mono (by lia),I.trans H⟩;simp only[l2,A9,or_false]at hm;rcases hm with rfl|rfl|rfl|rfl|rfl<;>exact⟨by simp[flat,bC],by simp[dep,dA]⟩
    . simp[O,a]
      refine A.w (by lia) (by decide) (by decide) f λo Q h c p H=>?_;exact⟨(I.trans H).1,⟨by simp[flat],by simp[dep]⟩,p.mono (by lia),I.trans H⟩
 obtain⟨⟨d,u⟩,e,a,v,j⟩:=J;exact⟨d,u,e,a,v,j⟩
noncomputable def sx (f:Fn):Prop:=∀n (k:Nat) g (B:Int),k<=20->B+k<2 ^ 40->Hd g n B->∃(is:List Nat) (c:G),f [.ref n,.int k] g=some (.tup (is.map λ(i:Nat)=>D.int i),c)/\is.length=k/\Hd c n (B+k)/\nv n g c
def FQ (A:ig l):sx (aq false 2 2 (rh l)):=λn k g B y x hd=>by
 have C:k0 (aq false 2 2 (rh l) [.ref n,.int k] g) λq=>∃is:List Nat,q.1 = .tup (is.map λ(i:Nat)=>D.int i)/\is.length=k/\Hd q.2 n (B+k)/\nv n g q.2:=by
  refine OX rfl ?_;simp[rh];refine mG ?_;have pick:aC k=true:=aR (by lia);simp[dB,pick];refine⟨by lia,?_⟩;refine iM (λj p E b=>(∃h,E = [none,h,some (.ref n)])/\(∃is:List Nat,p=is.map (λ(i:Nat)=>D.int i)/\is.length=j)/\Hd b n (B+j)/\nv n g b) _ 0 _ _ [] ⟨⟨none,rfl⟩,⟨[],by simp,rfl⟩,by simpa using hd,.refl⟩ ?_ ?_
  . rintro j d p E b v ⟨⟨h,rfl⟩,⟨is,rfl,a⟩,f,c⟩
    obtain⟨z,rfl⟩:=iU v;have u:aC 7=true:=rfl;simp[u];refine A.w (by lia) (by simp) (by simp) f λd J hm H I=>?_;have:∃k:Nat,d = .int k:=by
     simp only[l2,A9,or_false]at hm;rcases hm with rfl|rfl|rfl|rfl|rfl|rfl|rfl
     . exact⟨0,rfl⟩
     . exact⟨1,rfl⟩
     . exact⟨2,rfl⟩
     . exact⟨3,rfl⟩
     . exact⟨8,rfl⟩
     . exact⟨9,rfl⟩
     . exact⟨11,rfl⟩
    obtain⟨i,rfl⟩:=this;simp at a;exact⟨⟨is ++ [i],by simp,by simp[a]⟩,H.mono (by lia),c.trans I⟩
  . rintro O E b ⟨_,⟨is,e,a⟩,f,c⟩
    simp[dB]at e a f;subst e;simp[bH,a,pick];exact⟨c.1,is,rfl,a,f,c⟩
 obtain⟨⟨d,b⟩,e,is,rfl,r,s,o⟩:=C;exact⟨is,b,e,r,s,o⟩
def baW:bB (.int I) (.int t)=decide (I=t):=by simp only[bB];rw[Bool.eq_iff_iff];simp
def Bd.app {ys:G}(h:Bd a)(g:∀y∈ys,aP (a.length+ys.length) y=true):Bd (a++ys):=λi c e=>by
 rw[lN];by_cases n:i<a.length
 . rw[m5 n]at e
   exact pU (TX _ _) (h i c e)
 . rw[th (by lia)]at e
   exact g c (qt e)
theorem Bd.set (h:Bd a)(b:aP a.length r=true):Bd (a.set i r):=λn p e=>by
 rw[afP];by_cases c:n=i
 . subst c
   have g:n<a.length:=by have:=(l8.mp e).1;simpa using this
   rw[ua g]at e;cases e;exact b
 . rw[Oc (ta c)]at e
   exact h n p e
def DH (g:Hd a i I)(e:a[i]? = some r):aP o r=true:=by obtain⟨h,b,c,f,_⟩:=g;rw[f]at e;cases e;simp[aP,bR]
def Bd.fr (b:Bd a)(f:nv i a O)(g:Hd O i I):Bd O:=λc n e=>by
 by_cases h:c=i
 . subst h;exact DH g e
 . rw[f.1];rw[f.2 c h]at e;exact b c n e
def Bd.hand (b:Bd a)(c:Hd (a ++ [r]) a.length I):Bd (a ++ [r]):=b.app λy g=>by simp at g;subst g;exact DH c (by simp)
def Hd.app {ys:G}(h:Hd a i I):Hd (a++ys) i I:=by obtain⟨g,b,c,e,f⟩:=h;exact⟨g,b,c,by rw[m5 (l8.mp e).1];exact e,f⟩
noncomputable def og:FS:=ax (aG (aj (bD dS (· / ·)) (ao bw (aa a6 ag)) b4) (gN 1)) (aH (bA bH (iA (aa a5 ag)) [none,none,some 1,some 0] (gN 1) (aB (aj cY (aj au (aj au bg a5) ba) (aj au (aj au bg (aj aJ a7 a5)) ba))) a5))
noncomputable def jt:FT:=aB (aj oLe (aj aJ d4 a5) (ao bw (aa bg ag)))
noncomputable def FR (R:Str->Option Fn):FS:=pQ 6 (λi j=>i+j) a6
noncomputable def pV (R:Str->Option Fn):FS:=ax (bM (aB (aj nO (ao bw (aa ew ag)) b0)) (aH (aI aA (aa d4 (aa (ao ((jL kR ic)) (aa ew ag)) ag)))) aK) (FR R)
noncomputable def Ox (R:Str->Option Fn):FS:=ax (aG (bA bH (cy ee) [none,none,some 2,some 5] (gN 1) (aB (aj oEq (aj au bg a5) a7)) a5) (gN 9)) (pV R)
noncomputable def Oy (R:Str->Option Fn):FS:=ax (fK (cy ee) (gN 8) (aG (aj aJ (gC i5 jy dV (aa eu (aa b0 ag))) ba) (gB dV eu))) (Ox R)
noncomputable def FU (R:Str->Option Fn):FS:=ax (bM (aB (aj oEq (ao bw (aa ee ag)) b0)) (aH (aI aA (aa d4 (aa er ag)))) aK) (Oy R)
noncomputable def fN (R:Str->Option Fn):FS:=ax (aG (e_ R 4 (aa (cU bg (aY d4) (aY (aj aJ d4 a5))) ag)) (gN 7)) (FU R)
noncomputable def cC (R:Str->Option Fn):FS:=ax (aG qL (gN 5)) (ax (aG b0 (gN 6)) (ax (B_ 1000000 (aB (aj oLe (aj aJ d4 a5) (ao bw (aa bg ag)))) (ax (aG (e_ R 4 (aa (cU bg (aY d4) (aY (aj aJ d4 a5))) ag)) (gN 7)) (ax (bM (aB (aj oEq (ao bw (aa ee ag)) b0)) (aH (aI aA (aa d4 (aa er ag)))) aK) (ax (fK (cy ee) (gN 8) (aG (aj aJ (gC i5 jy dV (aa eu (aa b0 ag))) ba) (gB dV eu))) (ax (aG (bA bH (cy ee) [none,none,some 2,some 5] (gN 1) (aB (aj oEq (aj au bg a5) a7)) a5) (gN 9)) (ax (bM (aB (aj nO (ao bw (aa ew ag)) b0)) (aH (aI aA (aa d4 (aa (ao ((jL kR ic)) (aa ew ag)) ag)))) aK) (pQ 6 (λi j=>i+j) a6))))))) (aH er)))
noncomputable def num:D->Int
 |.tup (_ :: .int m::_)=>m|_=>0
noncomputable def nT (c:D):Prop:=∃v m r,c = .tup (v :: .int m::r)
noncomputable def DJ (a b:List D)(j:Nat):Bool:=!(num (a.getD j .ay)== num (b.getD j .ay))
noncomputable def bK (a b:List D):List Nat:=(nN a.length).filter (DJ a b)
noncomputable def dN (l:List Nat):List D:=l.map λ(j:Nat)=>D.int j
def w5 (h:j∈bK r b):j<r.length:=by simp only[bK,ro,Cn]at h;exact h.1
def Oz:(bK r b).Nodup:=aem.sublist Nx
def bW {l}:(dN l).length=l.length:=by simp[dN]
def V4:cF (c::m::r) 1=some m:=lF (n:=1) rfl
noncomputable def mJ (f:Fn):Prop:=∀(a b:List D) (g:G),a.length=b.length->a.length<=20->(∀c∈a,nT c)->(∀c∈b,nT c)->f [.tup (a++b)] g=some (.lst (dN (bK a b)),g)
def w6:mJ (aq false 2 1 og):=λa b g O Q z hb=>by
 have p:k0 (aq false 2 1 og [.tup (a++b)] g) λq=>q=(.lst (dN (bK a b)),g):=by
  refine OX rfl ?_;have E:(((a.length:Int)+(b.length:Int)) / 2)=(a.length:Int):=by lia
  have H:aC a.length=true:=aR (by lia);have hd:∀i,dS i 2=true:=λi=>iR (by decide) (by decide);simp[og,hd,E];refine mG ?_;simp[dB,H];refine⟨by lia,?_⟩;refine iM (λi n B h=>(∃l,B = [none,l,some (.int a.length),some (.tup (a++b))])/\n=dN ((nN i).filter (DJ a b))/\h=g) _ 0 _ _ [] ⟨⟨none,rfl⟩,rfl,rfl⟩ ?_ ?_
  . rintro i d n B h y ⟨⟨l,rfl⟩,rfl,rfl⟩
    obtain⟨c,rfl⟩:=iU y;simp only[Ds];have o:(a++b)[i]? = some a[i]:=by rw[m5 c];exact lC c
    have u:(a++b)[a.length+i]? = some b[i]:=by rw[th (by lia)];simp[lC (show i<b.length by lia)]
    obtain⟨v,m,r,s⟩:=z a[i] (p6 c);obtain⟨R,C,U,k⟩:=hb b[i] (p6 (by lia));rw[s]at o;rw[k]at u;have x:=lF o;have j:=lF u;simp only[Int.natCast_add]at j;have I:num (a.getD i .ay)=m:=by rw[nK,lC c,s];rfl
    have J:num (b.getD i .ay)=C:=by rw[nK,lC (show i<b.length by lia),k];rfl
    have f:DJ a b i = !(m == C):=by unfold DJ;rw[I,J]
    simp[x,j,V4,flat,dep,baW,List.range_succ,ae_,dN,f];by_cases hm:m=C
    . simp[hm,f]
    . simp[hm,f]
  . rintro Y B h ⟨_,e,rfl⟩
    simp[dB]at e;subst e;simp[bK]
 obtain⟨q,e,rfl⟩:=p;exact e
noncomputable def vz (c:List (List D)):Nat->Nat->Nat
 | 0,_=>0|k+1,j=>vz c k j+if j∈bK (c.getD k []) (c.getD (k+1) [])then 1 else 0
structure SD (sd:List D)(f:Nat->Nat)(N:Nat):Prop where
 ka:gM sd=true
 at_:∀j:Nat,bz sd (.int j)=if f j=0 then none else some (.int (f j))
 len:sd.length<=N
 nr:aP 0 sd=true
def SD.put {l f N}(h:SD l f N)(j:Nat):SD (bb l (.int j) (.int (f j+1:Nat))) (λi=>f i+if i=j then 1 else 0) (N+2):=by
 refine⟨mH rfl h.ka,λi=>?_,?_,mI rfl rfl h.nr⟩
 . by_cases e:i=j
   . subst e
     rw[eJ rfl h.ka];simp
   . rw[iV rfl rfl (λz=>e (by injection z with z;lia)) h.ka,h.at_]
     simp[e]
 . have:∀(g:List D) k v,(bb g k v).length<=g.length+2:=λg k v=>by
     have:∀(n:Nat) (g:List D),g.length<=n->(bb g k v).length<=g.length+2:=λn=>by
      induction n with
      |zero=>intro g c;match g,c with| [],_=>simp[bb]
      |succ n p =>
       intro g c;match g,c with
       | [],_=>simp[bb]| [a],_=>simp[bb]
       |a::b::r,c =>
        simp only[bb];split
        . simp
        . have:=p r (by simp at c;lia)
          simp;lia
     exact this _ g (lb _)
   have:=this l (.int j) (.int (f j+1:Nat));have:=h.len;lia
noncomputable def dk (n:Nat)(c:D)(g:List D)(nm:Str)(q:Nat)(p8:Nat)(h i p:Option D):Sg:=[some (.int n),some (.int (2*n:Nat)),some c,some (.tup g),some (.fn nm []),some (.bq q),some (.int p8),h,i,p]
noncomputable def c9 (f:Nat->Nat)(l:List Nat):Nat->Nat:=λi=>f i+if i∈l then 1 else 0
noncomputable def d6 (f:Nat->Nat)(c:D)(l:List Nat):List Nat:=l.filter λj=>bB (.int (f j:Nat)) c
def lH {rd:List D}{s m:Nat}(h:s+m<=rd.length):pe rd (some (s:Int)) (some ((s+m:Nat):Int))=(rd.drop s).take m:=by unfold pe;rw[iL (by lia),qH h,show s+m-s=m by lia]
def y_ {σ:Sg}{g:G}{l:List Nat}(y:g[i]? = some r)(S:SD r f o)(nd:l.Nodup)(A:o+2*l.length<=900)(B:σ[5]? = some (some (.bq i)))(x:σ.length=10):
  ∃n p,forL (gN 8) (aG (aj aJ (gC i5 jy dV (aa eu (aa b0 ag))) ba) (gB dV eu)) (dN l) σ g=some (.nx,σ.set 8 p,g.set i n)/\SD n (c9 f l) (o+2*l.length)/\(l = []->σ.set 8 p=σ):=by
 induction l generalizing σ g r f o with
 |nil =>
  refine⟨r,σ[8]'(by lia),?_,⟨S.ka,λj=>by simp[c9,S.at_],S.len,S.nr⟩,λ_=>by simp⟩;simp only[dN,agL,forL];rw[L6];obtain⟨c,e⟩:=l8.mp y;rw[<- e,L6]
 |cons j l C =>
  rw[DK]at nd;simp only[vq]at A;have c:=(l8.mp y).1;have s:=S.put j;have q:(bz r (.int j)).getD (.int 0)= .int (f j:Nat):=by
    rw[S.at_ j];by_cases e:f j=0
    . simp[e]
    . simp[e]
  have u:pz r=true:=by unfold pz;exact aR (by have:=S.len;lia)
  have h:(σ.set 8 (some (.int j)))[5]? = some (some (.bq i)):=by rw[Oc (by decide)];exact B
  have N:(σ.set 8 (some (D.int j)))[8]? = some (some (.int j)):=ua (by lia);have k:aG (aj aJ (gC i5 jy dV (aa eu (aa b0 ag))) ba) (gB dV eu) (σ.set 8 (some (.int j))) g=some (.nx,σ.set 8 (some (.int j)),g.set i (bb r (.int j) (.int (f j+1:Nat)))):=by simp[h,N,y,q,u]
  obtain⟨n,p,b,a,_⟩:=C (σ:=σ.set 8 (some (.int j))) (g:=g.set i (bb r (.int j) (.int (f j+1:Nat)))) (ua c) s nd.2 (by lia) h (by simp[x]);refine⟨n,p,?_,?_,λz=>by cases z⟩
  . simp only[dN,wh,forL]at b ⊢
    rw[show gN 8 (D.int j) σ g=some (σ.set 8 (some (.int j)),g) from rfl];simp only[k9,k];rw[b,PL,PL]
  . refine⟨a.ka,λv=>?_,by have:=a.len;simp only[vq];lia,a.nr⟩
    rw[a.at_ v];have:c9 (λv=>f v+if v=j then 1 else 0) l v=c9 f (j::l) v:=by
      unfold c9;by_cases e:v=j
      . subst e;simp[nd.1]
      . simp[e]
    rw[this]
theorem pW {q:Nat}{g:G}{k:List D}{f:Nat->Nat}{n:D}(c:g[q]? = some k)(o:flat n=true):∀(l:List Nat),(∀j∈l,bz k (.int j)=some (.int (f j:Nat)))->∀r,cQ (gN 1) (aB (aj oEq (aj au bg a5) a7)) a5 (dN l) [none,r,some n,some (.bq q)] g=some (dN (d6 f n l),g)
 | [],_,_=>rfl
 |j::l,h,r=>by
  have p:=pW (f:=f) c o l (λi b=>h i (by simp[b])) (some (.int j));have a:=h j (by simp);have e:oEq (.int (f j:Nat)) n g=some (.bl (bB (.int (f j:Nat)) n),g):=by simp[oEq,flat,o,dep]
  simp only[dN,wh]at p ⊢;simp only[cQ];simp[c,a,e];by_cases u:bB (.int (f j:Nat)) n=true
  . simp[u,p,d6,dN]
  . simp[u,p,d6,dN]
structure ze (R:Str->Option Fn)(fn:Fn)(nm:Str)(n q p8 N:Nat)(mv:D)(rd a b sd:List D)(f:Nat->Nat)(g:G):Prop where
 hR:R nm=some fn
 hf:mJ fn
 hw:(rd.drop p8).take (2*n)=a++b
 ha:a.length=n
 hb:b.length=n
 ca:∀c∈a,nT c
 cb:∀c∈b,nT c
 n1:1<=n
 DL:n<=20
 hs:p8+2*n<=rd.length
 hq:g[q]? = some sd
 S:SD sd f N
 hN:N+2*n<=900
 fm:flat mv=true
def w8 {fn:Fn}{rd:List D}(H:ze R fn x i o j K c rd r b T f a):(aG (e_ R 4 (aa (cU bg (aY d4) (aY (aj aJ d4 a5))) ag)) (gN 7)) (dk i c rd x o j Y X U) a=some (.nx,dk i c rd x o j (some (.lst (dN (bK r b)))) X U,a):=by
 have e:=H.hf r b a (by rw[H.ha,H.hb]) (by rw[H.ha];exact H.DL) H.ca H.cb;have n:=lH (rd:=rd) (s:=j) (m:=2*i) H.hs;rw[H.hw]at n;have nm:e_ R 4 (aa (cU bg (aY d4) (aY (aj aJ d4 a5))) ag) (dk i c rd x o j Y X U) a=some (.lst (dN (bK r b)),a):=by
  rw[Dt (y:=x) (fn:=fn) rfl H.hR];have q:(j:Int)+((2*i:Nat):Int)=((j+2*i:Nat):Int):=by simp
  simp[dk];simp only[ahD]at q n;simp[fM];have h:pe rd (some (j:Int)) (some ((j:Int)+2*(i:Int)))=r++b:=by rw[<- n];simp
  rw[h];exact e
 rw[oG,nm];rfl
def Kp {o7:Option D}{o8:Option D}{o9:Option D}(H:ze R l x i o j K c r T b Q f a)(e:bK T b = []):∃g,fN R (dk i c r x o j o7 o8 o9) a=some (.rt (.tup [.int j,.ay]),g,a):=by have fn:aC 2=true:=rfl;refine⟨dk i c r x o j (some (.lst (dN (bK T b)))) o8 o9,?_⟩;unfold fN;rw[dQ (w8 H)];unfold FU;simp[dk,e,dN,fn]
def DM {o7:Option D}{o8:Option D}{o9:Option D}(H:ze R E x i o j K c r T b Q f a)(A:bK T b ≠ []):∃g p,fN R (dk i c r x o j o7 o8 o9) a=pV R (dk i c r x o j (some (.lst (dN (bK T b)))) p (some (.lst (dN (d6 (c9 f (bK T b)) c (bK T b)))))) (a.set o g)/\SD g (c9 f (bK T b)) (K+2*i):=by
 have B:(bK T b).length<=i:=by have:(bK T b).length<=(nN T.length).length:=LW _ _;rw[ag8,H.ha]at this;exact this
 refine Ot (y_ (l:=bK T b) (σ:=dk i c r x o j (some (.lst (dN (bK T b)))) o8 o9) H.hq H.S Oz (by have:=H.hN;lia) rfl rfl) λg p p8 n _=>?_;have h:SD g (c9 f (bK T b)) (K+2*i):=⟨n.ka,n.at_,by have:=n.len;lia,n.nr⟩
 have s:(a.set o g)[o]? = some g:=ua (l8.mp H.hq).1;have v:=pW (f:=c9 f (bK T b)) s H.fm (bK T b) (λN y=>by rw[h.at_ N,if_neg];simp[c9,y]) none
 refine⟨g,p,?_,h⟩;have nm:¬(((bK T b).length:Int)=0):=λz=>A (YL.mp (by lia));have zl:aC (bK T b).length=true:=aR (by have:=H.DL;lia);unfold fN;rw[dQ (w8 H)];unfold FU;have fn:(bM (aB (aj oEq (ao bw (aa ee ag)) b0)) (aH (aI aA (aa d4 (aa er ag)))) aK) (dk i c r x o j (some (.lst (dN (bK T b)))) o8 o9) a=some (.nx,dk i c r x o j (some (.lst (dN (bK T b)))) o8 o9,a):=by simp[dk,bW,nm,A]
 rw[dQ fn];unfold Oy;have k:(fK (cy ee) (gN 8) (aG (aj aJ (gC i5 jy dV (aa eu (aa b0 ag))) ba) (gB dV eu))) (dk i c r x o j (some (.lst (dN (bK T b)))) o8 o9) a=some (.nx,dk i c r x o j (some (.lst (dN (bK T b)))) p o9,a.set o g):=by have e:cy ee (dk i c r x o j (some (.lst (dN (bK T b)))) o8 o9) a=some (dN (bK T b),a):=rfl;show((cy ee (dk i c r x o j (some (.lst (dN (bK T b)))) o8 o9) a).bind λq=>forL _ _ q.1 _ q.2)=_;rw[e,k9,p8];rfl
 rw[dQ k];unfold Ox;have u:(aG (bA bH (cy ee) [none,none,some 2,some 5] (gN 1) (aB (aj oEq (aj au bg a5) a7)) a5) (gN 9)) (dk i c r x o j (some (.lst (dN (bK T b)))) p o9) (a.set o g)=some (.nx,dk i c r x o j (some (.lst (dN (bK T b)))) p (some (.lst (dN (d6 (c9 f (bK T b)) c (bK T b))))),a.set o g):=by refine ij ?_;have e:cy ee (dk i c r x o j (some (.lst (dN (bK T b)))) p o9) (a.set o g)=some (dN (bK T b),a.set o g):=rfl;simp only[fW,e,k9,bW,zl,if_true];show((cQ (gN 1) _ _ (dN (bK T b)) [none,none,some c,some (.bq o)] (a.set o g)).bind _)=_;rw[v];rfl
 rw[dQ u]
def HJ {o7:Option D}{o8:Option D}{o9:Option D}(H:ze R l x i o j K c r T b Q f a)(fn:bK T b ≠ [])(h:d6 (c9 f (bK T b)) c (bK T b)= []):∃g p n q,fN R (dk i c r x o j o7 o8 o9) a=some (.nx,dk i c r x o (j+i) p n q,a.set o g)/\SD g (c9 f (bK T b)) (K+2*i):=by obtain⟨g,n,e,S⟩:=DM (o7:=o7) (o8:=o8) (o9:=o9) H fn;refine⟨g,some (.lst (dN (bK T b))),n,some (.lst (dN [])),?_,S⟩;rw[e,h];unfold pV FR;simp[dk,dN]
def DN {g:G}(h:i∈u)(k:∀j∈u,i<=j):jL kR ic [.lst (dN u)] g=some (.int i,g):=by
 have e:fq (dN u)=some (u.map λ(j:Nat)=>(j:Int)):=by have:=baE (u.map λ(j:Nat)=>(j:Int));rw[Dd]at this;exact this
 have m:(u.map λ(j:Nat)=>(j:Int)).min? = some (i:Int):=by rw[age];refine⟨mM.mpr ⟨i,h,rfl⟩,λb a=>?_⟩;obtain⟨j,c,rfl⟩:=mM.mp a;have:=k j c;lia
 show ic [.lst (dN u)] g=_;simp[iZ,e,m]
def OA {N:Nat}{g:G}{o7:Option D}{o8:Option D}{o9:Option D}(H:ze R l x o j K N c r T b Q f g)(fn:bK T b ≠ [])(n:i∈d6 (c9 f (bK T b)) c (bK T b))(q:∀p8∈d6 (c9 f (bK T b)) c (bK T b),i<=p8):∃p u,fN R (dk o c r x j K o7 o8 o9) g=some (.rt (.tup [.int K,.int i]),u,g.set j p):=by obtain⟨p,h,e,S⟩:=DM (o7:=o7) (o8:=o8) (o9:=o9) H fn;refine⟨p,dk o c r x j K (some (.lst (dN (bK T b)))) h (some (.lst (dN (d6 (c9 f (bK T b)) c (bK T b))))),?_⟩;rw[e];have hm:=DN (g:=g.set j p) n q;have k:0<(d6 (c9 f (bK T b)) c (bK T b)).length:=af5 n;have nm:aC 2=true:=rfl;unfold pV;simp[dk,bW,k,hm,nm]
theorem gY {n:Nat}{rest:List D}:∀{cs:List (List D)} {k:Nat},(∀c∈cs,c.length=n)->k<=cs.length->(cs.flatten++rest).drop (k*n)=(cs.drop k).flatten++rest
 |cs,0,_,_=>by simp| [],k+1,_,h=>by simp at h|c::cs,k+1,g,h=>by have b:c.length=n:=g c (by simp);have i:=gY (rest:=rest) (cs:=cs) (k:=k) (λx a=>g x (by simp[a])) (by simpa using h);rw[Dx,sP,show(k+1)*n=c.length+k*n by rw[ql,b];lia,List.drop_length_add_append,i];simp
theorem eQ {n:Nat}:∀{g:List (List D)},(∀c∈g,c.length=n)->g.flatten.length=g.length*n
 | [],_=>by simp|c::g,h=>by rw[Dx,lN,eQ λx a=>h x (by simp[a]),h c (by simp),vq,ql];lia
def FV (f:∀c∈Z,c.length=i)(h:o+1<Z.length):((Z.flatten++r).drop (o*i)).take (2*i)=Z.getD o []++Z.getD (o+1) []:=by
 rw[gY f (by lia)];have e:Z.drop o=Z.getD o []::Z.getD (o+1) []::Z.drop (o+2):=by rw[MP (by lia),MP (by lia)];simp[nK,lC h,lC (show o<Z.length by lia)]
 have b:(Z.getD o []).length=i:=by rw[nK,lC (show o<Z.length by lia)];exact f _ (p6 _)
 have a:(Z.getD (o+1) []).length=i:=by rw[nK,lC h];exact f _ (p6 _)
 rw[e,Dx,Dx,<- sP,sP,adg (by rw[lN,b,a];lia),Gw (by rw[lN,b,a];lia)]
def lI:c9 (vz Z i) (bK (Z.getD i []) (Z.getD (i+1) []))=vz Z (i+1):=rfl
noncomputable def Goes (g:D)(c:List (List D))(i:Nat):Prop:=bK (c.getD i []) (c.getD (i+1) []) ≠ []/\d6 (vz c (i+1)) g (bK (c.getD i []) (c.getD (i+1) []))= []
noncomputable def rj (g:D)(c:List (List D))(i:Nat):Option Nat->Prop
 |none=>bK (c.getD i []) (c.getD (i+1) [])= []|some j=>bK (c.getD i []) (c.getD (i+1) []) ≠ []/\j∈d6 (vz c (i+1)) g (bK (c.getD i []) (c.getD (i+1) [])) /\ ∀k∈d6 (vz c (i+1)) g (bK (c.getD i []) (c.getD (i+1) [])),j<=k
noncomputable def eD:Option Nat->D
 |none=>.ay|some j=>.int j
structure oh (n:Nat)(cs:List (List D)):Prop where
 len:∀c∈cs,c.length=n
 all:∀c∈cs,∀x∈c,nT x
 n1:1<=n
 DL:n<=20
 dU:cs.length*n<=400
theorem oh.getD {n c k}(h:oh n c)(a:k<c.length):(c.getD k []).length=n /\ ∀x∈c.getD k [],nT x:=by rw[nK,lC a];exact⟨h.len _ (p6 _),h.all _ (p6 _)⟩
def w9 {rest:List D}(hR:R x=some l)(j:mJ l)(p:oh i Z)(n:flat c=true){k:Nat}(h:k+1<Z.length)(nm:a[o]? = some r)(S:SD r (vz Z k) (k*(2*i))):
   ze R l x i o (k*i) (k*(2*i)) c (Z.flatten++rest) (Z.getD k []) (Z.getD (k+1) []) r (vz Z k) a:=by
 obtain⟨f,fn⟩:=p.getD (k:=k) (by lia);obtain⟨q,b⟩:=p.getD (k:=k+1) h;refine⟨hR,j,FV p.len h,f,q,fn,b,p.n1,p.DL,?_,nm,S,?_,n⟩
 . rw[lN,eQ p.len]
   have:(k+2)*i<=Z.length*i:=Yf _ (by lia);rw[ql]at this;lia
 . have g:=p.dU
   have:(k+2)*i<=Z.length*i:=Yf _ (by lia);rw[ql]at this;have e:k*(2*i)=2*(k*i):=by rw[Nat.mul_left_comm]
   lia
def mK (h:i+2*o<=r.length):jt (dk o c r x j i Y X U) a=some (true,a):=by
 have e:((i:Int)+2*(o:Int)<=(r.length:Int)):=by lia
 simp[jt,dk,d5,e]
def ud (h:r.length<i+2*o):jt (dk o c r x j i Y X U) a=some (false,a):=by
 have e:¬((i:Int)+2*(o:Int)<=(r.length:Int)):=by lia
 simp[jt,dk,d5,e]
section
variable {q:Nat}{rest:List D}
theorem zf (hR:R x=some l)(u:mJ l)(B:oh i Z)(v:flat c=true)(O:rest.length<i):∀(m k p:Nat) (g:G) (E:List D) (o7 o8 o9:Option D),k+1+m=Z.length->m<p->g[q]? = some E->SD E (vz Z k) (k*(2*i))->(∀fn,k<=fn->fn+1<Z.length->Goes c Z fn) ->
  ∃C y,gA jt (fN R) p (dk i c (Z.flatten++rest) x q (k*i) o7 o8 o9) g=some (.nx,C,g.set q y)/\aP 0 y=true
 | 0,k,p+1,g,E,o7,o8,o9,J,w_,hq,S,I=>by
  refine⟨dk i c (Z.flatten++rest) x q (k*i) o7 o8 o9,E,?_,S.nr⟩;simp only[gA];rw[ud (by rw[lN,eQ B.len,<- J];simp only[agS];rw[ql];lia)]
  obtain⟨b,e⟩:=l8.mp hq;simp only[k9,pA,if_false];rw[<- e,L6]
 |m+1,k,p+1,g,E,o7,o8,o9,J,w_,hq,S,I=>by have H:=w9 (rest:=rest) hR u B v (show k+1<Z.length by lia) hq S;obtain⟨Q,o⟩:=I k (lb _) (by lia);obtain⟨y,h,j,f,e,a⟩:=HJ (o7:=o7) (o8:=o8) (o9:=o9) H Q (by rw[lI];exact o);rw[lI]at a;have b:=(l8.mp hq).1;obtain⟨C,r,nm,n⟩:=zf hR u B v O m (k+1) p (g.set q y) y h j f (by lia) (by lia) (ua b) ⟨a.ka,a.at_,by have:=a.len;rw[ql];lia,a.nr⟩ λfn s=>I fn (by lia);refine⟨C,r,?_,n⟩;simp only[gA];rw[mK H.hs];simp only[k9,if_true,e];rw[show k*i+i=(k+1)*i by rw[ql];lia,nm,PL]
end
section
variable {q:Nat}{rest:List D}
theorem zg (hR:R x=some l)(y:mJ l)(E:oh i Z)(z:flat c=true){en:Option Nat}:∀(m k p:Nat) (g:G) (I:List D) (o7 o8 o9:Option D),k+2+m=Z.length->m<p->g[q]? = some I->SD I (vz Z k) (k*(2*i))->(∀fn,k<=fn->fn+2<Z.length->Goes c Z fn)->rj c Z (Z.length-2) en ->
  ∃B C,gA jt (fN R) p (dk i c (Z.flatten++rest) x q (k*i) o7 o8 o9) g=some (.rt (.tup [.int ((Z.length-2)*i:Nat),eD en]),B,g.set q C)
 | 0,k,p+1,g,I,o7,o8,o9,U,w_,hq,S,O,J=>by
  have H:=w9 (rest:=rest) hR y E z (show k+1<Z.length by lia) hq S;have u:Z.length-2=k:=by lia
  rw[u]at J ⊢;cases en with
  |none =>
   obtain⟨B,e⟩:=Kp (o7:=o7) (o8:=o8) (o9:=o9) H J;refine⟨B,I,?_⟩;simp only[gA];rw[mK H.hs];simp only[k9,if_true,e];obtain⟨nm,o⟩:=l8.mp hq;rw[<- o,L6];rfl
  |some j =>
   obtain⟨Q,b,f⟩:=J;rw[<- lI]at b f;obtain⟨C,B,e⟩:=OA (o7:=o7) (o8:=o8) (o9:=o9) H Q b f;refine⟨B,C,?_⟩;simp only[gA];rw[mK H.hs];simp only[k9,if_true,e];rfl
 |m+1,k,p+1,g,I,o7,o8,o9,U,w_,hq,S,O,J=>by have H:=w9 (rest:=rest) hR y E z (show k+1<Z.length by lia) hq S;obtain⟨Q,b⟩:=O k (lb _) (by lia);obtain⟨C,r,s,h,e,a⟩:=HJ (o7:=o7) (o8:=o8) (o9:=o9) H Q (by rw[lI];exact b);rw[lI]at a;have nm:=(l8.mp hq).1;obtain⟨B,v,n⟩:=zg hR y E z (en:=en) m (k+1) p (g.set q C) C r s h (by lia) (by lia) (ua nm) ⟨a.ka,a.at_,by have:=a.len;rw[ql];lia,a.nr⟩ (λfn Y=>O fn (by lia)) J;refine⟨B,v,?_⟩;simp only[gA];rw[mK H.hs];simp only[k9,if_true,e];rw[show k*i+i=(k+1)*i by rw[ql];lia,n,PL]
end
def last_eq:cC R=ax (aG qL (gN 5)) (ax (aG b0 (gN 6)) (ax (B_ 1000000 jt (fN R)) (aH er))):=rfl
def DP (h:Bd a)(e:O.take a.length=a):(O.take a.length).all (aP a.length)=true:=by rw[e,EN];intro x g;obtain⟨i,b⟩:=aes.mp g;exact h i x b
def take_set:((a ++ [[]]).set a.length r).take a.length=a:=by rw[N1 _ _ (lb _)];simp
def last_run (g:Bd a)(n:bR a.length c=true)(d:gA jt (fN R) 1000000 (dk i m b x a.length 0 none none none) (a ++ [[]])=some (.rt c,h,(a ++ [[]]).set a.length r)):aq false 10 5 (cC R) [.int i,.int (2*i:Nat),m,.tup b,.fn x []] a=some (c,a):=by
 have p:k0 (aq false 10 5 (cC R) [.int i,.int (2*i:Nat),m,.tup b,.fn x []] a) λq=>q=(c,a):=by
  refine jO rfl ?_;have e:cC R ([D.int i,.int (2*i:Nat),m,.tup b,.fn x []].map some++l6 (10-5) none) a=some (.rt c,h,(a ++ [[]]).set a.length r):=by rw[last_eq,dQ (σ1:=[some (.int i),some (.int (2*i:Nat)),some m,some (.tup b),some (.fn x []),some (.bq a.length),none,none,none,none]) (g1:=a ++ [[]]) rfl,dQ (σ1:=dk i m b x a.length 0 none none none) (g1:=a ++ [[]]) rfl];exact lE d
  rw[e];simp only[gr];exact⟨n,DP g take_set,by simp,by rw[take_set]⟩
 obtain⟨q,e,rfl⟩:=p;exact e
def ue {σ':Sg}{sd':List D}(n:Bd a)(h:gA jt (fN R) 1000000 (dk i c r x a.length 0 none none none) (a ++ [[]])=some (.nx,σ',(a ++ [[]]).set a.length sd')):aq false 10 5 (cC R) [.int i,.int (2*i:Nat),c,.tup r,.fn x []] a=some (.ay,a):=by
 have g:k0 (aq false 10 5 (cC R) [.int i,.int (2*i:Nat),c,.tup r,.fn x []] a) λq=>q=(.ay,a):=by
  refine jO rfl ?_;have e:cC R ([D.int i,.int (2*i:Nat),c,.tup r,.fn x []].map some++l6 (10-5) none) a=some (.rt .ay,σ',(a ++ [[]]).set a.length sd'):=by rw[last_eq,dQ (σ1:=[some (.int i),some (.int (2*i:Nat)),some c,some (.tup r),some (.fn x []),some (.bq a.length),none,none,none,none]) (g1:=a ++ [[]]) rfl,dQ (σ1:=dk i c r x a.length 0 none none none) (g1:=a ++ [[]]) rfl];exact(dQ h).trans rfl
  rw[e];simp only[gr];exact⟨rfl,DP n take_set,by simp,by rw[take_set]⟩
 obtain⟨q,e,rfl⟩:=g;exact e
def DQ {rest:List D}(hR:R x=some l)(k:mJ l)(b:oh i Z)(h:flat c=true)(f:rest.length<i)(nm:Bd a)(n:∀fn,fn+1<Z.length->Goes c Z fn):aq false 10 5 (cC R) [.int i,.int (2*i:Nat),c,.tup (Z.flatten++rest),.fn x []] a=some (.ay,a):=by
 by_cases g:Z = []
 . subst g
   refine ue (sd':=[]) (σ':=dk i c rest x a.length 0 none none none) nm ?_;show((jt _ _).bind _)=_;rw[afJ,OQ,ud (by lia)];simp only[k9,pA,if_false];rw[N1 _ _ (lb _)];simp
 . have p:0<Z.length:=adH.mpr g
   obtain⟨σ',sd',e,_⟩:=zf (q:=a.length) (rest:=rest) hR k b h f (Z.length-1) 0 1000000 (a ++ [[]]) [] none none none (by lia) (by have:=b.dU;have:=afN Z.length b.n1;lia) (by simp) (by rw[W2];exact⟨rfl,λj=>by simp[bz,vz],by simp,rfl⟩) λfn _=>n fn;rw[W2]at e;exact ue nm e
def DR {rest:List D}(hR:R x=some l)(k:mJ l)(fn:oh i Z)(h:flat c=true)(f:Bd a)(r:2<=Z.length)(nm:∀g,g+2<Z.length->Goes c Z g)(o:rj c Z (Z.length-2) y):aq false 10 5 (cC R) [.int i,.int (2*i:Nat),c,.tup (Z.flatten++rest),.fn x []] a=some (.tup [.int ((Z.length-2)*i:Nat),eD y],a):=by obtain⟨b,n,e⟩:=zg (q:=a.length) (rest:=rest) hR k fn h (Z.length-2) 0 1000000 (a ++ [[]]) [] none none none (by lia) (by have:=fn.dU;have:=afN Z.length fn.n1;lia) (by simp) (by rw[W2];exact⟨rfl,λj=>by simp[bz,vz],by simp,rfl⟩) (λg _=>nm g) o;rw[W2]at e;refine last_run f ?_ e;cases y<;>simp[bR,aP,eD]
noncomputable def OB (nm:Str)(a b moves:Fn):FS:=aH (aI aA (aa (aI aA (aa eR (aa (aj au (aj au dV (aj au bg ba)) b4) ag))) (aa cJ ag)))
noncomputable def OC (nm:Str)(a b moves:Fn):FS:=ax (bM (aB (aj jk (aj au bg ba) er)) (aH (aI aA (aa (aI aA (aa eR (aa (ao fL (aa (bA bH (cy dV) [none,none] (gN 1) b9 (aj au a5 b0)) ag)) ag))) (aa cJ ag)))) aK) (OB nm a b moves)
noncomputable def OD (nm:Str)(a b moves:Fn):FS:=ax (aG (cU a5 (aY (aj (bD cA (· - ·)) cJ a7)) (aY cJ)) (gN 5)) (OC nm a b moves)
noncomputable def OE (nm:Str)(a b moves:Fn):FS:=ax (aG (aj aJ (aj au bg b0) (aj bJ b4 a7)) (gN 4)) (OD nm a b moves)
noncomputable def FW (nm:Str)(a b moves:Fn):FS:=ax (bM (aB (aj jk bg er)) (aH (aI aA (aa (aI aA (aa ft (aa (aI aA (aa eW (aa (aj (bD cI (· % ·)) (ao bw (aa a5 ag)) a7) ag))) ag))) (aa (ao bw (aa a5 ag)) ag)))) aK) (OE nm a b moves)
noncomputable def FX (nm:Str)(b a moves:Fn):FS:=ax (aG (ao a (aa a7 (aa (aj bJ b4 a7) (aa (ao moves (aa a6 ag)) (aa a5 (aa (fC (.fn nm [])) ag)))))) (gN 3)) (FW nm b a moves)
noncomputable def oj (nm:Str)(a b moves:Fn):FS:=ax (aG (ao a (aa a6 ag)) (gN 2)) (FX nm a b moves)
noncomputable def A5:D->D
 |.tup (v::_)=>v|_=>.ay
noncomputable def TU:D->D
 |.tup (_::_::w::_)=>w|_=>.ay
noncomputable def ik (c:List D):Option Nat->D
 |none=>.tup (c.map A5)|some j=>TU (c.getD j .ay)
def Kq {rest:List D}(hh:∀a,E [m] a=some (.int i,a))(o:∀a,B [m] a=some (c,a))(hR:R x=some l)(u:mJ l)(n:oh i Z)(v:flat c=true)(s:rest.length<i)(r:Bd a)(p:∀fn,fn+1<Z.length->Goes c Z fn):
  aq false 6 2 (oj x E (aq false 10 5 (cC R)) B) [m,.tup (Z.flatten++rest)] a=some (.tup [.tup [.str "read",own "own" ((Z.flatten++rest).length % i)],.int (Z.flatten++rest).length],a):=by
 have e:=DQ hR u n v s r p;have k:=n.n1;have j:((i:Int))≠0:=by lia
 have b:aC 2=true:=rfl;have h:cu 2 (i:Int)=true:=iP (by decide) (by decide);have y:∀fn:Int,cI fn (i:Int)=true:=λfn=>eO (by lia);have f:((2*i:Nat):Int)=2*(i:Int):=by simp
 rw[f]at e;have g:k0 (aq false 6 2 (oj x E (aq false 10 5 (cC R)) B) [m,.tup (Z.flatten++rest)] a) λq=>q=(.tup [.tup [.str "read",own "own" ((Z.flatten++rest).length % i)],.int (Z.flatten++rest).length],a):=by generalize Z.flatten++rest=C at e ⊢;refine OX rfl ?_;simp[oj,hh];unfold FX;simp[hh,o,h,e];unfold FW;have nm:jk .ay .ay a=some (.bl true,a):=rfl;simp[nm,b,y,own,show gq .ay=true from rfl]
 obtain⟨q,e,rfl⟩:=g;exact e
def FY (b:oh o Z)(h:i<Z.length):((Z.flatten++r).drop (i*o)).take o=Z.getD i []:=by rw[gY b.len (by lia),MP h,Dx,sP];have a:Z[i].length=o:=b.len _ (p6 _);rw[adg (by lia),Gw (by lia),nK,lC h];rfl
theorem baS {g:G}:∀(c:List D),(∀x∈c,nT x)->∀i,cQ (gN 1) b9 (aj au a5 b0) c [none,i] g=some (c.map A5,g)
 | [],_,_=>rfl|x::c,h,i=>by have p:=baS (g:=g) c (λy b=>h y (by simp[b])) (some x);obtain⟨v,m,r,rfl⟩:=h x (by simp);have a:cF (v :: .int m::r) 0=some v:=lF (n:=0) rfl;simp only[cQ];simp[a,p,A5]
def Kr {rest:List D}{g:G}(hh:∀g,E [m] g=some (.int i,g))(C:∀g,B [m] g=some (c,g))(hR:R x=some l)(H:mJ l)(A:oh i Z)(I:flat c=true)(fn:Bd g)(K:2<=Z.length){en:Option Nat}(J:∀nm,nm+2<Z.length->Goes c Z nm)(U:rj c Z (Z.length-2) en)(L:en≠none->∀n∈Z,∀p∈n,∃v m w,p = .tup [v,.int m,w]):
  aq false 6 2 (oj x E (aq false 10 5 (cC R)) B) [m,.tup (Z.flatten++rest)] g=some (.tup [.tup [.str "told",ik (Z.getD (Z.length-1) []) en],.int (Z.length*i:Nat)],g):=by
 have e:=DR (rest:=rest) hR H A I fn K J U;have n1:=A.n1;have Y:aC 2=true:=rfl;have r:cu 2 (i:Int)=true:=iP (by decide) (by decide);have e2:((2*i:Nat):Int)=2*(i:Int):=by simp
 rw[e2]at e;have O:Z.length*i<=(Z.flatten++rest).length:=by rw[lN,eQ A.len];lia
 have f:(((Z.length-2)*i:Nat):Int)+2*(i:Int)=((Z.length*i:Nat):Int):=by
  have:(Z.length-2)*i+2*i=Z.length*i:=by rw[<- ql];congr 1;lia
  rw[<- this];simp
 have y:((Z.length*i:Nat):Int)-(i:Int)=(((Z.length-1)*i:Nat):Int):=by
  have:(Z.length-1)*i+i=Z.length*i:=by rw[show(Z.length-1)*i+i=(Z.length-1+1)*i by rw[ql];lia];congr 1;lia
  lia
 have ec:pe (Z.flatten++rest) (some (((Z.length-1)*i:Nat):Int)) (some ((Z.length*i:Nat):Int))=Z.getD (Z.length-1) []:=by
  have h1:(Z.length-1)*i+i=Z.length*i:=by rw[show(Z.length-1)*i+i=(Z.length-1+1)*i by rw[ql];lia];congr 1;lia
  have:=lH (rd:=Z.flatten++rest) (s:=(Z.length-1)*i) (m:=i) (by lia);rw[h1]at this;rw[this,FY A (by lia)]
 obtain⟨h,b⟩:=A.getD (k:=Z.length-1) (by lia);have o:Z.getD (Z.length-1) []∈Z:=by rw[nK,lC (show Z.length-1<Z.length by lia)];exact p6 _
 have Q:k0 (aq false 6 2 (oj x E (aq false 10 5 (cC R)) B) [m,.tup (Z.flatten++rest)] g) λq=>q=(.tup [.tup [.str "told",ik (Z.getD (Z.length-1) []) en],.int (Z.length*i:Nat)],g):=by
  generalize Z.flatten++rest=rd at e ec O ⊢;generalize hL:Z.getD (Z.length-1) []=n at ec h b o ⊢;generalize (Z.length-2)*i=u0 at e f;generalize Z.length*i=u1 at *;generalize (Z.length-1)*i=u2 at *;refine OX rfl ?_;simp[oj,hh];unfold FX;simp[hh,C,r,e];unfold FW;have z:gq (.tup [.int u0,eD en])=false:=rfl;simp[z];unfold OE;simp[RB,r,f];unfold OD;simp[y,fM,ec];unfold OC;cases en with
  |none =>
   have zc:aC n.length=true:=by rw[h];exact aR (by have:=A.DL;lia)
   have cv:=baS (g:=g) n b none;simp[A4,eD,show gq .ay=true from rfl,zc,cv,Y,ik]
  |some j =>
   obtain⟨_,hj,_⟩:=U;have a:j<n.length:=by have:=w5 (ro.mp hj).1;obtain⟨l3,_⟩:=A.getD (k:=Z.length-2) (by lia);lia
   obtain⟨v,k,w,u⟩:=L (by simp) n o n[j] (p6 a);have a1:cF n (j:Int)=some (.tup [v,.int k,w]):=lF (by rw[lC a,u]);have a2:cF [v,.int k,w] 2=some w:=rfl;have Za:ik n (some j)=w:=by simp only[ik];rw[nK,lC a,u];rfl
   simp[A4,eD,show gq (.int (j:Int))=false from rfl];unfold OB;simp[A4,a1,a2,Y,Za]
 obtain⟨q,e,rfl⟩:=Q;exact e
def wp_seq {Q:F×Sg×G->Prop}(i:k0 (M h a) λr=>r.1 = .nx/\k0 (H r.2.1 r.2.2) Q):k0 (ax M H h a) Q:=by obtain⟨⟨r,c,n⟩,e,b,g⟩:=i;dsimp only at b g;subst b;rw[oF,e];exact g
end
section
variable {R:Str->Option Fn}{Z w M:List D}{Y:List (List Nat)}{X:List Nat}{U:List (List D)}{T Q O:Option D}{J E:G}{f:Nat->Nat}{H z:FS}{b u d:D}{B:Sg}{A:Option (F×Sg×G)}{t:FT}{y:F×Sg×G->Prop}{s:FE}{q m k:Fn}{p:FA}{n:Nat}
def aN {σ1:Sg}{g1:G}{f1:FS}(c:f1 h a=some (.nx,σ1,g1))(k:H σ1 g1=A):ax f1 H h a=A:=(dQ c).trans k
def bf {g1:G}(c:C h a=some (d,g1))(k:H (h.set i (some d)) g1=A):ax (aG C (gN i)) H h a=A:=aN (ij c) k
def fz {g1:G}{g2:G}(g:t h a=some (true,g1))(c:C h g1=some (d,g2)):ax (bM t (aH C) H) z h a=some (.rt d,h,g2):=lE ((iS g).trans (cw c))
def kK (c:H h a=some (.nx,B,J))(k:k0 (z B J) y):k0 (ax H z h a) y:=by rw[dQ c];exact k
def ip {g1:G}(c:C h a=some (d,g1))(k:k0 (H (h.set i (some d)) g1) y):k0 (ax (aG C (gN i)) H h a) y:=kK (ij c) k
def HK (c:t h a=some (true,J))(k:H h J=some (.nx,B,E)):gA t H (i+1) h a=gA t H i B E:=by simp only[gA,c,k9,if_true,k]
def HL (c:t h a=some (true,J))(k:H h J=some (.rt d,B,E)):gA t H (i+1) h a=some (.rt d,B,E):=by simp only[gA,c,k9,if_true,k]
def cp {g1:G}{g2:G}{f':FE}{d':D}{o:D->D->G->Option (D×G)}(c:C h a=some (d,g1))(k:f' h g1=some (d',g2)):aj o C f' h a=o d d' g2:=by simp[c,k]
def pX {g1:G}{g2:G}{d':D}(c:C h a=some (d,g1))(k:s h g1=some (d',g2)):me i j (aa C (aa s ag)) h a=some (.nx,(h.set i (some d)).set j (some d'),g2):=by simp[c,k]
def rA {σ:Sg}{g:G}{g1:G}{fr:FA}(h:fr σ g=some ([.int n],g1))(b:n<=1000):iA fr σ g=some (fB 0 n,g1):=by obtain⟨q,a,e⟩:=mG (fr:=fr) (σ:=σ) (g:=g) (Q:=λq=>q=(fB 0 n,g1)) ⟨_,h,n,rfl,by lia,by lia,by simp⟩;rw[a,e]
def lJ {l:List Nat}:bC (dN l)=true:=by
 induction l with
 |nil=>rfl|cons x l c=>exact c
noncomputable def fG (n:Nat)(c:D)(g:List D)(a:D)(q:Nat)(p8:Nat)(h i p:Option D):Sg:=[some (.int n),some (.int n),some c,some (.tup g),some a,some (.bq q),some (.int p8),h,i,p]
def uf {y:Str}{ds:List D}{fn:Fn}(fr:h[i]? = some (some (.fn y ds)))(c:R y=some fn):e_ R i p h a=(p h a).bind λq=>fn (ds++q.1) q.2:=by unfold e_;rw[fr];simp[c]
structure zh (R:Str->Option Fn)(fn:Fn)(nm:Str)(cap:List D)(n q p8 N:Nat)(mv:D)(rd w:List D)(ms:List Nat)(sd:List D)(f:Nat->Nat)(g:G):Prop where
 hR:R nm=some fn
 hw:(rd.drop p8).take n=w
 hf:∀g,fn (cap ++ [.tup w]) g=some (.lst (dN ms),g)
 nd:ms.Nodup
 ml:ms.length<=20
 hs:p8+n<=rd.length
 hq:g[q]? = some sd
 S:SD sd f N
 hN:N+40<=900
 fm:flat mv=true
def xb {fn:Fn}{rd:List D}(H:zh R fn x r n i o j c rd w X Z f a):(aG (e_ R 4 (aa (cU bg (aY d4) (aY (aj aJ d4 a5))) ag)) (gN 7)) (fG n c rd (.fn x r) i o T Q O) a=some (.nx,fG n c rd (.fn x r) i o (some (.lst (dN X))) Q O,a):=by have nm:=lH (rd:=rd) (s:=o) (m:=n) H.hs;rw[H.hw]at nm;refine ij ?_;rw[uf (y:=x) (ds:=r) (fn:=fn) rfl H.hR];simp[fG,fM];rw[show(o:Int)+(n:Int)=((o+n:Nat):Int) by simp,nm];exact H.hf a
def Ks {o7:Option D}{o8:Option D}{o9:Option D}(H:zh R l x r n i o j c Z w X M f a)(b:X = []):∃g,fN R (fG n c Z (.fn x r) i o o7 o8 o9) a=some (.rt (.tup [.int o,.ay]),g,a):=by have fn:aC 2=true:=rfl;exact⟨_,aN (xb H) (fz (g1:=a) (d:=.tup [.int o,.ay]) (g2:=a) (by simp[fG,b,dN]) (by simp[fG,fn]))⟩
def DU {o7:Option D}{o8:Option D}{o9:Option D}(H:zh R q x r n i o j c Z w X M f a)(p8:X ≠ []):∃g p,fN R (fG n c Z (.fn x r) i o o7 o8 o9) a=pV R (fG n c Z (.fn x r) i o (some (.lst (dN X))) p (some (.lst (dN (d6 (c9 f X) c X))))) (a.set i g)/\SD g (c9 f X) (j+40):=by
 have nm:=H.ml;refine Ot (y_ (l:=X) (σ:=fG n c Z (.fn x r) i o (some (.lst (dN X))) o8 o9) H.hq H.S H.nd (by have:=H.hN;lia) rfl rfl) λg p u N _=>?_;have b:SD g (c9 f X) (j+40):=⟨N.ka,N.at_,by have:=N.len;lia,N.nr⟩
 have e:(a.set i g)[i]? = some g:=ua (l8.mp H.hq).1;have k:=pW (f:=c9 f X) e H.fm X (λv h=>by rw[b.at_ v,if_neg];simp[c9,h]) none
 have fn:¬((X.length:Int)=0):=λz=>p8 (YL.mp (by lia));have zl:aC X.length=true:=aR (by lia);exact⟨g,p,aN (xb H) (aN ((bP (g1:=a) (by simp[fG,bW,fn,p8])).trans rfl) (aN (f1:=fK (cy ee) (gN 8) (aG (aj aJ (gC i5 jy dV (aa eu (aa b0 ag))) ba) (gB dV eu))) u (bf (d:=.lst (dN (d6 (c9 f X) c X))) (g1:=a.set i g) (by simp[fG,cy,aW,bW,zl,cq,k,bH]) rfl))),b⟩
def HM {o7:Option D}{o8:Option D}{o9:Option D}(H:zh R l x r n i o j c Z w X M f a)(fn:X ≠ [])(b:d6 (c9 f X) c X = []):∃g p h q,fN R (fG n c Z (.fn x r) i o o7 o8 o9) a=some (.nx,fG n c Z (.fn x r) i (o+n) p h q,a.set i g)/\SD g (c9 f X) (j+40):=by obtain⟨g,h,e,S⟩:=DU (o7:=o7) (o8:=o8) (o9:=o9) H fn;refine⟨g,some (.lst (dN X)),h,some (.lst (dN [])),?_,S⟩;rw[e,b];unfold pV FR;simp[fG,dN]
def OG {g:G}{o7:Option D}{o8:Option D}{o9:Option D}(H:zh R l x r n o j K c Z w X M f g)(k:X ≠ [])(h:i∈d6 (c9 f X) c X)(nm:∀q∈d6 (c9 f X) c X,i<=q):∃p u,fN R (fG n c Z (.fn x r) o j o7 o8 o9) g=some (.rt (.tup [.int j,.int i]),u,g.set o p):=by obtain⟨p,b,e,S⟩:=DU (o7:=o7) (o8:=o8) (o9:=o9) H k;refine⟨p,fG n c Z (.fn x r) o j (some (.lst (dN X))) b (some (.lst (dN (d6 (c9 f X) c X)))),?_⟩;rw[e];have hm:=DN (g:=g.set o p) h nm;have fn:0<(d6 (c9 f X) c X).length:=af5 h;have a:aC 2=true:=rfl;unfold pV;simp[fG,bW,fn,hm,a]
noncomputable def gi (ps:List (List Nat)):Nat->Nat->Nat
 | 0,_=>0|k+1,j=>gi ps k j+if j∈ps.getD k []then 1 else 0
def xg:c9 (gi Y i) (Y.getD i [])=gi Y (i+1):=rfl
noncomputable def dI (c:D)(ps:List (List Nat))(i:Nat):Prop:=ps.getD i [] ≠ []/\d6 (gi ps (i+1)) c (ps.getD i [])= []
noncomputable def i8 (c:D)(ps:List (List Nat))(i:Nat):Option Nat->Prop
 |none=>ps.getD i []= []|some j=>ps.getD i [] ≠ []/\j∈d6 (gi ps (i+1)) c (ps.getD i []) /\ ∀k∈d6 (gi ps (i+1)) c (ps.getD i []),j<=k
structure xh (fn:Fn)(cap:List D)(n:Nat)(ws:List (List D))(ps:List (List Nat)):Prop where
 len:∀w∈ws,w.length=n
 lp:ps.length=ws.length
 n1:1<=n
 dU:ws.length<=20
 at_:∀i,i<ws.length->(∀g,fn (cap ++ [.tup (ws.getD i [])]) g=some (.lst (dN (ps.getD i [])),g))/\(ps.getD i []).Nodup/\(ps.getD i []).length<=20
def Kt (a:∀w∈U,w.length=n)(h:i<U.length):((U.flatten++r).drop (i*n)).take n=U.getD i []:=by
 rw[gY a (by lia),MP h,Dx,sP];have e:U.getD i []=U[i]:=by rw[nK,lC h];rfl
 rw[e,adg (by rw[a _ (p6 h)];exact lb _),Gw (by rw[a _ (p6 h)];exact lb _)]
def xi {rest:List D}(hR:R x=some l)(p:xh l Z n U Y)(e:flat c=true)(h:i<U.length)(k:a[o]? = some r)(S:SD r (gi Y i) (i*40)):
   zh R l x Z n o (i*n) (i*40) c (U.flatten++rest) (U.getD i []) (Y.getD i []) r (gi Y i) a:=by
 obtain⟨q,u,g⟩:=p.at_ i h;refine⟨hR,Kt p.len h,q,u,g,?_,k,S,?_,e⟩
 . rw[lN,eQ p.len]
   have:(i+1)*n<=U.length*n:=Yf _ (by lia);rw[ql]at this;lia
 . have:=p.dU;lia
def mL (h:i+n<=r.length):jt (fG n b r c o i T Q O) a=some (true,a):=by
 have e:((i:Int)+(n:Int)<=(r.length:Int)):=by lia
 simp[jt,fG,d5,e]
def DV (h:r.length<i+n):jt (fG n b r c o i T Q O) a=some (false,a):=by
 have e:¬((i:Int)+(n:Int)<=(r.length:Int)):=by lia
 simp[jt,fG,d5,e]
section
variable {q:Nat}{rest:List D}
theorem zi (hR:R x=some l)(B:xh l r n U Y)(u:flat c=true)(v:rest.length<n):∀(m k p:Nat) (g:G) (E:List D) (o7 o8 o9:Option D),k+m=U.length->m<p->g[q]? = some E->SD E (gi Y k) (k*40)->(∀i,k<=i->i<U.length->dI c Y i) ->
  ∃C y,gA jt (fN R) p (fG n c (U.flatten++rest) (.fn x r) q (k*n) o7 o8 o9) g=some (.nx,C,g.set q y)/\aP 0 y=true
 | 0,k,p+1,g,E,o7,o8,o9,O,w_,hq,S,I=>by
  refine⟨fG n c (U.flatten++rest) (.fn x r) q (k*n) o7 o8 o9,E,?_,S.nr⟩;simp only[gA];rw[DV (by rw[lN,eQ B.len,<- O];simp only[agS];lia)]
  obtain⟨b,e⟩:=l8.mp hq;simp only[k9,pA,if_false];rw[<- e,L6]
 |m+1,k,p+1,g,E,o7,o8,o9,O,w_,hq,S,I=>by have H:=xi (rest:=rest) hR B u (show k<U.length by lia) hq S;obtain⟨Q,o⟩:=I k (lb _) (by lia);obtain⟨y,h,j,f,e,a⟩:=HM (o7:=o7) (o8:=o8) (o9:=o9) H Q (by rw[xg];exact o);rw[xg]at a;have b:=(l8.mp hq).1;obtain⟨C,J,fn,nm⟩:=zi hR B u v m (k+1) p (g.set q y) y h j f (by lia) (by lia) (ua b) ⟨a.ka,a.at_,by have:=a.len;rw[ql];lia,a.nr⟩ λi s=>I i (by lia);refine⟨C,J,(HK (mL H.hs) e).trans ?_,nm⟩;rw[show k*n+n=(k+1)*n by rw[ql];lia,fn,PL]
end
section
variable {q:Nat}{rest:List D}
theorem zj (hR:R x=some l)(E:xh l r n U Y)(y:flat c=true){en:Option Nat}:∀(m k p:Nat) (g:G) (I:List D) (o7 o8 o9:Option D),k+1+m=U.length->m<p->g[q]? = some I->SD I (gi Y k) (k*40)->(∀i,k<=i->i+1<U.length->dI c Y i)->i8 c Y (U.length-1) en ->
  ∃B C,gA jt (fN R) p (fG n c (U.flatten++rest) (.fn x r) q (k*n) o7 o8 o9) g=some (.rt (.tup [.int ((U.length-1)*n:Nat),eD en]),B,g.set q C)
 | 0,k,p+1,g,I,o7,o8,o9,hk,w_,hq,S,O,J=>by
  have H:=xi (rest:=rest) hR E y (show k<U.length by lia) hq S;have u:U.length-1=k:=by lia
  rw[u]at J ⊢;cases en with
  |none =>
   obtain⟨B,e⟩:=Ks (o7:=o7) (o8:=o8) (o9:=o9) H J;refine⟨B,I,(HL (mL H.hs) e).trans ?_⟩;obtain⟨fn,o⟩:=l8.mp hq;rw[<- o,L6];rfl
  |some j =>
   obtain⟨Q,b,f⟩:=J;rw[<- xg]at b f;obtain⟨C,B,e⟩:=OG (o7:=o7) (o8:=o8) (o9:=o9) H Q b f;exact⟨B,C,HL (mL H.hs) e⟩
 |m+1,k,p+1,g,I,o7,o8,o9,hk,w_,hq,S,O,J=>by have H:=xi (rest:=rest) hR E y (show k<U.length by lia) hq S;obtain⟨Q,b⟩:=O k (lb _) (by lia);obtain⟨C,Z,s,h,e,a⟩:=HM (o7:=o7) (o8:=o8) (o9:=o9) H Q (by rw[xg];exact b);rw[xg]at a;have fn:=(l8.mp hq).1;obtain⟨B,v,nm⟩:=zj hR E y (en:=en) m (k+1) p (g.set q C) C Z s h (by lia) (by lia) (ua fn) ⟨a.ka,a.at_,by have:=a.len;rw[ql];lia,a.nr⟩ (λi mv=>O i (by lia)) J;refine⟨B,v,(HK (mL H.hs) e).trans ?_⟩;rw[show k*n+n=(k+1)*n by rw[ql];lia,nm,PL]
end
def ug (g:bR 0 d=true)(i:ax (B_ 1000000 jt (fN R)) (aH er) (fG n b Z c 0 0 none none none) [[]]=some (.rt d,h,[r])):aq false 10 5 (cC R) [.int n,.int n,b,.tup Z,c] []=some (d,[]):=by
 have p:k0 (aq false 10 5 (cC R) [.int n,.int n,b,.tup Z,c] []) λq=>q=(d,[]):=by refine jO rfl ?_;rw[last_eq];refine ip (d:=.bq 0) (g1:=[[]]) rfl (ip (d:=.int 0) (g1:=[[]]) rfl ⟨_,i,?_⟩);exact⟨g,by simp,by simp,by simp⟩
 obtain⟨q,e,rfl⟩:=p;exact e
def OH:SD [] (gi Y 0) i:=⟨rfl,λj=>by simp[bz,gi],by simp,rfl⟩
def rB {mv:D}{rest:List D}(hR:R x=some l)(D:xh l r n U Y)(f:flat mv=true)(c:rest.length<n)(h:∀i,i<U.length->dI mv Y i):aq false 10 5 (cC R) [.int n,.int n,mv,.tup (U.flatten++rest),.fn x r] []=some (.ay,[]):=by obtain⟨b,a,e,_⟩:=zi (q:=0) (rest:=rest) hR D f c U.length 0 1000000 [[]] [] none none none (by lia) (by have:=D.dU;lia) rfl OH λi _=>h i;rw[W2]at e;exact ug rfl ((dQ e).trans rfl)
def rC {mv:D}{rest:List D}(hR:R x=some l)(D:xh l r n U Y)(c:flat mv=true)(j:1<=U.length){en:Option Nat}(f:∀i,i+1<U.length->dI mv Y i)(h:i8 mv Y (U.length-1) en):aq false 10 5 (cC R) [.int n,.int n,mv,.tup (U.flatten++rest),.fn x r] []=some (.tup [.int ((U.length-1)*n:Nat),eD en],[]):=by obtain⟨b,a,e⟩:=zj (q:=0) (rest:=rest) hR D c (U.length-1) 0 1000000 [[]] [] none none none (by lia) (by have:=D.dU;lia) rfl OH (λi _=>f i) h;rw[W2]at e;refine ug ?_ (lE e);cases en<;>simp[bR,aP,eD]
theorem uh (val:Nat->Int):∀(n:Nat) (k:Int),k∈bU val n ↔ ∃i,i<n/\val i=k
 | 0,k=>by simp[bU]
 |n+1,k=>by
  have c:=uh val n;unfold bU jV;have:k∈(if val n∈bU val n then bU val n else bU val n ++ [val n])↔ k∈bU val n\/k=val n:=by
    split
    . rename_i h
      exact⟨.inl,λa=>by rcases a with a|rfl;exact a;exact h⟩
    . simp
  rw[this,c];constructor
  . rintro(⟨i,b,a⟩|rfl)
    . exact⟨i,by lia,a⟩
    . exact⟨n,by lia,rfl⟩
  . rintro⟨i,b,a⟩
    by_cases e:i=n
    . subst e;exact .inr a.symm
    . exact .inl ⟨i,by lia,a⟩
theorem xj (val:Nat->Int):∀n,(bU val n).Nodup
 | 0=>Sm
 |n+1=>by
  have g:=xj val n;unfold bU jV;split
  . exact g
  . rename_i h
    rw[Qs];exact⟨g,by simp,λa e b c z=>by simp at c;subst c;subst z;exact h e⟩
def FZ (c:List Int)(k:Int):k∈bU (λi=>c.getD i 0) c.length ↔ k∈c:=by
 rw[uh,NX];constructor
 . rintro⟨i,a,b⟩
   exact⟨i,a,by simpa[a]using b⟩
 . rintro⟨i,a,b⟩
   exact⟨i,a,by simpa[a]using b⟩
def DX {L ms:List Nat}(h:∀j,j∈ms ↔ j∈L)(nd:ms.Nodup)(f:ms.Pairwise (· <= ·)):N5 (bU (λi=>(L.map λ(j:Nat)=>(j:Int)).getD i 0) (L.map λ(j:Nat)=>(j:Int)).length)=ms.map λ(j:Nat)=>(j:Int):=by
 refine(afI ((List.perm_ext_iff_of_nodup (baz (λa _ b _ e=>by lia) nd) (xj _ _)).mpr λk=>?_) ?_).symm
 . rw[FZ]
   simp only[mM];exact⟨λ⟨j,c,e⟩=>⟨j,(h j).mp c,e⟩,λ⟨j,c,e⟩=>⟨j,(h j).mpr c,e⟩⟩
 . rw[ag7]
   exact f.imp λh=>by lia
noncomputable def dj (n o:Nat):List Nat:=(nN n).filter λj=>!(j == o)
noncomputable def aw (n o sh:Nat):List Nat:=if sh=1 then dj n o else []
def fI:j∈dj n o ↔ j<n/\j≠o:=by simp[dj]
def xk:(dj n o).Nodup:=aem.sublist Nx
def lK:(dj n o).length<=n:=by have:=LW (λj=>!(j == o)) (nN n);rw[ag8]at this;exact this
def gZ {sh:Nat}:(aw n o sh).length<=n:=by
 unfold aw;split
 . exact lK
 . simp
def iW:j∈aw n o i ↔ i=1/\j<n/\j≠o:=by
 unfold aw;split
 . rename_i h;rw[fI];simp[h]
 . rename_i h;simp[h]
def OI:(aw n o i).Nodup:=by
 unfold aw;split
 . exact xk
 . exact Sm
inductive SC (n:Nat):D->Prop
 |mk (v:D) (bs:List Int) (t:Int) (vw:List D) (hv:vG v) (hb:bs.length=n) (hw:vw.length=n) (ha:∀x∈vw,vG x):SC n (.tup [v,.tup (bs.map .int),.int t,.tup vw])
noncomputable def xl (c:D)(i:Nat):D:=match c with
 |.tup g=>g.getD i .ay|_=>.ay
noncomputable def DY:D->Int
 |.int i=>i|_=>0
noncomputable def cB (c:D)(j:Nat):Int:=DY (xl (xl c 1) j)
noncomputable def cT (c:D):Int:=DY (xl c 2)
noncomputable def Gu (c:D):D:=xl c 0
noncomputable def cW (c:D):D:=xl c 3
def HN:cF [u,b,c,d] 1=some b:=rfl
def HP:cF [u,b,c,d] 2=some c:=rfl
def HQ:cF [u,b,c,d] 3=some d:=rfl
def RC:cF [u,b,c,d] 0=some u:=rfl
def SC.bit {g:G}(h:SC n c)(b:o<n):(au c (.int 1) g).bind (λr=>au r.1 (.int o) r.2)=some (.int (cB c o),g):=by
 cases h with
 |mk v bs t vw i hb hw ha =>
  have e:(bs.map D.int)[o]? = some (.int bs[o]):=by rw[m2,lC (by lia)];rfl
  have a:cB (.tup [v,.tup (bs.map .int),.int t,.tup vw]) o=bs[o]:=by show DY ((bs.map D.int).getD o .ay)=_;rw[nK,e];rfl
  simp[dP,HN,gQ e,a]
def SC.TV {g:G}(h:SC n c):au c (.int 2) g=some (.int (cT c),g):=by
 cases h with
 |mk v bs t vw i hb hw ha=>simp[dP,HP];rfl
def SC.val (h:SC n c):au c (.int 0) a=some (Gu c,a):=by
 cases h with
 |mk v bs t vw g hb hw ha=>simp[dP,RC];rfl
def SC.view {g:G}(h:SC n c):au c (.int 3) g=some (cW c,g):=by
 cases h with
 |mk v bs t vw i hb hw ha=>simp[dP,HQ];rfl
structure iE (n o sh:Nat)(ks fs ss:List D):Prop where
 kl:ks.length=(aw n o sh).length
 fl:fs.length=n
 sl:ss.length=n
 ka:∀c∈ks,SC n c
 fa:∀c∈fs,SC n c
 sa:∀c∈ss,SC n c
noncomputable def cX (g:List D):List D:=g.flatMap λc=>[c,.ay]
def gy:(cX r).length=2*r.length:=by
 induction r with
 |nil=>rfl|cons c r g=>simp[cX]at g ⊢;lia
def rD {p:Nat}(h:r[p]? = some c):(cX r)[2*p]? = some c:=by
 induction r generalizing p with
 |nil=>simp at h
 |cons d r g =>
  cases p with
  |zero=>simp at h;subst h;rfl
  |succ p =>
   have:=g (p:=p) (by simpa using h);simp only[cX,SJ]at this ⊢;rw[show 2*(p+1)=2*p+2 by lia];simpa using this
noncomputable def cL (c fs g:List D):List D:=cX c++fs++g
noncomputable def sgn (n o sh:Nat)(c:List D)(j:Nat):Int:=cB (c.getD ((aw n o sh).idxOf j) .ay) o
noncomputable def ui (c:Nat)(fs g:List D)(j:Nat):Bool:=decide (c=1)&&decide (cT (fs.getD j .ay)≠cT (g.getD j .ay))
noncomputable def m8 (n o sh:Nat)(c fs g:List D)(j:Nat):Bool:=decide (sh=1)&&(decide (cB (fs.getD j .ay) o≠sgn n o sh c j)||decide (cB (g.getD j .ay) o≠sgn n o sh c j))
noncomputable def ju (n o g sh:Nat)(h fs c:List D):List Nat:=(dj n o).filter λj=>ui g fs c j||m8 n o sh h fs c j
def DZ {ks:List D}{a b:Int}(h:r.length=n)(i:Z.length=n)(k:1<=n)(j:a = -(2*(n:Int)))(l:b = -(n:Int)):pe (cL ks r Z) (some a) (some b)=r:=by
 have c:(cL ks r Z).length=(cX ks).length+n+n:=by simp[cL,h,i];lia
 unfold pe;have e:bj (cL ks r Z).length 0 (some a)=(cX ks).length:=by show(if a<0 then(a+((cL ks r Z).length:Int)).toNat else _)=_;rw[if_pos (by lia),c];lia
 have f:bj (cL ks r Z).length (cL ks r Z).length (some b)=(cX ks).length+n:=by show(if b<0 then(b+((cL ks r Z).length:Int)).toNat else _)=_;rw[if_pos (by lia),c];lia
 rw[e,f];unfold cL;rw[sP,T2,show(cX ks).length+n-(cX ks).length=r.length by lia,W0]
def A6 {ks:List D}{b:Int}(e:r.length=n)(f:Z.length=n)(i:1<=n)(h:b = -(n:Int)):pe (cL ks r Z) (some b) none=Z:=by
 have a:(cL ks r Z).length=(cX ks++r).length+n:=by simp[cL,e,f];lia
 unfold pe;have c:bj (cL ks r Z).length 0 (some b)=(cX ks++r).length:=by show(if b<0 then(b+((cL ks r Z).length:Int)).toNat else _)=_;rw[if_pos (by lia),a];lia
 rw[c,lV];unfold cL at a ⊢;rw[T2,a];exact Gw (by lia)
noncomputable def HR:FT:=aB (aj cY (aj au (aj au a7 a5) b4) (aj au (aj au bg a5) b4))
noncomputable def baZ:FS:=ax (aG (aj au (aj au (aj au a7 (aj bJ b4 ee)) ba) a5) (gN 9)) (bM (yk (aB (aj cY (aj au (aj au (aj au cJ eu) ba) a5) ew)) (aB (aj cY (aj au (aj au (aj au dV eu) ba) a5) ew))) (kC (gC isRef eZ d4 (aa eu ag))) aK)
noncomputable def xm (a:Fn):FS:=ax (fK (uN (ao a (aa a6 (aa a5 ag)))) (gT 2 (bV (gN 7) (bV (gN 8) gp))) baZ) (aH (pT d4))
noncomputable def OJ (num b a:Fn):FS:=ax (bM (aB (aj oEq (ao num (aa a6 (aa fk ag))) ba)) (aG (bA jx (cy (ao b (aa a6 (aa a5 ag)))) [none,none,some 4,some 5] (gN 1) HR a5) (gN 6)) aK) (xm a)
noncomputable def pY (num a b c:Fn):FS:=ax (aG (ao a (aa a6 ag)) (gN 3)) (ax (aG (cU a7 (aY (aj bJ (pf kQ b4) bg)) (aY (pf kQ bg))) (gN 4)) (ax (aG (cU a7 (aY (pf kQ bg)) eh) (gN 5)) (ax (aG (aI mkRef ag) (gN 6)) (OJ num b c))))
def SQ {j:Int}:cY (.int I) (.int j) a=some (.bl (decide (I≠j)),a):=by
 by_cases e:I=j
 . subst e;simp[cY,flat,dep,bB]
 . simp[cY,flat,dep,bB,e]
def D0 {xs:List D}(h:j<xs.length):cF xs j=some (xs.getD j .ay):=gQ (by rw[nK,lC h];rfl)
def XG {xs:List D}(h:j<xs.length):xs.getD j .ay∈xs:=by rw[nK,lC h];exact p6 h
def A7 {g:G}{σ:Sg}(k:C σ g=some (c,g))(j:σ[i]? = some (some (.int o)))(h:SC n c)(f:o<n):aj au (aj au C ba) (af i) σ g=some (.int (cB c o),g):=by
 have:=h.bit (g:=g) f;simp only[vX,k,k9,uL,oE,j];cases e:au c (.int 1) g with
 |none=>rw[e]at this;cases this
 |some r =>
  rw[e]at this;have a:r.2=g:=by
   cases h with
   |mk v bs t vw p hb hw ha=>simp[dP,HN]at e;rw[<- e]
  simp only[k9]at this ⊢;rw[a]at this;rw[a];simpa using this
def RE {g:G}(e:cF r j=some c)(a:cF Z j=some d)(b:au c (.int 2) g=some (.int (cT c),g))(f:au d (.int 2) g=some (.int (cT d),g)):HR [none,some (.int j),some (.tup r),some (.tup Z)] g=some (decide (cT c≠cT d),g):=by unfold HR;rw[cN,cp (d:=.int (cT c)) (d':=.int (cT d)) (g1:=g) (g2:=g) (by simp[dP,aW,e,b]) (by simp[dP,aW,a,f]),SQ];rfl
section
variable {g:G}
theorem xn (R:iE n o i r Z w):∀(l:List Nat),(∀j∈l,j<n)->∀u,cQ (gN 1) HR a5 (dN l) [none,u,some (.tup Z),some (.tup w)] g=some (dN (l.filter λj=>decide (cT (Z.getD j .ay)≠cT (w.getD j .ay))),g)
 | [],_,_=>rfl
 |j::l,h,u=>by
  have v:=xn R l (λsh e=>h sh (by simp[e])) (some (.int j));have a:=h j (by simp);have b:=(R.fa _ (XG (xs:=Z) (j:=j) (by rw[R.fl];exact a))).TV (g:=g);have k:=(R.sa _ (XG (xs:=w) (j:=j) (by rw[R.sl];exact a))).TV (g:=g);have f:=D0 (xs:=Z) (j:=j) (by rw[R.fl];exact a);have c:=D0 (xs:=w) (j:=j) (by rw[R.sl];exact a);have q:=RE (g:=g) f c b k;simp only[dN,wh]at v ⊢;simp only[cQ];rw[show gN 1 (D.int j) [none,u,some (.tup Z),some (.tup w)] g=some ([none,some (.int j),some (.tup Z),some (.tup w)],g) from rfl];simp only[k9,q,v];by_cases p:cT (Z.getD j .ay)≠cT (w.getD j .ay)
  . rw[X3,if_pos (decide_eq_true p),if_pos (decide_eq_true p),show a5 [none,some (D.int j),some (.tup Z),some (.tup w)] g=some (.int j,g) from rfl,k9,v]
    rfl
  . rw[X3,if_neg (by simpa using p),if_neg (by simpa using p)]
end
def RF {y z:Int}(f:C h a=some (.int I,a))(i:s h a=some (.int y,a))(e:h[9]? = some (some (.int z))):yk (aB (aj cY C ew)) (aB (aj cY s ew)) h a=some (decide (I≠z)||decide (y≠z),a):=by
 have g:aB (aj cY C ew) h a=some (decide (I≠z),a):=by rw[cN,vX,f];simp only[k9,oE,e,SQ,d5]
 have b:aB (aj cY s ew) h a=some (decide (y≠z),a):=by rw[cN,vX,i];simp only[k9,oE,e,SQ,d5]
 rw[Cr,g,k9,b];by_cases c:I≠z
 . rw[if_pos (decide_eq_true c),decide_eq_true c];rfl
 . rw[if_neg (by simpa using c),decide_eq_false c];rfl
def OK {b:Bool}(q:t h a=some (b,a))(g:h[6]? = some (some (.ref i)))(f:h[8]? = some (some (.int j)))(e:a[i]? = some (dN X))(hz:X.length<900):bM t (kC (gC isRef eZ d4 (aa eu ag))) aK h a=some (.nx,h,a.set i (dN (X++if b then [j]else []))):=by
 have z:aC ((dN X).length+1)=true:=aR (by rw[bW];lia);rw[vY,q];cases b with
 |true =>
  rw[bW]at z;simp[g,f,e,z,dN]
 |false =>
  obtain⟨c,L⟩:=l8.mp e;simp only[k9,pA,if_false,tA];rw[<- L,L6];rfl
noncomputable def m_ (m:D)(o n q:Nat)(W fs g:List D)(a b c:Option D):Sg:=[some m,some (.int o),some (.tup W),some (.int n),some (.tup fs),some (.tup g),some (.ref q),a,b,c]
section
variable {m:D}
theorem zm (R:iE n o i r Z w)(A:o<n)(C:n<=5)(B:i=1):∀(J:Nat) (p:Nat) (L:List Nat) (q:Nat) (g:G) (O Q H:Option D),p+J=(aw n o i).length->g[q]? = some (dN L)->L.length+J<=18 ->
  ∃E,forL (gT 2 (bV (gN 7) (bV (gN 8) gp))) baZ (((dN (aw n o i)).zipIdx.drop p).map λx=>.tup [.int (x.2:Nat),x.1]) (m_ m o n q (cL r Z w) Z w O Q H) g=some (.nx,E,g.set q (dN (L++((aw n o i).drop p).filter λj=>m8 n o i r Z w j)))/\E[6]? = some (some (.ref q))
 | 0,p,L,q,g,O,Q,H,hp,hq,f=>by have e:(aw n o i).drop p = []:=ZZ.mpr (by lia);have U:(dN (aw n o i)).zipIdx.drop p = []:=ZZ.mpr (by simp[bW];lia);refine⟨m_ m o n q (cL r Z w) Z w O Q H,?_,rfl⟩;rw[e,U];simp only[agL,forL,ahH,tA];obtain⟨f,v⟩:=l8.mp hq;rw[<- v,L6]
 |J+1,p,L,q,g,O,Q,H,hp,hq,f=>by
  have a:p<(aw n o i).length:=by lia
  have k:=p6 a;generalize c:(aw n o i)[p]=j at k;obtain⟨_,b,y⟩:=iW.mp k;have sh:p<r.length:=by rw[R.kl];exact a
  have Y:r[p]? = some (r.getD p .ay):=by rw[nK,lC sh];rfl
  have s:(aw n o i).idxOf j=p:=by rw[<- c];exact OI.idxOf_getElem p a
  have u:=R.ka _ (XG (xs:=r) sh);have Zc:=R.fa _ (XG (xs:=Z) (j:=j) (by rw[R.fl];exact b));have Zd:=R.sa _ (XG (xs:=w) (j:=j) (by rw[R.sl];exact b));have x0:(cL r Z w)[2*p]? = some (r.getD p .ay):=by unfold cL;rw[sP,m5 (by rw[gy];lia)];exact rD Y
  have l:(aw n o i).drop p=j::(aw n o i).drop (p+1):=by rw[MP a,c]
  have d2:(dN (aw n o i)).zipIdx.drop p=(.int j,p)::(dN (aw n o i)).zipIdx.drop (p+1):=by rw[MP (by simp[bW];exact a)];congr 1;simp[dN,c]
  have I:=(l8.mp hq).1;have hz:aC ((dN L).length+1)=true:=aR (by rw[bW];lia);have Ze:sgn n o i r j=cB (r.getD p .ay) o:=by unfold sgn;rw[s]
  have h:=gQ x0;rw[show((2*p:Nat):Int)=2*(p:Int) by simp]at h;have om:cu 2 (p:Int)=true:=rfl;have x1:=D0 (xs:=Z) (j:=j) (by rw[R.fl];exact b);have x2:=D0 (xs:=w) (j:=j) (by rw[R.sl];exact b);have step:baZ (m_ m o n q (cL r Z w) Z w (some (.int p)) (some (.int j)) H) g=some (.nx,m_ m o n q (cL r Z w) Z w (some (.int p)) (some (.int j)) (some (.int (sgn n o i r j))),g.set q (dN (L ++ [j].filter λj=>m8 n o i r Z w j))):=by rw[X3,ahH];unfold m8;rw[decide_eq_true B,afc,Ze];exact bf (A7 (by simp[m_,om,dP,aW,h]) rfl u A) (OK (RF (A7 (by simp[m_,dP,aW,x1]) rfl Zc A) (A7 (by simp[m_,dP,aW,x2]) rfl Zd A) rfl) rfl rfl hq (by lia))
  obtain⟨E,e,z⟩:=zm R A C B J (p+1) (L ++ [j].filter λj=>m8 n o i r Z w j) q (g.set q (dN (L ++ [j].filter λj=>m8 n o i r Z w j))) (some (.int p)) (some (.int j)) (some (.int (sgn n o i r j))) (by lia) (ua I) (by have:=LW (λj=>m8 n o i r Z w j) [j];simp only[lN,vq,ahz]at this ⊢;lia)
  refine⟨E,?_,z⟩;rw[d2,l,wh];simp only[forL];rw[Y_];simp only[k9,m_,ae4,ae3]at step e ⊢;rw[step];simp only[k9];rw[e,PL,sP,<- ae_];rfl
end
section
variable {n o tg sh:Nat}{m:D}{ks fs ss:List D}{g:G}{num hands aS aD:Fn}
def zo:j∈ju n o tg sh ks fs ss ↔ (j∈dj n o/\ui tg fs ss j=true)\/(j∈aw n o sh/\m8 n o sh ks fs ss j=true):=by
 unfold ju;rw[ro,uG];constructor
 . rintro⟨h,a|a⟩
   . exact .inl ⟨h,a⟩
   . refine .inr ⟨?_,a⟩
     have:sh=1:=by unfold m8 at a;simp at a;exact a.1
     rw[iW];exact⟨this,fI.mp h⟩
 . rintro(⟨h,a⟩|⟨h,a⟩)
   . exact⟨h,.inl a⟩
   . exact⟨fI.mpr (iW.mp h).2,.inr a⟩
def D1:(ju n o tg sh ks fs ss).Nodup:=xk.sublist Nx
def OM:(ju n o tg sh ks fs ss).Pairwise (· <= ·):=by
 have:(nN n).Pairwise (· <= ·):=af6.imp λh=>Sx h
 exact(this.sublist (Nx (p:=λj=>!(j == o)))).sublist Nx
def Ku:(ju n o tg sh ks fs ss).length<=n:=n7 (LW _ _) lK
structure zq (m:D)(n o tg sh:Nat)(num hands aS aD:Fn):Prop where
 hh:∀g,hands [m] g=some (.int n,g)
 ht:∀g,num [m,.str "toggles"] g=some (.int tg,g)
 ho:∀g,aS [m,.int o] g=some (.lst (dN (dj n o)),g)
 hs:∀g,aD [m,.int o] g=some (.lst (dN (aw n o sh)),g)
 on:o<n
 n5:n<=5
noncomputable def mσ (m:D)(o n:Nat)(ks fs ss:List D)(q:Nat):Sg:=m_ m o n q (cL ks fs ss) fs ss none none none
def D2 (S:zq m n o tg sh num hands aS aD)(R:iE n o sh ks fs ss){L:List Nat}(y:g[i]? = some (dN L))(A:L.length<=10)(z:∀j,j∈ju n o tg sh ks fs ss ↔ j∈L\/(j∈aw n o sh/\m8 n o sh ks fs ss j=true)):∃p H,xm aD (mσ m o n ks fs ss i) g=some (.rt (.lst (dN (ju n o tg sh ks fs ss))),p,H):=by
 have B:=(l8.mp y).1;have fin:∀(a:List Nat) (p:Sg),p[6]? = some (some (.ref i))->a.length<=18->(∀j,j∈ju n o tg sh ks fs ss ↔ j∈a)->aH (pT d4) p (g.set i (dN a))=some (.rt (.lst (dN (ju n o tg sh ks fs ss))),p,g.set i (dN a)):=λa p c v h=>by
   have e:=DX h D1 OM;have C:=(adT (bU (λq=>(a.map λ(j:Nat)=>(j:Int)).getD q 0) (a.map λ(j:Nat)=>(j:Int)).length)).length_eq.symm.trans (congrArg aeS e)
   replace C:=Y1 C
   replace C:=n7 C (n7 (n7 (Y1 (oY _)) (LW _ _)) ((show ∀n,n<=5->∀o,o<n->(dj n o).length<=4 by decide) n S.n5 o S.on))
   have l:fq (dN a)=some (a.map λ(j:Nat)=>(j:Int)):=by have:=baE (a.map λ(j:Nat)=>(j:Int));rw[Dd]at this;exact this
   rw[yw,yY];simp only[oE,c,k9,iZ,ua B,l];have r:∀q,q<(a.map λ(j:Nat)=>(j:Int)).length->0<=(a.map λ(j:Nat)=>(j:Int)).getD q 0/\(a.map λ(j:Nat)=>(j:Int)).getD q 0<=7:=λq b=>by rw[oY]at b;have:a[q]< n:=(fI.mp (ro.mp ((h _).mpr (p6 b))).1).1;have:=S.n5;rw[nK,m2,lC b];exact⟨ae5 _,by show(a[q]:Int)<=7;lia⟩
   rw[if_pos (decide_eq_true ⟨C,r⟩),e];simp[dN,Dd,MZ]
 unfold xm;by_cases E:sh=1
 . obtain⟨p,e,c⟩:=zm (m:=m) R S.on S.n5 E (aw n o sh).length 0 L i g none none none (by lia) y (by have:=gZ (n:=n) (o:=o) (sh:=sh);have:=S.n5;lia)
   rw[ad2,ad2]at e;refine⟨_,_,aN (σ1:=p) ?_ (fin (L++(aw n o sh).filter λj=>m8 n o sh ks fs ss j) p c ?_ λj=>?_)⟩
   . rw[lq,wc,show ao aD (aa a6 (aa a5 ag)) (mσ m o n ks fs ss i) g=_ from S.hs g]
     exact e
   . have u:=LW (λj=>m8 n o sh ks fs ss j) (aw n o sh)
     have x:=gZ (n:=n) (o:=o) (sh:=sh);have:=S.n5;rw[lN];lia
   . rw[z j,mF,ro]
 . have f:aw n o sh = []:=by unfold aw;rw[if_neg E]
   have k:=S.hs g;rw[f]at k;refine⟨_,_,aN (σ1:=mσ m o n ks fs ss i) ?_ (fin L _ rfl (by lia) λj=>?_)⟩
   . rw[lq,wc,show ao aD (aa a6 (aa a5 ag)) (mσ m o n ks fs ss i) g=_ from k]
     obtain⟨A,s⟩:=l8.mp y;rw[<- s,L6];rfl
   rw[z j,f];simp
def ON (S:zq m n o tg sh num hands aS aD)(R:iE n o sh ks fs ss):aq false 10 3 (pY num hands aS aD) [m,.int o,.tup (cL ks fs ss)] []=some (.lst (dN (ju n o tg sh ks fs ss)),[]):=by
 have l:1<=n:=by have:=S.on;lia
 have p:∃f i,pY num hands aS aD ([m,.int o,.tup (cL ks fs ss)].map some++l6 (10-3) none) []=some (.rt (.lst (dN (ju n o tg sh ks fs ss))),f,i):=by
  have v:cu (-2) (n:Int)=true:=rfl;have r:=DZ (ks:=ks) (a:=-2*(n:Int)) (b:=-(n:Int)) R.fl R.sl l (by lia) rfl;have s:=A6 (ks:=ks) (b:=-(n:Int)) R.fl R.sl l rfl
  suffices h:∃f i,OJ num aS aD (mσ m o n ks fs ss 0) [[]]=some (.rt (.lst (dN (ju n o tg sh ks fs ss))),f,i) by obtain⟨f,i,h⟩:=h;exact⟨f,i,bf (S.hh []) (bf (d:=.tup fs) (g1:=[]) (by simp[fM,v,r]) (bf (d:=.tup ss) (g1:=[]) (by simp[fM,s]) (bf (d:=.ref 0) (g1:=[[]]) rfl h)))⟩
  by_cases h:tg=1
  . have z:aC (dj n o).length=true:=aR (by have:=lK (n:=n) (o:=o);have:=S.n5;lia)
    have c:=xn (g:=[[]]) R (dj n o) (λj x=>(fI.mp x).1) none;have y:(λj=>ui tg fs ss j)=λj=>decide (cT (fs.getD j .ay)≠cT (ss.getD j .ay)):=by funext j;simp[ui,h]
    rw[<- y]at c
    suffices k:∃f i,xm aD (mσ m o n ks fs ss 1) [[],dN ((dj n o).filter λj=>ui tg fs ss j)]=some (.rt (.lst (dN (ju n o tg sh ks fs ss))),f,i) by obtain⟨f,i,e⟩:=k;exact⟨f,i,aN ((iS (g1:=[[]]) (by simp[mσ,m_,S.ht,d5,h])).trans (ij (d:=.ref 1) (by simp[mσ,m_,S.ho,cy,aW,bW,z,cq,c,jx]))) e⟩
    refine D2 S R (L:=(dj n o).filter λj=>ui tg fs ss j) rfl ?_ λj=>?_
    . have h1:=LW (λj=>ui tg fs ss j) (dj n o)
      have:=lK (n:=n) (o:=o);have:=S.n5;lia
    . rw[zo,ro]
  . have u:¬((tg:Int)=1):=by lia
    suffices k:∃f i,xm aD (mσ m o n ks fs ss 0) [[]]=some (.rt (.lst (dN (ju n o tg sh ks fs ss))),f,i) by obtain⟨f,i,e⟩:=k;exact⟨f,i,aN ((bP (g1:=[[]]) (by simp[mσ,m_,S.ht,d5,u])).trans rfl) e⟩
    refine D2 S R (L:=[]) rfl (by simp) λj=>?_;rw[zo];simp[ui,h]
 obtain⟨f,i,e⟩:=p;have w:k0 (aq false 10 3 (pY num hands aS aD) [m,.int o,.tup (cL ks fs ss)] []) λq=>q=(.lst (dN (ju n o tg sh ks fs ss)),[]):=by refine jO rfl ?_;rw[e];simp only[gr];refine⟨?_,by simp,by simp,by simp⟩;simp only[bR];exact dR _ lJ
 obtain⟨q,e,rfl⟩:=w;exact e
end
mutual
theorem gO:∀d:D,flat d=true->jE d=true
 |.ay,_=>rfl|.bl _,_=>rfl|.int _,_=>rfl|.str _,_=>rfl|.tup c,h=>by simp only[jE];exact gj c (by simpa[flat]using h)|.lst c,h=>by simp only[jE];exact gj c (by simpa[flat]using h)|.eI,_=>rfl|.ref _,_=>rfl|.bq _,_=>rfl|.fn _ _,h=>by simp[flat]at h
theorem gj:∀ds:List D,bC ds=true->fZ ds=true
 | [],_=>rfl|d::ds,h=>by simp only[bC,la]at h;simp only[fZ,gO d h.1,gj ds h.2,aeg]
end
def gP (h:∀d∈r,flat d=true):bC r=true:=by
 induction r with
 |nil=>rfl|cons d r c=>simp only[bC,h d (by simp),c λx a=>h x (by simp[a]),aeg]
def oR {k:Nat}(h:∀d∈r,dep d<=k):dA r<=k:=by
 induction r with
 |nil=>simp[dA]|cons d r c=>simp only[dA];exact Nat.max_le.mpr ⟨h d (by simp),c λx a=>h x (by simp[a])⟩
theorem SC.flat {n:Nat}{c:D}(h:SC n c):_root_.flat c=true:=by
 cases h with
 |mk v bs t vw g hb hw ha =>
  have a:bC (bs.map D.int)=true:=gP λd hd=>by obtain⟨i,_,rfl⟩:=mM.mp hd;rfl
  have b:bC vw=true:=gP λd hd=>(ha d hd).1;simp[_root_.flat,bC,g.1,a,b]
theorem SC.dep {n:Nat}{c:D}(h:SC n c):_root_.dep c<=9:=by
 cases h with
 |mk v bs t vw g hb hw ha =>
  have a:dA (bs.map D.int)<=5:=oR λd hd=>by obtain⟨i,_,rfl⟩:=mM.mp hd;simp[_root_.dep]
  have b:dA vw<=5:=oR λd hd=>n7 (ha d hd).2 (by decide);have:=g.2;simp only[_root_.dep,dA];lia
noncomputable def A8:FE:=aj au (aj au a5 ba) a6
def Kv (h:SC n c)(f:o<n):cR (bF 1 1 A8) [.int o,c] a=some (.int (cB c o),a):=by
 have g:fZ [.int o,c]=true:=by simp[fZ,jE,gO c h.flat]
 have b:aP 0 [.int o,c]=true:=by simp[aP,bR,dC c h.flat]
 have e:bF 1 1 A8 [.int o,c] []=some (.int (cB c o),[]):=by unfold bF;rw[if_pos (show [D.int o,c].length=1+1 from rfl)];exact A7 (σ:=[some (.int o),some c]) rfl rfl h f
 unfold cR fD;rw[if_pos g,if_pos b,e];rfl
noncomputable def iF (R:Str->Option Fn):FS:=ax (aG (aj (bD dS (· / ·)) (ao bw (aa bg ag)) b4) (gN 4)) (ax (bM (aB (aj oEq (aj (bD cI (· % ·)) (ao bw (aa bg ag)) b4) b0)) (aH (aI aA (aa ft (aa (aj au a6 cJ) ag)))) aK) (aH (aI aA (aa (fC (.str "write")) (aa (aj au a5 cJ) (aa (e_ R 2 (aa (aj au bg (pf kQ ba)) ag)) ag))))))
def rE {p:Nat}(l:w.length=2*p)(k:r[p]? = some d):aq false 5 4 (iF R) [.lst r,.lst Z,c,.tup w] a=some (.tup [.str "read",d],a):=by
 have j:((w.length:Int) / 2)=(p:Int):=by lia
 have h:((w.length:Int) % 2)=0:=by lia
 have b:aC 2=true:=rfl;have e:dS (w.length:Int) 2=true:=rfl;have f:cI (w.length:Int) 2=true:=rfl;refine aU (σ':=[some (.lst r),some (.lst Z),some c,some (.tup w),some (.int p)]) rfl ?_ rfl;have x:=gQ k;simp[iF,e,f,j,h,x,b]
def uj {fn:Fn}{cap:List D}{p:Nat}(hR:R x=some fn)(s:fn (cap ++ [c]) a=some (b,a))(nm:(w ++ [c]).length=2*p+1)(u:Z[p]? = some d):aq false 5 4 (iF R) [.lst r,.lst Z,.fn x cap,.tup (w ++ [c])] a=some (.tup [.str "write",d,b],a):=by
 have k:w.length=2*p:=by simpa using nm
 have l:(((w ++ [c]).length:Int) / 2)=(p:Int):=by rw[nm];lia
 have f:¬(((w ++ [c]).length:Int) % 2)=0:=by rw[nm];lia
 have e:aC 3=true:=rfl;have h:dS ((w ++ [c]).length:Int) 2=true:=rfl;have i:cI ((w ++ [c]).length:Int) 2=true:=rfl;have q:=gQ u;have g:cF (w ++ [c]) (-1)=some c:=EG w c;generalize j:w ++ [c]=W at *;refine aU (σ':=[some (.lst r),some (.lst Z),some (.fn x cap),some (.tup W),some (.int p)]) rfl ?_ rfl;have ec:e_ R 2 (aa (aj au bg (pf kQ ba)) ag) [some (.lst r),some (.lst Z),some (.fn x cap),some (.tup W),some (.int p)] a=some (b,a):=by rw[uf (y:=x) (ds:=cap) (fn:=fn) rfl hR];simp[dP,aW,g,s]
 simp[iF,h,i,l,f,q,e,ec]
noncomputable def de (o j:Nat):D:=.tup [.str "sign",.int o,.int j]
noncomputable def LJ (o:Nat)(a:Nat×D):List D:=[.tup [.str "read",own "own" a.1],.tup [.str "write",de o a.1,.int (cB a.2 o)]]
noncomputable def xp (n o sh:Nat)(c:List D):List D:=((aw n o sh).zip c).flatMap (LJ o)++pB "own" n++pB "own" n
theorem ff {o:Nat}:∀{l:List (Nat×D)},(l.flatMap (LJ o)).length=2*l.length
 | []=>rfl|x::l=>by rw[SJ,lN,ff];simp[LJ];lia
theorem pZ {o:Nat}:∀{l:List (Nat×D)} {p:Nat} {x:Nat×D},l[p]? = some x->(l.flatMap (LJ o))[2*p]? = some (.tup [.str "read",own "own" x.1])
 | [],p,x,h=>by simp at h|y::l,0,x,h=>by simp at h;subst h;rfl|y::l,p+1,x,h=>by have:=pZ (o:=o) (l:=l) (p:=p) (x:=x) (by simpa using h);rw[SJ,show 2*(p+1)=(LJ o y).length+2*p by simp[LJ];lia,th (by lia)];simpa using this
theorem sA {o:Nat}:∀{l:List (Nat×D)} {p:Nat} {x:Nat×D},l[p]? = some x->(l.flatMap (LJ o))[2*p+1]? = some (.tup [.str "write",de o x.1,.int (cB x.2 o)])
 | [],p,x,h=>by simp at h|y::l,0,x,h=>by simp at h;subst h;rfl|y::l,p+1,x,h=>by have:=sA (o:=o) (l:=l) (p:=p) (x:=x) (by simpa using h);rw[SJ,show 2*(p+1)+1=(LJ o y).length+(2*p+1) by simp[LJ];lia,th (by lia)];simpa using this
def iE.zl (R:iE n o i r Z w):((aw n o i).zip r).length=(aw n o i).length:=by rw[BU,R.kl];lia
def iE.wl (R:iE n o i r Z w):(cL r Z w).length=2*(aw n o i).length+2*n:=by simp[cL,gy,R.kl,R.fl,R.sl];lia
def iE.Lq (R:iE n o j r Z w)(b:1<=n)(a:2*(aw n o j).length<=i)(f:i<2*(aw n o j).length+2*n):(xp n o j r)[i]? = some (.tup [.str "read",own "own" ((i-2*(aw n o j).length) % n)]):=by
 unfold xp;rw[sP,th (by rw[ff,R.zl];exact a),ff,R.zl];have c:i-2*(aw n o j).length<2*n:=by lia
 generalize i-2*(aw n o j).length=e at *;have ub:∀{e:Nat},e<n->(pB "own" n)[e]? = some (.tup [.str "read",own "own" e]):=fun {e} h=>by simp[pB,h]
 by_cases h:e<n
 . rw[m5 (by rw[sv];exact h),afK h];exact ub h
 . rw[th (by rw[sv];lia),sv,Nat.mod_eq_sub_mod (by lia),afK (by lia)];exact ub (by lia)
noncomputable def F0:FE:=bA bH (cy bg) [none,none] (gN 1) b9 (aI aA (aa eW (aa a5 ag)))
noncomputable def F3:FE:=bA bH (cy bg) [none,none,some 1] (gN 1) b9 (aI aA (aa fy (aa a7 (aa a5 ag))))
noncomputable def zr (a b c:Fn)(nm:Str):FS:=ax (aG (ao b (aa a6 (aa a5 ag))) (gN 3)) (ax (bM (aB (aj oLt (ao bw (aa a7 ag)) (aj bJ b4 (ao bw (aa bg ag))))) (ax (aG F0 (gN 4)) (ax (aG F3 (gN 5)) (aH (ao (gI c) (aa cJ (aa dV (aa (my nm [1]) (aa a7 ag)))))))) aK) (aH (aI aA (aa ft (aa (aI aA (aa eW (aa (aj (bD cI (· % ·)) (aj (bD cA (· - ·)) (ao bw (aa a7 ag)) (aj bJ b4 (ao bw (aa bg ag)))) (ao a (aa a6 ag))) ag))) ag)))))
theorem iE.flat (R:iE n o i r Z w):∀x∈cL r Z w,_root_.flat x=true:=λx a=>by
 unfold cL cX at a;rcases mF.mp a with a|a
 . rcases mF.mp a with a|a
   . obtain⟨c,b,a⟩:=ahq.mp a
     simp only[l2,A9,or_false]at a;rcases a with rfl|rfl
     . exact(R.ka _ b).flat
     . rfl
   . exact(R.fa _ a).flat
 . exact(R.sa _ a).flat
def OO (hz:X.length<=20)(i:B[3]? = some (some (.lst (dN X)))):F0 B a=some (.lst (X.map λj=>own "own" j),a):=by
 have f:aC X.length=true:=aR (by lia);have b:aC 2=true:=rfl;have c:=dG (t:=gN 1) (c:=b9) (e:=aI aA (aa eW (aa a5 ag))) (h:=λd=>D.tup [.str "own",d]) (λB=>∃S,B = [none,S]) (dN X) [none,none] a ⟨_,rfl⟩ (by rintro t hm B ⟨S,rfl⟩;exact⟨[none,some t],by simp,by simp,by simp[b],_,rfl⟩)
 simp[F0,i,cy,aW,bW,cq,c,bH,f];simp[dN,own,MZ]
def OP (hz:X.length<=20)(i:B[1]? = some (some (.int o)))(k:B[3]? = some (some (.lst (dN X)))):F3 B a=some (.lst (X.map λj=>de o j),a):=by
 have f:aC X.length=true:=aR (by lia);have b:aC 3=true:=rfl;have c:=dG (t:=gN 1) (c:=b9) (e:=aI aA (aa fy (aa a7 (aa a5 ag)))) (h:=λd=>D.tup [.str "sign",.int o,d]) (λB=>∃S,B = [none,S,some (.int o)]) (dN X) [none,none,some (.int o)] a ⟨_,rfl⟩ (by rintro t hm B ⟨S,rfl⟩;exact⟨[none,some t,some (.int o)],by simp,by simp,by simp[b],_,rfl⟩)
 simp[F3,i,k,cy,aW,bW,cq,c,bH,f];simp[dN,de,MZ]
def iX {g:G}(b:aP 0 r=true)(c:l r []=some (d,[]))(a:flat d=true):gI l r g=some (d,g):=by unfold gI fD;rw[if_pos b,c];simp only[k9];rw[if_pos (dC d a)];simp only[k9];rw[if_pos (gO d a)]
def RG {sh:Nat}{g:G}(hR:R x=some (cR (bF 1 1 A8)))(S:zq c n o j sh l q m k)(E:iE n o sh r Z w)(B:i<2*(aw n o sh).length+2*n):
   ∃num,(xp n o sh r)[i]? = some num/\aq false 6 3 (zr q k (aq false 5 4 (iF R)) x) [c,.int o,.tup ((cL r Z w).take i)] g=some (num,g):=by
 have u:=E.wl;have n5:=S.n5;have v:1<=n:=by have:=S.on;lia
 have sl:=gZ (n:=n) (o:=o) (sh:=sh);have lt:((cL r Z w).take i).length=i:=by rw[yX,u];lia
 have nm:cu 2 ((aw n o sh).length:Int)=true:=rfl;by_cases h:i<2*(aw n o sh).length
 . have b:i / 2<(aw n o sh).length:=by lia
   have f:i / 2<r.length:=by rw[E.kl];exact b
   have H:((aw n o sh).zip r)[i / 2]? = some ((aw n o sh)[i / 2],r[i / 2]):=by rw[adJ];exact⟨lC b,lC f⟩
   have I:aP 0 ((aw n o sh).map λC=>own "own" C)=true:=gX λnum a=>by obtain⟨C,_,rfl⟩:=mM.mp a;rfl
   have J:aP 0 ((aw n o sh).map λC=>de o C)=true:=gX λnum a=>by obtain⟨C,_,rfl⟩:=mM.mp a;rfl
   have z:aP 0 ((cL r Z w).take i)=true:=gX λnum a=>dC num (E.flat num (M3 a));obtain⟨num,y,A,a⟩:∃num,(((aw n o sh).zip r).flatMap (LJ o))[i]? = some num/\flat num=true/\aq false 5 4 (iF R) [.lst ((aw n o sh).map λC=>own "own" C),.lst ((aw n o sh).map λC=>de o C),.fn x [.int o],.tup ((cL r Z w).take i)] []=some (num,[]):=by
     by_cases Y:i % 2=0
     . have:=pZ (o:=o) H
       rw[show 2*(i / 2)=i by lia]at this;exact⟨_,this,rfl,rE (p:=i / 2) (by rw[lt];lia) (by rw[m2,lC b];rfl)⟩
     . have O:(cL r Z w)[2*(i / 2)]? = some r[i / 2]:=by
         unfold cL;rw[sP,m5 (by rw[gy];lia)];exact rD (lC f)
       have e:(cL r Z w).take i=(cL r Z w).take (2*(i / 2)) ++ [r[i / 2]]:=by
         conv=>lhs;rw[show i=2*(i / 2)+1 by lia]
         rw[aeQ,O];rfl
       have:=sA (o:=o) H;rw[show 2*(i / 2)+1=i by lia]at this;refine⟨_,this,rfl,?_⟩;rw[e];refine uj (p:=i / 2) hR (Kv (E.ka _ (p6 f)) S.on) ?_ ?_
       . rw[<- e,lt];lia
       . rw[m2,lC b];rfl
   refine⟨num,?_,?_⟩
   . unfold xp
     rw[sP,m5 (by rw[ff,E.zl];exact h)];exact y
   generalize (cL r Z w).take i=W at *;refine aU rfl (bf (S.hs g) (lE ((iS (g1:=g) ?_).trans (bf (OO (by lia) rfl) (bf (OP (o:=o) (by lia) rfl rfl) (cw (iX (by simp[aP,bR,I,J,z]) a A))))))) rfl;simp[bW,nm,d5,lt];lia
 . refine⟨_,E.Lq v (by lia) B,?_⟩
   have fs:aC 2=true:=rfl;have s:cI ((i:Int)-2*((aw n o sh).length:Int)) (n:Int)=true:=eO (by lia);have Q:((i:Int)-2*((aw n o sh).length:Int)) % (n:Int)=(((i-2*(aw n o sh).length) % n:Nat):Int):=by rw[show(i:Int)-2*((aw n o sh).length:Int)=((i-2*(aw n o sh).length:Nat):Int) by lia];exact(Int.natCast_emod _ _).symm
   have U:¬((i:Int)<2*((aw n o sh).length:Int)):=by lia
   generalize (cL r Z w).take i=W at *;refine aU rfl (bf (S.hs g) (aN (g1:=g) ((bP (g1:=g) (by simp[bW,nm,d5,lt,U])).trans rfl) (cw ?_))) rfl;simp[bW,nm,lt,S.hh g,s,Q,fs,own]
noncomputable abbrev R3:=List D×List D×List D
noncomputable def bY (r:R3):List D:=cL r.1 r.2.1 r.2.2
noncomputable def bZ (n o sh:Nat):Nat:=2*(aw n o sh).length+2*n
noncomputable def V6:FS:=aH (aI aA (aa (aI aA (aa eR (aa (aj au (aj au ee (aj au dV ba)) eL) ag))) (aa d4 ag)))
noncomputable def OR:FS:=ax (bM (aB (aj jk (aj au dV ba) er)) (aH (aI aA (aa (aI aA (aa eR (aa (ao fL (aa (bA bH (cy ee) [none,none] (gN 1) b9 (aj au a5 b0)) ag)) ag))) (aa d4 ag)))) aK) V6
noncomputable def V7:FS:=ax (aG (cU a7 (aY (aj (bD cA (· - ·)) d4 bg)) (aY d4)) (gN 7)) OR
noncomputable def V8:FS:=ax (aG (aj aJ (aj au dV b0) cJ) (gN 6)) V7
noncomputable def OS (rstep:Fn):FS:=ax (bM (aB (aj jk dV er)) (aH (aI aA (aa (ao rstep (aa a6 (aa a5 (aa (cU a7 (aY (aj bJ (aj (bD dS (· / ·)) (ao bw (aa a7 ag)) cJ) cJ)) eh) ag)))) (aa (ao bw (aa a7 ag)) ag)))) aK) V8
noncomputable def V9 (num a rstep:Fn)(nm:Str):FS:=ax (aG (ao (gI a) (aa cJ (aa cJ (aa (ao num (aa a6 (aa hY ag))) (aa a7 (aa (my nm [0,1]) ag)))))) (gN 5)) (OS rstep)
noncomputable def zt (num a c b rstep:Fn)(nm:Str):FS:=ax (aG (ao a (aa a6 ag)) (gN 3)) (ax (aG (aj aJ (aj bJ b4 (ao bw (aa (ao c (aa a6 (aa a5 ag))) ag))) (aj bJ b4 bg)) (gN 4)) (V9 num b rstep nm))
noncomputable def ng (a:Fn):FE:=ao a (aa a6 (aa a5 (aa a7 ag)))
section
variable {n o tg sh mo:Nat}{m:D}{g:G}{num hands aS aD:Fn}{rs:List R3}
structure pC (n o sh:Nat)(rs:List R3):Prop where
 all:∀r∈rs,iE n o sh r.1 r.2.1 r.2.2
 dU:rs.length<=20
noncomputable def jF (n o tg sh:Nat)(r:R3):List Nat:=ju n o tg sh r.1 r.2.1 r.2.2
def pC.D3 (S:zq m n o tg sh num hands aS aD)(y:flat m=true)(W:pC n o sh rs):xh (cR (bF 2 1 (ng (aq false 10 3 (pY num hands aS aD))))) [m,.int o] (bZ n o sh) (rs.map bY) (rs.map (jF n o tg sh)):=by
 have x:1<=n:=by have:=S.on;lia
 refine⟨λw hw=>?_,by simp,by unfold bZ;lia,by simpa using W.dU,λi f=>?_⟩
 . obtain⟨r,v,rfl⟩:=mM.mp hw
   exact(W.all r v).wl
 . have a:i<rs.length:=by simpa using f
   have s:(rs.map bY).getD i []=bY rs[i]:=by simp[nK,m2,lC a]
   have q:(rs.map (jF n o tg sh)).getD i []=jF n o tg sh rs[i]:=by simp[nK,m2,lC a]
   have R:=W.all _ (p6 a);rw[s,q];refine⟨λg=>?_,D1,by have:=Ku (n:=n) (o:=o) (tg:=tg) (sh:=sh) (ks:=rs[i].1) (fs:=rs[i].2.1) (ss:=rs[i].2.2);have:=S.n5;show(ju _ _ _ _ _ _ _).length<=20;lia⟩;have b:bC (bY rs[i])=true:=gP R.flat;have u:fZ ([m,.int o] ++ [.tup (bY rs[i])])=true:=by simp[fZ,jE,gO m y,gj _ b]
   have j:aP 0 ([m,.int o] ++ [.tup (bY rs[i])])=true:=by simp[aP,bR,dC m y,dR _ b]
   have e:bF 2 1 (ng (aq false 10 3 (pY num hands aS aD))) ([m,.int o] ++ [.tup (bY rs[i])]) []=some (.lst (dN (jF n o tg sh rs[i])),[]):=by unfold bF;rw[if_pos (show([m,.int o] ++ [.tup (bY rs[i])]:List D).length=2+1 from rfl)];exact ON S R
   have c:=lJ (l:=jF n o tg sh rs[i]);have k:bR 0 (.lst (dN (jF n o tg sh rs[i])))=true:=by simp only[bR];exact dR _ c
   have h:jE (.lst (dN (jF n o tg sh rs[i])))=true:=by simp only[jE];exact gj _ c
   unfold cR fD;rw[if_pos u,if_pos j,e];simp only[k9];rw[if_pos k];simp only[k9];rw[if_pos h]
structure D4 (m:D)(n o tg sh mo:Nat)(num hands aS aD:Fn)(R R':Str->Option Fn)(nm oo:Str):Prop where
 S:zq m n o tg sh num hands aS aD
 hm:∀g,num [m,.str "moves"] g=some (.int mo,g)
 fm:flat m=true
 h1:R nm=some (cR (bF 2 1 (ng (aq false 10 3 (pY num hands aS aD)))))
 h2:R' oo=some (cR (bF 1 1 A8))
variable {R R':Str->Option Fn}{nm oo:Str}
def zu (F:D4 m n o tg sh mo num hands aS aD R R' nm oo){rstep:Fn}(f:gI l [.int (bZ n o sh),.int (bZ n o sh),.int mo,.tup r,.fn nm [m,.int o]] g=some (c,g)):
   zt num hands aD l rstep nm ([m,.int o,.tup r].map some++l6 (8-3) none) g=OS rstep [some m,some (.int o),some (.tup r),some (.int n),some (.int (bZ n o sh)),some c,none,none] g:=by
 have e:(2*((aw n o sh).length:Int)+2*(n:Int))=((bZ n o sh:Nat):Int):=by unfold bZ;lia
 refine bf (F.S.hh g) (bf (d:=.int (bZ n o sh)) (g1:=g) ?_ (bf (d:=c) (g1:=g) ?_ rfl))
 . have a:cu 2 ((aw n o sh).length:Int)=true:=rfl
   have b:cu 2 (n:Int)=true:=rfl;simp[F.S.hs g,bW,a,b,e]
 . simp[F.hm g,my,sf,f]
def sC (S:zq m n o tg sh num hands aS aD):1<=bZ n o sh:=by have:=S.on;unfold bZ;lia
def Kw (W:pC n o sh rs)(c:∀x∈r,flat x=true):bC ((rs.map bY).flatten++r)=true:=gP λx a=>by
 rcases mF.mp a with a|a
 . obtain⟨w,hw,a⟩:=ahr.mp a
   obtain⟨rest,b,rfl⟩:=mM.mp hw;exact(W.all rest b).flat x a
 . exact c x a
def D5 (W:pC n o sh rs){rest:List D}:((rs.map bY).flatten++rest).length=rs.length*bZ n o sh+rest.length:=by rw[lN,eQ (n:=bZ n o sh) (λw hw=>by obtain⟨r,a,rfl⟩:=mM.mp hw;exact(W.all r a).wl),oY]
def uk (F:D4 m n o tg sh mo num hands aS aD R R' nm oo)(W:pC n o sh rs)(a:∀x∈r,flat x=true):aP 0 [.int (bZ n o sh),.int (bZ n o sh),.int mo,.tup ((rs.map bY).flatten++r),.fn nm [m,.int o]]=true:=by have:=dR (n:=0) _ (Kw W a);simp[aP,bR,dC m F.fm];simpa using this
def D6 (F:D4 m n o tg sh mo num hands aS aD R R' nm oo)(W:pC n o sh rs){r:R3}(z:iE n o sh r.1 r.2.1 r.2.2)(y:i<bZ n o sh)(A:∀k,k<rs.length->dI (.int mo) (rs.map (jF n o tg sh)) k):
  ∃x u,(xp n o sh r.1)[i]? = some x/\aq false 8 3 (zt num hands aD (aq false 10 5 (cC R)) (aq false 6 3 (zr hands aD (aq false 5 4 (iF R')) oo)) nm) [m,.int o,.tup ((rs.map bY).flatten++(bY r).take i)] g=some (.tup [x,u],g):=by
 have B:=sC F.S;have fr:∀x∈(bY r).take i,flat x=true:=λx a=>z.flat x (M3 a);have lt:((bY r).take i).length=i:=by rw[yX,show(bY r).length=bZ n o sh from z.wl];lia
 have c:=rB (rest:=(bY r).take i) (mv:=.int mo) F.h1 (W.D3 F.S F.fm) rfl (by rw[lt];exact y) (λk s=>A k (by simpa using s));have b:=iX (g:=g) (uk F W fr) c rfl;obtain⟨x,a,ex⟩:=RG (g:=g) F.h2 F.S z (i:=i) y;refine⟨x,.int ((rs.length*bZ n o sh+i:Nat):Int),a,?_⟩;have len:=D5 W (rest:=(bY r).take i);rw[lt]at len;have cut:pe ((rs.map bY).flatten++(bY r).take i) (some ((rs.length*bZ n o sh:Nat):Int)) none=(bY r).take i:=by unfold pe;rw[lV,iL (by rw[len];lia),gY (n:=bZ n o sh) (λw hw=>by obtain⟨q,h,rfl⟩:=mM.mp hw;exact(W.all q h).wl) (by simp)];rw[show List.drop rs.length (rs.map bY)= [] from ZZ.mpr (by simp),afJ,OQ,len];exact Gw (by rw[lt];lia)
 have j:((rs.length*bZ n o sh+i:Nat):Int) / (bZ n o sh:Int)*(bZ n o sh:Int)=((rs.length*bZ n o sh:Nat):Int):=by
  have:(rs.length*bZ n o sh+i) / bZ n o sh=rs.length:=by rw[TR,ahI (by lia),ahs y];lia
  rw[<- aht,this];simp
 have v:bZ n o sh<=20:=by have:=F.S.n5;have:=gZ (n:=n) (o:=o) (sh:=sh);unfold bZ;lia
 generalize (rs.map bY).flatten++(bY r).take i=C at *;change aq _ _ _ _ [m,.int o,.tup ((bY r).take i)] g=_ at ex;have st:=zu (rstep:=aq false 6 3 (zr hands aD (aq false 5 4 (iF R')) oo)) F b;generalize rs.length*bZ n o sh+i=L at *;generalize rs.length*bZ n o sh=U at *;generalize bZ n o sh=p at *;have f:dS L p=true:=iR (by lia) (by lia);have l:cu ((L:Int) / p) p=true:=iQ (by lia) (by lia);have e:aC 2=true:=rfl;refine aU rfl (st.trans (fz (g1:=g) rfl ?_)) rfl;simp[len,f,l,j,fM,cut,ex,e]
def F4 (W:pC n o sh rs){r:R3}(j:iE n o sh r.1 r.2.1 r.2.2){rest:List D}:pe (((rs ++ [r]).map bY).flatten++rest) (some (((rs.length+1)*bZ n o sh-n:Nat):Int)) (some (((rs.length+1)*bZ n o sh:Nat):Int))=r.2.2:=by
 have b:((rs.map bY).flatten++bY r).length=(rs.length+1)*bZ n o sh:=by rw[D5 W,show(bY r).length=bZ n o sh from j.wl,ql];lia
 have e:((rs ++ [r]).map bY).flatten++rest=((rs.map bY).flatten++(cX r.1++r.2.1))++(r.2.2++rest):=by simp[bY,cL]
 have f:n<=bZ n o sh:=by unfold bZ;lia
 have i:n<=(rs.length+1)*bZ n o sh:=by rw[ql];lia
 have a:((rs.map bY).flatten++(cX r.1++r.2.1)).length=(rs.length+1)*bZ n o sh-n:=by
  have c:((rs.map bY).flatten++bY r).length=((rs.map bY).flatten++(cX r.1++r.2.1)).length+n:=by simp only[bY,cL,lN,j.sl];lia
  lia
 have h:(((rs ++ [r]).map bY).flatten++rest).length>=(rs.length+1)*bZ n o sh:=by rw[e,lN,a,lN,j.sl];lia
 unfold pe;rw[iL (by lia),qH (by lia),e,<- a,T2,show(rs.length+1)*bZ n o sh-((rs.map bY).flatten++(cX r.1++r.2.1)).length=r.2.2.length by rw[a,j.sl];lia,W0]
noncomputable def Z1 (c:List D):Option Nat->D
 |none=>.tup (c.map Gu)|some j=>cW (c.getD j .ay)
def D7 (F:D4 m n o tg sh mo num hands aS aD R R' nm oo)(W:pC n o sh rs){r:R3}(A:iE n o sh r.1 r.2.1 r.2.2)(I:rs.length<20){rest:List D}(B:∀x∈rest,flat x=true){en:Option Nat}(C:∀k,k<rs.length->dI (.int mo) ((rs ++ [r]).map (jF n o tg sh)) k)(E:i8 (.int mo) ((rs ++ [r]).map (jF n o tg sh)) rs.length en)(H:∀j,en=some j->j<n){rstep:Fn}:
  aq false 8 3 (zt num hands aD (aq false 10 5 (cC R)) rstep nm) [m,.int o,.tup (((rs ++ [r]).map bY).flatten++rest)] g=some (.tup [.tup [.str "told",Z1 r.2.2 en],.int (((rs.length+1)*bZ n o sh:Nat):Int)],g):=by
 have sp:=sC F.S;have l:pC n o sh (rs ++ [r]):=⟨λq f=>by
  rcases mF.mp f with f|f
  . exact W.all q f
  . simp at f;subst f;exact A,by simp;lia⟩
 have J:((rs ++ [r]).map bY).length=rs.length+1:=by simp
 have s:=rC (rest:=rest) (mv:=.int mo) (en:=en) F.h1 (l.D3 F.S F.fm) rfl (by lia) (λk Y=>C k (by rw[J]at Y;lia)) (by rw[J,adW];exact E);rw[J,adW]at s;have Z:=iX (g:=g) (uk F l B) s (by cases en<;>rfl);have hn:n<=bZ n o sh:=by unfold bZ;lia
 have cut:=F4 W A (rest:=rest);have u:aC 2=true:=rfl;have e6:((rs.length*bZ n o sh:Nat):Int)+(bZ n o sh:Int)=(((rs.length+1)*bZ n o sh:Nat):Int):=by rw[ql];lia
 have e7:(((rs.length+1)*bZ n o sh:Nat):Int)-(n:Int)=(((rs.length+1)*bZ n o sh-n:Nat):Int):=by
  have:n<=(rs.length+1)*bZ n o sh:=by rw[ql];lia
  lia
 generalize ((rs ++ [r]).map bY).flatten++rest=RD at *;generalize (rs.length+1)*bZ n o sh=U at *;generalize rs.length*bZ n o sh=S at *;rw[<- e7]at cut;have a0:∀a b:D,cF [a,b] 0=some a:=λ_ _=>rfl;have O:∀a b:D,cF [a,b] 1=some b:=λ_ _=>rfl;obtain⟨p,st,i,Q,z⟩:∃p:Sg,zt num hands aD (aq false 10 5 (cC R)) rstep nm ([m,.int o,.tup RD].map some++l6 (8-3) none) g=OR p g/\p[5]? = some (some (.tup [.int S,eD en]))/\p[6]? = some (some (.int U))/\p[7]? = some (some (.tup r.2.2)):=
  ⟨_,(zu F Z).trans (aN rfl (bf (d:=.int U) (g1:=g) (by simp[dP,aW,a0,e6]) (bf (d:=.tup r.2.2) (g1:=g) (by simp[fM,cut]) rfl))),rfl,rfl,rfl⟩
 cases en with
 |none =>
  refine aU rfl (st.trans (fz (g1:=g) (by simp[i,dP,aW,O,eD,gq]) ?_)) rfl;have zs:aC r.2.2.length=true:=aR (by rw[A.sl];have:=F.S.n5;lia);have c:=dG (t:=gN 1) (c:=b9) (e:=aj au a5 b0) (h:=Gu) (λp=>∃a,p = [none,a]) r.2.2 [none,none] g ⟨_,rfl⟩ (by rintro t hm p ⟨a,rfl⟩;exact⟨[none,some t],by simp,by simp,(A.sa t hm).val,⟨_,rfl⟩⟩)
  simp[Q,z,cy,aW,cq,zs,c,bH,u,Z1]
 |some j =>
  have v:j<r.2.2.length:=by rw[A.sl];exact H j rfl
  have x:=D0 v;have sc:=(A.sa _ (XG v)).view (g:=g);refine aU rfl (st.trans (aN (σ1:=p) (g1:=g) (by simp[i,dP,aW,O,eD,gq]) (cw ?_))) rfl;show _=some (D.tup [.tup [.str "told",cW (r.2.2.getD j .ay)],.int U],g);generalize r.2.2.getD j .ay=y at *;simp[i,Q,z,dP,aW,O,eD,x,sc,u]
end
end
section
variable {Z:List Int}{Y M:List D}{X U H:Nat}{T R Q O J z:Fn}{C:Str->Option Fn}{E:List Nat}{B:Option (F×Sg×G)}{A:FS}{b m:D}
def D8 {ks:List D}{g:G}(o:ks.length<=20):rX (.tup (cX ks++r)) none (some ((2*ks.length:Nat):Int)) (some 2) g=some (.tup ks,g):=by
 have hw:(cX ks).length=2*ks.length:=gy;have len:(cX ks++r).length=2*ks.length+r.length:=by rw[lN,hw]
 have i:(bu (2*ks.length+r.length) none (some ((2*ks.length:Nat):Int)) 2).2=ks.length:=by simp only[bu,Sf,Tz];simp;split<;>lia
 have f:(bu (2*ks.length+r.length) none (some ((2*ks.length:Nat):Int)) 2).1=0:=by simp only[bu,Sf,Tz];simp
 have j:aC ks.length=true:=aR (by lia);unfold rX;simp only[len,i,j,f];rw[if_pos (by decide)];congr 3;unfold gu;have:∀(l:List Nat) (a b:Nat->Option D),(∀k∈l,a k=b k)->l.filterMap a=l.filterMap b:=λl a b h=>by
  induction l with
  |nil=>rfl|cons x r p=>rw[Bu,Bu,h x (by simp),p λk c=>h k (by simp[c])]
 rw[this _ _ (λk=>ks[k]?) λk c=>by rw[Cn]at c;rw[show((0:Int)+(k:Int)*2).toNat=2*k by lia,m5 (by lia),lC c];exact rD (lC c)]
 have e:∀(n:List D),(nN n.length).filterMap (λk=>n[k]?)=n:=λn=>by
  induction n with
  |nil=>rfl
  |cons x n p =>
   rw[vq,afY,Bu];simp only[ac7,agJ]
   exact congrArg (x :: ·) p
 exact e ks
noncomputable def BC (c:D):Prop:=∃v a t,c = .tup [v,.int a,.int t]/\vG v
theorem BC.flat (h:BC c):_root_.flat c=true:=by obtain⟨v,a,t,rfl,b⟩:=h;simp[_root_.flat,bC,b.1]
noncomputable def bI (c:List Int):List D:=c.map D.int
structure iG (m:D)(n p o tg sh mo:Nat)(num bL aS aD:Fn):Prop where
 hp:∀g,bL [m] g=some (.int p,g)
 ht:∀g,num [m,.str "toggles"] g=some (.int tg,g)
 hm:∀g,num [m,.str "moves"] g=some (.int mo,g)
 ho:∀g,aS [m,.int o] g=some (.lst (dN (dj n o)),g)
 hs:∀g,aD [m,.int o] g=some (.lst (dN (aw n o sh)),g)
 on:o<n
 n5:n<=5
 p1:1<=p
 p4:p<=4
 fm:flat m=true
noncomputable def jG (c g:Fn):FS:=ax (aG (aj (bD cA (· - ·)) (ao bw (aa a7 ag)) (ao bw (aa (ao g (aa a6 (aa a5 ag))) ag))) (gN 3)) (aH (cU a7 (aY (aj (bD cA (· - ·)) bg (ao c (aa a6 ag)))) (aY bg)))
noncomputable def pD (num:Fn):FS:=ax (bM (aB (aj cY (aj au a5 ba) (aj au a7 ba))) (aH ir) aK) (aH (qx (aj oEq (ao num (aa a6 (aa fk ag))) ba) (aj cY (aj au a5 b4) (aj au a7 b4))))
def A_:cF [m,b,c] 1=some b:=rfl
def Ba:cF [m,b,c] 2=some c:=rfl
def u6:cF [m,b,c] 0=some m:=rfl
def ne_self (h:flat c=true)(d:dep c<=60):cY c c a=some (.bl false,a):=by simp[cY,h,d,j6 c h]
noncomputable def Bb:FI:=qO (aa ee (aa eu ag))
noncomputable def Bc:FI:=qO (aa bg (aa (wd a7 eh (aY cJ) (aY b4)) (aa dV ag)))
noncomputable def HS:FG:=gT 2 (bV (gN 10) (bV (gN 11) gp))
noncomputable def D9 (a:Fn):FS:=bM (ib (aB (aj mi (aj au eM ba) ew)) (nH (ao a (aa a6 (aa fb (aa eM ag)))))) (kC (gC isRef eZ d4 (aa (aj au eM ba) ag))) aK
noncomputable def O0 (num c g h scF a:Fn):FS:=ax (aG (ao h (aa a6 (aa a5 ag))) (gN 3)) (ax (aG (aj bJ b4 (ao bw (aa bg ag))) (gN 4)) (ax (aG (cU a7 (aY (aj (bD cA (· - ·)) (ao bw (aa a7 ag)) (ao bw (aa bg ag)))) eh) (gN 5)) (ax (aG (bA jx Bc [none,none,none,none] (gT 3 (bV (gN 1) (bV (gN 2) (bV (gN 3) gp)))) (aB (aj cY a7 bg)) a5) (gN 6)) (ax (aG (cU a7 (aY cJ) (aY (aj aJ cJ (ao c (aa a6 ag))))) (gN 7)) (ax (aG (ao scF (aa a6 (aa a5 (aa a7 ag)))) (gN 8)) (ax (aG (ao g (aa a6 (aa a5 ag))) (gN 9)) (ax (fK Bb HS (D9 a)) (aH (pT d4)))))))))
noncomputable def cls (nm:Str)(o:Nat)(S:List Nat):List D:=S.map λ(j:Nat)=>D.tup [.str nm,.int j,.int o]
noncomputable def O1 (a:Fn):FE:=bA bH (cy (ao a (aa a6 (aa a5 ag)))) [none,none,some 1] (gN 1) b9 (aI aA (aa i2 (aa a5 (aa a7 ag))))
noncomputable def O2 (a:Fn):FE:=bA bH (cy (ao a (aa a6 (aa a5 ag)))) [none,none,some 1] (gN 1) b9 (aI aA (aa fy (aa a7 (aa a5 ag))))
noncomputable def uc (a b c:Fn)(nm:Str):FS:=ax (aG (O1 a) (gN 3)) (ax (bM (aB (aj oLt (ao bw (aa a7 ag)) (aj bJ b4 (ao bw (aa bg ag))))) (ax (aG (O2 a) (gN 4)) (aH (ao (gI c) (aa bg (aa cJ (aa (my nm []) (aa a7 ag))))))) aK) (ax (aG (aj bJ b4 (ao b (aa a6 ag))) (gN 5)) (aH (aI aA (aa ft (aa (aj au (aj aJ dV (ao fL (aa bg ag))) (aj (bD cA (· - ·)) (ao bw (aa a7 ag)) (aj bJ b4 (ao bw (aa bg ag))))) ag))))))
theorem sD {c:Type}{a b:c->D}:∀{l:List c} {p:Nat} {x:c},l[p]? = some x->(l.flatMap λx=>[a x,b x])[2*p]? = some (a x)
 | [],p,x,h=>by simp at h|y::l,0,x,h=>by simp at h;subst h;rfl|y::l,p+1,x,h=>by have:=sD (a:=a) (b:=b) (l:=l) (p:=p) (x:=x) (by simpa using h);rw[SJ,show 2*(p+1)=2*p+1+1 by lia];simpa using this
theorem xq {c:Type}{a b:c->D}:∀{l:List c} {p:Nat} {x:c},l[p]? = some x->(l.flatMap λx=>[a x,b x])[2*p+1]? = some (b x)
 | [],p,x,h=>by simp at h|y::l,0,x,h=>by simp at h;subst h;rfl|y::l,p+1,x,h=>by have:=xq (a:=a) (b:=b) (l:=l) (p:=p) (x:=x) (by simpa using h);rw[SJ,show 2*(p+1)+1=2*p+1+1+1 by lia];simpa using this
theorem oq {c:Type}{a b:c->D}:∀{l:List c},(l.flatMap λx=>[a x,b x]).length=2*l.length
 | []=>rfl|x::l=>by rw[SJ,lN,oq];simp;lia
noncomputable def F5 (l:List D):List D:=l.map λk=>.tup [.str "read",k]
noncomputable def eK (p:Nat):List D:=(nN p).map λj=>own "box" j
noncomputable def pF (n p o sh:Nat):List D:=eK p++eK p++cls "call" o (aw n o sh)
noncomputable def Wg (n p o sh:Nat)(c:List Int):List D:=(((aw n o sh).zip c).flatMap λq=>[.tup [.str "read",.tup [.str "call",.int q.1,.int o]],.tup [.str "write",de o q.1,.int q.2]])++F5 (pF n p o sh)
def xt {n:Nat}{sh:Nat}(S:iG m n i o j sh K l T R Q){g:Sg}(q:g[0]? = some (some m))(k:g[1]? = some (some (.int o))):O1 Q g a=some (.lst (cls "call" o (aw n o sh)),a)/\O2 Q g a=some (.lst ((aw n o sh).map λnum=>de o num),a):=by
 have b:aC 3=true:=rfl;have zl:aC (aw n o sh).length=true:=aR (by have:=gZ (n:=n) (o:=o) (sh:=sh);have:=S.n5;lia);have p:=dG (t:=gN 1) (c:=b9) (e:=aI aA (aa i2 (aa a5 (aa a7 ag)))) (h:=λd=>D.tup [.str "call",d,.int o]) (λg=>∃mo,g = [none,mo,some (.int o)]) (dN (aw n o sh)) [none,none,some (.int o)] a ⟨_,rfl⟩ (by rintro t hm g ⟨mo,rfl⟩;exact⟨[none,some t,some (.int o)],by simp,by simp,by simp[b],_,rfl⟩)
 have f:=dG (t:=gN 1) (c:=b9) (e:=aI aA (aa fy (aa a7 (aa a5 ag)))) (h:=λd=>D.tup [.str "sign",.int o,d]) (λg=>∃mo,g = [none,mo,some (.int o)]) (dN (aw n o sh)) [none,none,some (.int o)] a ⟨_,rfl⟩ (by rintro t hm g ⟨mo,rfl⟩;exact⟨[none,some t,some (.int o)],by simp,by simp,by simp[b],_,rfl⟩)
 have sub:cq [none,none,some 1] g = [none,none,some (.int o)]:=by simp[cq,k]
 constructor
 . simp[O1,q,k,S.hs a,cy,aW,bW,zl,sub,p,bH]
   simp[dN,cls,MZ]
 . simp[O2,q,k,S.hs a,cy,aW,bW,zl,sub,f,bH]
   simp[dN,de,MZ]
def O3 (h:flat c=true):cR (bF 0 1 a6) [c] a=some (c,a):=by
 have g:fZ [c]=true:=by simp[fZ,gO c h]
 have b:aP 0 [c]=true:=by simp[aP,dC c h]
 have e:bF 0 1 a6 [c] []=some (c,[]):=by unfold bF;rw[if_pos (show [c].length=0+1 from rfl)];rfl
 unfold cR fD;rw[if_pos g,if_pos b,e];simp only[k9];rw[if_pos (dC c h)];simp only[k9];rw[if_pos (gO c h)]
noncomputable def um (num c g a step scF:Fn)(nm:Str)(X:FS):FS:=ax (aG (aj aJ (aj bJ eL (ao bw (aa (ao g (aa a6 (aa a5 ag))) ag))) (aj bJ b4 (ao c (aa a6 ag)))) (gN 3)) (ax (aG (ao (gI a) (aa bg (aa bg (aa (ao num (aa a6 (aa hY ag))) (aa a7 (aa (my nm [0,1]) ag)))))) (gN 4)) (ax (bM (aB (aj jk cJ er)) (aH (aI aA (aa (ao step (aa a6 (aa a5 (aa (cU a7 (aY (aj bJ (aj (bD dS (· / ·)) (ao bw (aa a7 ag)) bg) bg)) eh) ag)))) (aa (ao bw (aa a7 ag)) ag)))) aK) (ax (aG (aj aJ (aj au cJ b0) bg) (gN 5)) (ax (bM (aB (aj jk (aj au cJ ba) er)) (aH (aI aA (aa (aI aA (aa eR (aa (ao fL (aa (bA bH (cy (ao scF (aa a6 (aa a5 (aa (cU a7 eh (aY dV)) ag))))) [none,none] (gN 1) b9 (aj au a5 b0)) ag)) ag))) (aa dV ag)))) aK) X))))
noncomputable def ot (num c h g:Fn):Fn:=aq false 12 3 (O0 num c h g (aq false 4 3 (jG c g)) (aq false 3 3 (pD num)))
noncomputable def bp (n p o sh:Nat):Nat:=3*(aw n o sh).length+2*p
def zw (S:iG m i j o K X U Q O J z)(f:gI l [.int (bp i j o X),.int (bp i j o X),.int U,.tup r,.fn x [m,.int o]] a=some (c,a))(k:ax (bM (aB (aj jk cJ er)) (aH (aI aA (aa (ao T (aa a6 (aa a5 (aa (cU a7 (aY (aj bJ (aj (bD dS (· / ·)) (ao bw (aa a7 ag)) bg) bg)) eh) ag)))) (aa (ao bw (aa a7 ag)) ag)))) aK) (ax (aG (aj aJ (aj au cJ b0) bg) (gN 5)) (ax (bM (aB (aj jk (aj au cJ ba) er)) (aH (aI aA (aa (aI aA (aa eR (aa (ao fL (aa (bA bH (cy (ao R (aa a6 (aa a5 (aa (cU a7 eh (aY dV)) ag))))) [none,none] (gN 1) b9 (aj au a5 b0)) ag)) ag))) (aa dV ag)))) aK) A)) [some m,some (.int o),some (.tup r),some (.int (bp i j o X)),some c,none] a=B):
   um Q O z l T R x A ([m,.int o,.tup r].map some++l6 (6-3) none) a=B:=by
 have e:(3*((aw i o X).length:Int)+2*(j:Int))=((bp i j o X:Nat):Int):=by unfold bp;lia
 refine bf (d:=.int (bp i j o X)) (g1:=a) ?_ (bf (d:=c) (g1:=a) ?_ k)
 . have step:cu 3 ((aw i o X).length:Int)=true:=rfl
   have b:cu 2 (j:Int)=true:=rfl;simp[S.hs a,S.hp a,bW,step,b,e]
 . simp[S.hm a,my,sf,f]
def HU {n:Nat}(S:iG m n i o j K X l T R Q)(fr:∀c∈r,flat c=true):aP 0 [.int (bp n i o K),.int (bp n i o K),.int X,.tup r,.fn x [m,.int o]]=true:=by have:=dR (n:=0) _ (gP fr);simp[aP,bR,dC m S.fm];simpa using this
noncomputable def bN (c:List Int)(fs g:List D)(h:List Int):List D:=cX (bI c)++fs++g++bI h
structure Rg (n p o sh:Nat)(ks:List Int)(fs ss:List D)(cs:List Int):Prop where
 kl:ks.length=(aw n o sh).length
 fl:fs.length=p
 sl:ss.length=p
 cl:cs.length=(aw n o sh).length
 fa:∀c∈fs,BC c
 sa:∀c∈ss,BC c
noncomputable def xu (c:D):Int:=DY (xl c 1)
noncomputable def O4 (c:D):Int:=DY (xl c 2)
noncomputable def xw (c:Nat)(a b:D):Bool:=decide (xu a≠xu b)||(decide (c=1)&&decide (O4 a≠O4 b))
noncomputable def pG (n o:Nat)(x:Int):Bool:=(dN (dj n o)).any λy=>bB y (.int x)
def Kx:pG i o I=true ↔ ∃j,j∈dj i o/\I=(j:Nat):=by
 unfold pG dN;rw[aek];constructor
 . rintro⟨y,b,e⟩
   obtain⟨j,a,rfl⟩:=mM.mp b;refine⟨j,a,?_⟩;have:((j:Int)== I)=true:=e;exact(eq_of_beq this).symm
 . rintro⟨j,a,rfl⟩
   refine⟨.int j,mM.mpr ⟨j,a,rfl⟩,?_⟩;show((j:Int)== (j:Int))=true;exact beq_self_eq_true _
noncomputable def kL (n o c:Nat)(ps:List (D×D)):List Int:=(ps.filter λq=>pG n o (xu q.2)&&xw c q.1 q.2).map λq=>xu q.2
noncomputable def ou (S:List Nat)(c g:List Int):List Nat:=((S.zip (c.zip g)).filter λq=>decide (q.2.1≠q.2.2)).map (·.1)
noncomputable def m9 (n o c sh:Nat)(g:List Int)(fs h:List D)(i:List Int):List Int:=(ou (aw n o sh) g i).map (λ(j:Nat)=>(j:Int))++kL n o c (fs.zip h)
noncomputable def iH (n o c sh:Nat)(g:List Int)(fs h:List D)(i:List Int):List Nat:=(dj n o).filter λj=>decide ((j:Int)∈m9 n o c sh g fs h i)
def Ky (h:j∈ou E y Z):j∈E:=by obtain⟨q,a,rfl⟩:=mM.mp h;have:=(ro.mp a).1;exact(TB this).1
def zx (h:I∈m9 i o j K y r Y Z):∃x,x∈dj i o/\I=(x:Nat):=by
 rcases mF.mp h with h|h
 . obtain⟨x,a,rfl⟩:=mM.mp h
   have:=iW.mp (Ky a);exact⟨x,fI.mpr this.2,rfl⟩
 . obtain⟨q,b,rfl⟩:=mM.mp h
   have:=(ro.mp b).2;rw[la]at this;exact Kx.mp this.1
def Kz:j∈iH i o K X y r Y Z ↔ (j:Int)∈m9 i o K X y r Y Z:=by
 unfold iH;rw[ro,decide_eq_true_eq];refine⟨λh=>h.2,λh=>⟨?_,h⟩⟩;obtain⟨n,a,e⟩:=zx h;have:j=n:=by lia
 subst this;exact a
def D_:(iH i o j K y r Y Z).Nodup:=xk.sublist Nx
def O5 {n:Nat}:(iH n o i j y r Y Z).Pairwise (· <= ·):=by unfold iH dj;exact((af6 (n:=n)).imp λh=>Sx h).sublist (Nx.trans Nx)
def zy (a:i<=5)(b:o<i):(iH i o j K y r Y Z).length<=4:=by refine n7 (LW _ _) ?_;exact(show ∀i,i<=5->∀o,o<i->(dj i o).length<=4 by decide) i a o b
def Rg.wl (R:Rg i j o K y r Y Z):(bN y r Y Z).length=3*(aw i o K).length+2*j:=by simp[bN,gy,bI,R.kl,R.fl,R.sl,R.cl];lia
def Rg.fla (R:Rg i j o K y r Y Z):∀x∈bN y r Y Z,flat x=true:=λx a=>by
 have b:∀(y:List Int),∀x∈bI y,flat x=true:=λy x a=>by obtain⟨n,_,rfl⟩:=mM.mp a;rfl
 simp only[bN,mF]at a;rcases a with((a|a)|a)|a
 . obtain⟨c,e,a⟩:=ahq.mp a
   simp only[l2,A9,or_false]at a;rcases a with rfl|rfl
   . exact b _ _ e
   . rfl
 . exact(R.fa _ a).flat
 . exact(R.sa _ a).flat
 . exact b _ _ a
def Rg.kw (R:Rg i j o K y Y M Z):(cX (bI y)).length=2*(aw i o K).length:=by rw[gy,bI,oY,R.kl]
def O6 (R:Rg i j o K y r Y Z){rest:List D}:pe (bN y r Y Z++rest) (some ((2*(aw i o K).length+j:Nat):Int)) (some ((2*(aw i o K).length+2*j:Nat):Int))=Y:=by
 have:=lH (rd:=bN y r Y Z++rest) (s:=2*(aw i o K).length+j) (m:=j) (by rw[lN,R.wl];lia);rw[show 2*(aw i o K).length+2*j=2*(aw i o K).length+j+j by lia,this];have e:bN y r Y Z++rest=(cX (bI y)++r)++(Y++(bI Z++rest)):=by simp[bN]
 rw[e,show 2*(aw i o K).length+j=(cX (bI y)++r).length by rw[lN,R.kw,R.fl],T2,show j=Y.length from R.sl.symm,W0]
def O7 (R:Rg i j o K y r Y Z):pe (bN y r Y Z) (some ((2*(aw i o K).length:Nat):Int)) (some ((2*(aw i o K).length+j:Nat):Int))=r:=by
 rw[lH (rd:=bN y r Y Z) (s:=2*(aw i o K).length) (m:=j) (by rw[R.wl];lia)];have e:bN y r Y Z=cX (bI y)++(r++(Y++bI Z)):=by simp[bN]
 rw[e,<- R.kw,T2,show j=r.length from R.fl.symm,W0]
def O8 (R:Rg i j o K y r Y Z):pe (bN y r Y Z) (some ((2*(aw i o K).length+2*j:Nat):Int)) none=bI Z:=by
 unfold pe;rw[lV,iL (by rw[R.wl];lia)];have e:bN y r Y Z=(cX (bI y)++r++Y)++bI Z:=by simp[bN]
 rw[e,show 2*(aw i o K).length+2*j=(cX (bI y)++r++Y).length by simp[R.kw,R.fl,R.sl];lia,T2];exact Gw (by simp;lia)
def O9 {g:G}(S:iG m i j o K X U l T R Q)(p:Rg i j o X y r Y Z):aq false 4 3 (jG T Q) [m,.int o,.tup (bN y r Y Z)] g=some (.tup Y,g):=by
 have e:=p.wl;have h:((bN y r Y Z).length:Int)-((aw i o X).length:Int)=((2*(aw i o X).length+2*j:Nat):Int):=by rw[e];lia
 have f:((2*(aw i o X).length+2*j:Nat):Int)-(j:Int)=((2*(aw i o X).length+j:Nat):Int):=by lia
 have c:=O6 (rest:=[]) p;rw[tA]at c;generalize bN y r Y Z=W at *;refine aU rfl (bf (d:=.int ((2*(aw i o X).length+2*j:Nat):Int)) (g1:=g) (by simp[S.hs g,bW,h]) (cw (d:=.tup Y) (g1:=g) ?_)) rfl;generalize n:((2*(aw i o X).length+2*j:Nat):Int)=a at *;generalize ((2*(aw i o X).length+j:Nat):Int)=b at *;simp[S.hp g,f,fM,c]
def O_ {g:G}(S:iG m i j o K X U l T R Q)(y:BC c)(u:BC b):aq false 3 3 (pD l) [m,c,b] g=some (.bl (xw K c b),g):=by
 obtain⟨v,x,t,rfl,r⟩:=y;obtain⟨a,n,f,rfl,s⟩:=u;refine aU (σ':=[some m,some (.tup [v,.int x,.int t]),some (.tup [a,.int n,.int f])]) rfl ?_ rfl;have e:xw K (.tup [v,.int x,.int t]) (.tup [a,.int n,.int f])=(decide (x≠n)||(decide (K=1)&&decide (t≠f))):=rfl;rw[e];have q:aj cY (aj au a5 ba) (aj au a7 ba) [some m,some (.tup [v,.int x,.int t]),some (.tup [a,.int n,.int f])] g=some (.bl (decide (x≠n)),g):=by rw[cp (d:=.int x) (d':=.int n) (g1:=g) (g2:=g) rfl rfl,SQ]
 have k:aj cY (aj au a5 b4) (aj au a7 b4) [some m,some (.tup [v,.int x,.int t]),some (.tup [a,.int n,.int f])] g=some (.bl (decide (t≠f)),g):=by rw[cp (d:=.int t) (d':=.int f) (g1:=g) (g2:=g) rfl rfl,SQ]
 have B:aj oEq (ao l (aa a6 (aa fk ag))) ba [some m,some (.tup [v,.int x,.int t]),some (.tup [a,.int n,.int f])] g=some (.bl (decide (K=1)),g):=by
   have c:ao l (aa a6 (aa fk ag)) [some m,some (.tup [v,.int x,.int t]),some (.tup [a,.int n,.int f])] g=some (.int K,g):=S.ht g;rw[cp (d':=.int 1) (g2:=g) c rfl];by_cases h:K=1
   . subst h;rfl
   . have p:¬((K:Int)=1):=by lia
     simp[flat,dep,bB,h,p]
 have C:aB (aj cY (aj au a5 ba) (aj au a7 ba)) [some m,some (.tup [v,.int x,.int t]),some (.tup [a,.int n,.int f])] g=some (decide (x≠n),g):=by rw[cN,q];rfl
 unfold pD;by_cases h:x≠n
 . rw[decide_eq_true h]at C
   refine(fz C (d:=.bl true) (g2:=g) rfl).trans ?_;simp[h]
 . rw[decide_eq_false h]at C
   refine aN ((bP C).trans rfl) (cw ?_);rw[decide_eq_false h,Bool.false_or];unfold qx;by_cases h2:K=1
   . rw[decide_eq_true h2]at B ⊢
     rw[afc];show((d5 (aj oEq (ao l (aa a6 (aa fk ag))) ba [some m,some (.tup [v,.int x,.int t]),some (.tup [a,.int n,.int f])] g)).bind _)=_;rw[B];exact k
   . rw[decide_eq_false h2]at B ⊢
     show((d5 (aj oEq (ao l (aa a6 (aa fk ag))) ba [some m,some (.tup [v,.int x,.int t]),some (.tup [a,.int n,.int f])] g)).bind _)=_;rw[B];rfl
def V_ {fs:List D}{ss:List D}{g:G}(j:ss.length=fs.length){σ:Sg}(f:σ[7]? = some (some (.tup fs)))(c:σ[8]? = some (some (.tup ss))):Bb σ g=some ((fs.zip ss).map λq=>.tup [q.1,q.2],g):=by
 have e:ke [fs,ss] fs.length=(fs.zip ss).map λq=>.tup [q.1,q.2]:=by
  unfold ke;refine Zy λi=>?_;rw[m2,m2];by_cases h:i<fs.length
  . have a:i<ss.length:=by lia
    rw[Xw h,lC (show i<(fs.zip ss).length by rw[BU];lia)];simp[h,a]
  . rw[OF (by simpa using h),OF (by rw[BU];lia)];rfl
 have b:ee σ g=some (.tup fs,g):=by simp[f]
 have n:eu σ g=some (.tup ss,g):=by simp[c]
 unfold Bb;rw[wA];simp only[bS,b,n,cG,k9];simp[oN,r6,j,e]
def Wa {ks:List Int}{g:G}{σ:Sg}{S:List Nat}(v:ks.length=S.length)(k:y.length=S.length)(x:S.length<=20)(n:σ[2]? = some (some (.tup (cX (bI ks)++r))))(s:σ[3]? = some (some (.lst (dN S))))(l:σ[4]? = some (some (.int ((2*S.length:Nat):Int))))(u:σ[5]? = some (some (.tup (bI y)))):Bc σ g=some ((S.zip (ks.zip y)).map λq=>.tup [.int q.1,.int q.2.1,.int q.2.2],g):=by
 have a:(bI ks).length=S.length:=by rw[bI,oY,v]
 have lc:(bI y).length=S.length:=by rw[bI,oY,k]
 have pk:=D8 (ks:=bI ks) (r:=r) (g:=g) (by lia);rw[a]at pk;have e:ke [dN S,bI ks,bI y] S.length=(S.zip (ks.zip y)).map λq=>.tup [.int q.1,.int q.2.1,.int q.2.2]:=by
  unfold ke;refine Zy λi=>?_;rw[m2,m2];by_cases h:i<S.length
  . have f:i<ks.length:=by lia
    have k:i<y.length:=by lia
    rw[Xw h,lC (show i<(S.zip (ks.zip y)).length by rw[BU,BU];lia)];simp[h,f,k,dN,bI]
  . rw[OF (by simpa using h),OF (by rw[BU];lia)];rfl
 have j:bg σ g=some (.lst (dN S),g):=by simp[s]
 have c:dV σ g=some (.tup (bI y),g):=by simp[u]
 have b:wd a7 eh (aY cJ) (aY b4) σ g=some (.tup (bI ks),g):=by generalize ((2*S.length:Nat):Int)=z at *;rw[JE];simp[n,l,pk]
 unfold Bc;rw[wA];simp only[bS,j,b,c,cG,k9];simp[oN,r6,a,lc,bW,e]
noncomputable def Pa:FT:=aB (aj cY a7 bg)
section
variable {g:G}
theorem zz:∀(l:List (Nat×Int×Int)) (a b c:Option D),cQ (gT 3 (bV (gN 1) (bV (gN 2) (bV (gN 3) gp)))) Pa a5 (l.map λq=>D.tup [.int q.1,.int q.2.1,.int q.2.2]) [none,a,b,c] g=some (dN ((l.filter λq=>decide (q.2.1≠q.2.2)).map (·.1)),g)
 | [],_,_,_=>rfl
 |q::l,a,b,c=>by
  have i:=zz l (some (.int q.1)) (some (.int q.2.1)) (some (.int q.2.2));have t:Pa [none,some (.int q.1),some (.int q.2.1),some (.int q.2.2)] g=some (decide (q.2.1≠q.2.2),g):=by unfold Pa;rw[cN,cp (d:=.int q.2.1) (d':=.int q.2.2) (g1:=g) (g2:=g) rfl rfl,SQ];rfl
  simp only[wh,cQ];rw[show gT 3 (bV (gN 1) (bV (gN 2) (bV (gN 3) gp))) (D.tup [.int q.1,.int q.2.1,.int q.2.2]) [none,a,b,c] g=some ([none,some (.int q.1),some (.int q.2.1),some (.int q.2.2)],g) from rfl];simp only[k9,t,i];by_cases h:q.2.1≠q.2.2
  . rw[X3,if_pos (decide_eq_true h),if_pos (decide_eq_true h),show a5 [none,some (D.int q.1),some (.int q.2.1),some (.int q.2.2)] g=some (.int q.1,g) from rfl]
    simp only[k9,i];rfl
  . rw[X3,if_neg (by simpa using h),if_neg (by simpa using h)]
end
noncomputable def nh (m:D)(n o sh:Nat)(h:List Int)(fs c:List D)(g:List Int)(a b:Option D):Sg:=[some m,some (.int o),some (.tup (bN h fs c g)),some (.lst (dN (aw n o sh))),some (.int ((2*(aw n o sh).length:Nat):Int)),some (.tup (bI g)),some (.ref 0),some (.tup fs),some (.tup c),some (.lst (dN (dj n o))),a,b]
def Pb {ks:List Int}{cs:List Int}{fs:List D}{ss:List D}(S:iG m i j o K X U l T R Q)(C:BC c)(B:BC b){A:List D}(E:A.length<=100):D9 (aq false 3 3 (pD l)) (nh m i o X ks fs ss cs (some c) (some b)) [A]=some (.nx,nh m i o X ks fs ss cs (some c) (some b),[A++(kL i o K [(c,b)]).map .int]):=by
 have k:=O_ (g:=[A]) S C B;obtain⟨v,x,t,e,hv⟩:=B;have w:xu b=x:=by rw[e];rfl
 generalize n:nh m i o X ks fs ss cs (some c) (some b)=H;have a:a6 H [A]=some (m,[A]):=by subst n;rfl
 have O:ew H [A]=some (.lst (dN (dj i o)),[A]):=by subst n;rfl
 have p:fb H [A]=some (c,[A]):=by subst n;rfl
 have h:eM H [A]=some (b,[A]):=by subst n;rfl
 have z:d4 H [A]=some (.ref 0,[A]):=by subst n;rfl
 have f:aj au eM ba H [A]=some (.int x,[A]):=(cp h rfl).trans (by rw[e];simp[dP,aW,A_]);have d:dA (dN (dj i o))<=50:=oR λy u=>by obtain⟨tg,_,rfl⟩:=mM.mp u;simp[dep]
 have s:mi (.int x) (.lst (dN (dj i o))) [A]=some (.bl (pG i o x),[A]):=by simp[mi,nR,aW,CI,flat,lJ,d,pG]
 have Y:aB (aj mi (aj au eM ba) ew) H [A]=some (pG i o x,[A]):=by rw[cN,cp f O,s];rfl
 have Z:nH (ao (aq false 3 3 (pD l)) (aa a6 (aa fb (aa eM ag)))) H [A]=some (xw K c b,[A]):=by simp only[Jw,fV,bS,a,p,h,cG,k9,k];rfl
 have I:ib (aB (aj mi (aj au eM ba) ew)) (nH (ao (aq false 3 3 (pD l)) (aa a6 (aa fb (aa eM ag))))) H [A]=some (pG i o x&&xw K c b,[A]):=by
  rw[rS,Y];cases pG i o x
  . rfl
  . rw[afc];exact Z
 have r:(kL i o K [(c,b)]).map D.int=if(pG i o x&&xw K c b)=true then [.int x]else []:=by unfold kL;rw[X3,w];split<;>simp[w]
 unfold D9;rw[r];cases J:pG i o x&&xw K c b with
 |false =>
  rw[J]at I;rw[if_neg (by simp),tA];exact(bP I).trans rfl
 |true =>
  rw[J]at I;rw[if_pos rfl];refine(iS I).trans ?_;have zl:aC (A.length+1)=true:=aR (by lia);have em:gC isRef eZ d4 (aa (aj au eM ba) ag) H [A]=some (.ay,[A ++ [.int x]]):=by
    have ea:aa (aj au eM ba) ag H [A]=some ([.int x],[A]):=by simp only[bS,f,cG,k9]
    rw[Kj,z];simp only[k9,ea];simp[isRef,eZ,zl]
  rw[show kC (gC isRef eZ d4 (aa (aj au eM ba) ag)) H [A]=(gC isRef eZ d4 (aa (aj au eM ba) ag) H [A]).bind λq=>some (.nx,H,q.2) from rfl,em];rfl
section
variable {ks cs:List Int}{fs ss:List D}
theorem zA (S:iG m i j o K X U l T R Q):∀(p:List (D×D)) (A:List D) (a b:Option D),(∀q∈p,BC q.1/\BC q.2)->A.length+p.length<=100->∃g r,forL HS (D9 (aq false 3 3 (pD l))) (p.map λq=>.tup [q.1,q.2]) (nh m i o X ks fs ss cs a b) [A]=some (.nx,nh m i o X ks fs ss cs g r,[A++(kL i o K p).map .int])
 | [],A,a,b,_,_=>⟨a,b,by simp[forL,kL]⟩
 |q::p,A,a,b,h,u=>by
  obtain⟨f,e⟩:=h q (by simp);simp only[vq]at u;have c:=Pb (ks:=ks) (cs:=cs) (fs:=fs) (ss:=ss) S f e (A:=A) (by lia);have k:((kL i o K [(q.1,q.2)]).map D.int).length<=1:=by rw[oY];unfold kL;rw[oY];exact LW _ _
  obtain⟨g,r,n⟩:=zA S p (A++(kL i o K [(q.1,q.2)]).map .int) (some q.1) (some q.2) (λx v=>h x (by simp[v])) (by rw[lN];lia);refine⟨g,r,?_⟩;have t:HS (.tup [q.1,q.2]) (nh m i o X ks fs ss cs a b) [A]=some (nh m i o X ks fs ss cs (some q.1) (some q.2),[A]):=rfl;have y:kL i o K (q::p)=kL i o K [(q.1,q.2)]++kL i o K p:=by unfold kL;rw[show q::p = [(q.1,q.2)]++p from rfl,ae_,Gn]
  simp only[wh,forL,t,k9,c,n];rw[y,Gn,sP]
end
noncomputable def g_ (n o c sh:Nat)(g:List Int)(fs h:List D)(i:List Int):List Nat:=(m9 n o c sh g fs h i).map Tj
def zB:(g_ i o j K y r Y Z).map (λ(n:Nat)=>(n:Int))=m9 i o j K y r Y Z:=by
 unfold g_;rw[Dd];conv=>rhs;rw[<- af4 (m9 i o j K y r Y Z)]
 refine List.map_congr_left λx a=>?_;obtain⟨n,_,rfl⟩:=zx a;simp
def Pc:dN (g_ i o j K y r Y Z)=(m9 i o j K y r Y Z).map .int:=by rw[<- zB,Dd];rfl
def zC:j∈iH i o K X y r Y Z ↔ j∈g_ i o K X y r Y Z:=by rw[Kz,<- zB,mM];exact⟨λ⟨n,a,e⟩=>(show n=j by lia) ▸ a,λh=>⟨j,h,rfl⟩⟩
def KA {ks:List Int}{cs:List Int}{S:List Nat}:(ou S ks cs).length<=S.length:=by unfold ou;rw[oY];refine n7 (LW _ _) ?_;rw[BU];lia
def Pe {n:Nat}{sh:Nat}{ks:List Int}{cs:List Int}{fs:List D}{ss:List D}(S:iG m n i o j sh K l T R Q)(mo:Rg n i o sh ks fs ss cs):ot l T R Q [m,.int o,.tup (bN ks fs ss cs)] []=some (.lst (dN (iH n o j sh ks fs ss cs)),[]):=by
 have E:=mo.wl;have H:((bN ks fs ss cs).length:Int)-((aw n o sh).length:Int)=((2*(aw n o sh).length+2*i:Nat):Int):=by rw[E];lia
 have I:((2*(aw n o sh).length:Nat):Int)+(i:Int)=((2*(aw n o sh).length+i:Nat):Int):=by lia
 have J:cu 2 ((aw n o sh).length:Int)=true:=rfl;have sl:=gZ (n:=n) (o:=o) (sh:=sh);have n5:=S.n5;have p4:=S.p4;have s:=O8 mo;have O:=O7 mo;have sc:=λg=>O9 (g:=g) S mo;have U:bN ks fs ss cs=cX (bI ks)++(fs++(ss++bI cs)):=by simp[bN]
 have zl:aC ((aw n o sh).zip (ks.zip cs)).length=true:=aR (by rw[BU];lia);have ab:=KA (S:=aw n o sh) (ks:=ks) (cs:=cs);obtain⟨k,f,u⟩:∃(k:Sg) (f:G),O0 l T R Q (aq false 4 3 (jG T Q)) (aq false 3 3 (pD l)) ([m,.int o,.tup (bN ks fs ss cs)].map some++l6 (12-3) none) []=some (.rt (.lst (dN (iH n o j sh ks fs ss cs))),k,f):=by
  have Y:=Wa (S:=aw n o sh) (r:=fs++(ss++bI cs)) (σ:=[some m,some (.int o),some (.tup (bN ks fs ss cs)),some (.lst (dN (aw n o sh))),some (.int ((2*(aw n o sh).length:Nat):Int)),some (.tup (bI cs)),none,none,none,none,none,none]) (g:=[]) mo.kl mo.cl (by lia) (by rw[U];rfl) rfl rfl rfl;have cn:=zz (g:=[]) ((aw n o sh).zip (ks.zip cs)) none none none;have Z:=V_ (fs:=fs) (ss:=ss) (σ:=nh m n o sh ks fs ss cs none none) (g:=[dN (ou (aw n o sh) ks cs)]) (by rw[mo.sl,mo.fl]) rfl rfl;obtain⟨a,b,h⟩:=zA (ks:=ks) (cs:=cs) (fs:=fs) (ss:=ss) S (fs.zip ss) (dN (ou (aw n o sh) ks cs)) none none (λq C=>⟨mo.fa _ (TB C).1,mo.sa _ (TB C).2⟩) (by rw[bW,BU,mo.fl,mo.sl];lia);have z:dN (ou (aw n o sh) ks cs)++(kL n o j (fs.zip ss)).map .int=dN (g_ n o j sh ks fs ss cs):=by rw[Pc,m9,Gn,Dd];rfl
  rw[z]at h
  have x:cU a7 (aY (aj (bD cA (· - ·)) (ao bw (aa a7 ag)) (ao bw (aa bg ag)))) eh [some m,some (.int o),some (.tup (bN ks fs ss cs)),some (.lst (dN (aw n o sh))),some (.int ((2*(aw n o sh).length:Nat):Int)),none,none,none,none,none,none,none] []=some (.tup (bI cs),[]):=by generalize bN ks fs ss cs=W at *;generalize ((2*(aw n o sh).length+2*i:Nat):Int)=a at *;simp[bW,H,fM,s]
  have k2:cU a7 (aY cJ) (aY (aj aJ cJ (ao T (aa a6 ag)))) [some m,some (.int o),some (.tup (bN ks fs ss cs)),some (.lst (dN (aw n o sh))),some (.int ((2*(aw n o sh).length:Nat):Int)),some (.tup (bI cs)),some (.ref 0),none,none,none,none,none] [dN (ou (aw n o sh) ks cs)]=some (.tup fs,[dN (ou (aw n o sh) ks cs)]):=by generalize bN ks fs ss cs=W at *;generalize ((2*(aw n o sh).length:Nat):Int)=a at *;generalize ((2*(aw n o sh).length+i:Nat):Int)=b at *;simp[S.hp,I,fM,O]
  have k3:bA jx Bc [none,none,none,none] (gT 3 (bV (gN 1) (bV (gN 2) (bV (gN 3) gp)))) (aB (aj cY a7 bg)) a5 [some m,some (.int o),some (.tup (bN ks fs ss cs)),some (.lst (dN (aw n o sh))),some (.int ((2*(aw n o sh).length:Nat):Int)),some (.tup (bI cs)),none,none,none,none,none,none] []=some (.ref 0,[dN (ou (aw n o sh) ks cs)]):=by rw[fW,Y];simp only[k9,oY,zl,if_true];rw[show cq [none,none,none,none] _ = [none,none,none,none] from rfl];have y:cQ (gT 3 (bV (gN 1) (bV (gN 2) (bV (gN 3) gp)))) (aB (aj cY a7 bg)) a5 (((aw n o sh).zip (ks.zip cs)).map λq=>D.tup [.int q.1,.int q.2.1,.int q.2.2]) [none,none,none,none] []=_:=cn;rw[y];rfl
  have kf:fK Bb HS (D9 (aq false 3 3 (pD l))) (nh m n o sh ks fs ss cs none none) [dN (ou (aw n o sh) ks cs)]=some (.nx,nh m n o sh ks fs ss cs a b,[dN (g_ n o j sh ks fs ss cs)]):=by rw[lq,Z,k9];exact h
  have v:pT d4 (nh m n o sh ks fs ss cs a b) [dN (g_ n o j sh ks fs ss cs)]=some (.lst (dN (iH n o j sh ks fs ss cs)),[dN (g_ n o j sh ks fs ss cs)]):=by
   have e:=DX (L:=g_ n o j sh ks fs ss cs) (ms:=iH n o j sh ks fs ss cs) (λnum=>zC) D_ O5;have B:=(adT (bU (λp=>((g_ n o j sh ks fs ss cs).map λ(num:Nat)=>(num:Int)).getD p 0) ((g_ n o j sh ks fs ss cs).map λ(num:Nat)=>(num:Int)).length)).length_eq.symm.trans (congrArg aeS e)
   replace B:=Y1 B
   replace B:=n7 B (n7 (Y1 (oY _)) (zy n5 S.on))
   have ei:fq (dN (g_ n o j sh ks fs ss cs))=some ((g_ n o j sh ks fs ss cs).map λ(num:Nat)=>(num:Int)):=by have:=baE ((g_ n o j sh ks fs ss cs).map λ(num:Nat)=>(num:Int));rw[Dd]at this;exact this
   have h7:∀p,p<((g_ n o j sh ks fs ss cs).map λ(num:Nat)=>(num:Int)).length->0<=((g_ n o j sh ks fs ss cs).map λ(num:Nat)=>(num:Int)).getD p 0/\((g_ n o j sh ks fs ss cs).map λ(num:Nat)=>(num:Int)).getD p 0<=7:=λp c=>by rw[oY]at c;have:(g_ n o j sh ks fs ss cs)[p]< n:=(fI.mp (ro.mp (zC.mpr (p6 c))).1).1;rw[nK,m2,lC c];exact⟨ae5 _,by show((g_ n o j sh ks fs ss cs)[p]:Int)<=7;lia⟩
   generalize g_ n o j sh ks fs ss cs=L at *;rw[yY,show d4 (nh m n o sh ks fs ss cs a b) [dN L]=some (.ref 0,[dN L]) from rfl];simp only[k9,iZ,ac7,ei];rw[if_pos (decide_eq_true ⟨B,h7⟩),e];simp[dN,Dd,MZ]
  exact⟨_,_,bf (S.hs []) (bf (d:=.int ((2*(aw n o sh).length:Nat):Int)) (g1:=[]) (by simp[bW,J]) (bf x (bf k3 (bf k2 (bf (sc _) (bf (S.ho _) (aN kf (cw v))))))))⟩
 have w:k0 (ot l T R Q [m,.int o,.tup (bN ks fs ss cs)] []) λq=>q=(.lst (dN (iH n o j sh ks fs ss cs)),[]):=by refine jO rfl ?_;rw[u];simp only[gr];refine⟨?_,by simp,by simp,by simp⟩;simp only[bR];exact dR _ lJ
 obtain⟨q,e,rfl⟩:=w;exact e
def Wb (S:iG m i j o K X U T R Q O)(p:Rg i j o X y r Y Z):cR (bF 2 1 (ng (ot T R Q O))) ([m,.int o] ++ [.tup (bN y r Y Z)]) a=some (.lst (dN (iH i o K X y r Y Z)),a):=by
 have b:bC (bN y r Y Z)=true:=gP p.fla;have f:fZ ([m,.int o] ++ [.tup (bN y r Y Z)])=true:=by simp[fZ,jE,gO m S.fm,gj _ b]
 have c:aP 0 ([m,.int o] ++ [.tup (bN y r Y Z)])=true:=by simp[aP,bR,dC m S.fm,dR _ b]
 have e:bF 2 1 (ng (ot T R Q O)) ([m,.int o] ++ [.tup (bN y r Y Z)]) []=some (.lst (dN (iH i o K X y r Y Z)),[]):=by unfold bF;rw[if_pos (show([m,.int o] ++ [.tup (bN y r Y Z)]:List D).length=2+1 from rfl)];exact Pe S p
 have g:=lJ (l:=iH i o K X y r Y Z);have h:bR 0 (.lst (dN (iH i o K X y r Y Z)))=true:=by simp only[bR];exact dR _ g
 have n:jE (.lst (dN (iH i o K X y r Y Z)))=true:=by simp only[jE];exact gj _ g
 unfold cR fD;rw[if_pos f,if_pos c,e];simp only[k9];rw[if_pos h];simp only[k9];rw[if_pos n]
def Pf {n:Nat}{p:Nat}{sh:Nat}{g:G}(hR:C x=some (cR (bF 0 1 a6)))(S:iG m n p o j sh K l T R Q)(B:∀g,O [m] g=some (.tup (eK p),g))(num:Rg n p o sh y r Y Z)(A:i<3*(aw n o sh).length+2*p):
   ∃E,(Wg n p o sh y)[i]? = some E/\aq false 6 3 (uc Q O (aq false 5 4 (iF C)) x) [m,.int o,.tup ((bN y r Y Z).take i)] g=some (E,g):=by
 have J:=num.wl;have n5:=S.n5;have p4:=S.p4;have sl:=gZ (n:=n) (o:=o) (sh:=sh);have lt:((bN y r Y Z).take i).length=i:=by rw[yX,J];lia
 have cl:(cls "call" o (aw n o sh)).length=(aw n o sh).length:=by simp[cls]
 have nm:cu 2 ((aw n o sh).length:Int)=true:=rfl;have zl:((aw n o sh).zip y).length=(aw n o sh).length:=by rw[BU,num.kl];lia
 by_cases h:i<2*(aw n o sh).length
 . have f:i / 2<(aw n o sh).length:=by lia
   have mo:i / 2<y.length:=by rw[num.kl];exact f
   have s:((aw n o sh).zip y)[i / 2]? = some ((aw n o sh)[i / 2],y[i / 2]):=by rw[adJ];exact⟨lC f,lC mo⟩
   have U:aP 0 (cls "call" o (aw n o sh))=true:=gX λE c=>by obtain⟨H,_,rfl⟩:=mM.mp c;rfl
   have a2:aP 0 ((aw n o sh).map λH=>de o H)=true:=gX λE c=>by obtain⟨H,_,rfl⟩:=mM.mp c;rfl
   have a3:aP 0 ((bN y r Y Z).take i)=true:=gX λE c=>dC E (num.fla E (M3 c));obtain⟨E,h1,fx,c⟩:∃E,(((aw n o sh).zip y).flatMap λq=>[D.tup [.str "read",.tup [.str "call",.int q.1,.int o]],.tup [.str "write",de o q.1,.int q.2]])[i]? = some E/\flat E=true/\aq false 5 4 (iF C) [.lst (cls "call" o (aw n o sh)),.lst ((aw n o sh).map λH=>de o H),.fn x [],.tup ((bN y r Y Z).take i)] []=some (E,[]):=by
     by_cases I:i % 2=0
     . have:=sD (a:=λq:Nat×Int=>D.tup [.str "read",.tup [.str "call",.int q.1,.int o]]) (b:=λq=>.tup [.str "write",de o q.1,.int q.2]) s
       rw[show 2*(i / 2)=i by lia]at this;exact⟨_,this,rfl,rE (p:=i / 2) (by rw[lt];lia) (by rw[cls,m2,lC f];rfl)⟩
     . have hk:(bN y r Y Z)[2*(i / 2)]? = some (.int y[i / 2]):=by
         unfold bN;rw[sP,sP,m5 (by rw[gy,bI,oY];lia)];exact rD (by rw[bI,m2,lC mo];rfl)
       have e:(bN y r Y Z).take i=(bN y r Y Z).take (2*(i / 2)) ++ [.int y[i / 2]]:=by
         conv=>lhs;rw[show i=2*(i / 2)+1 by lia]
         rw[aeQ,hk];rfl
       have:=xq (a:=λq:Nat×Int=>D.tup [.str "read",.tup [.str "call",.int q.1,.int o]]) (b:=λq=>.tup [.str "write",de o q.1,.int q.2]) s;rw[show 2*(i / 2)+1=i by lia]at this;refine⟨_,this,rfl,?_⟩;rw[e];refine uj (p:=i / 2) (cap:=[]) hR (O3 rfl) ?_ ?_
       . rw[<- e,lt];lia
       . rw[m2,lC f];rfl
   refine⟨E,?_,?_⟩
   . unfold Wg
     rw[m5 (by rw[oq,zl];exact h)];exact h1
   generalize (bN y r Y Z).take i=W at *;refine aU rfl (bf (xt S rfl rfl).1 (lE ((iS (g1:=g) ?_).trans (bf (xt S rfl rfl).2 (cw (iX (by simp[aP,bR,U,a2,a3]) c fx)))))) rfl;simp[cl,nm,d5,lt];lia
 . obtain⟨e,I⟩:∃e,i=2*(aw n o sh).length+e:=⟨i-2*(aw n o sh).length,by lia⟩
   have el:e<(pF n p o sh).length:=by simp[pF,eK,cls];lia
   refine⟨.tup [.str "read",(pF n p o sh)[e]],?_,?_⟩
   . unfold Wg
     rw[th (by rw[oq,zl];lia),oq,zl,I,Nat.add_sub_cancel_left,F5,m2,lC el];rfl
   have z2:aC 2=true:=rfl;have tg:¬((i:Int)<2*((aw n o sh).length:Int)):=by lia
   have u:(i:Int)-2*((aw n o sh).length:Int)=((e:Nat):Int):=by lia
   have mt:=Vq (g:=g) (xs:=eK p) (k:=2) (by decide) (by decide) (by simp[eK];lia);have rp:(l6 (2:Int).toNat (eK p)).flatten=eK p++eK p:=by show(l6 2 (eK p)).flatten=_;simp[l6]
   rw[rp]at mt;have at_:cF (pF n p o sh) (e:Int)=some (pF n p o sh)[e]:=gQ (lC el)
   have zb:aC ((eK p++eK p).length+(cls "call" o (aw n o sh)).length)=true:=aR (by simp[eK,cls];lia);have zc:aC (cls "call" o (aw n o sh)).length=true:=aR (by rw[cl];lia);generalize (bN y r Y Z).take i=W at *;refine aU rfl (bf (xt S rfl rfl).1 (aN (g1:=g) ((bP (g1:=g) (by simp[cl,nm,d5,lt,tg])).trans rfl) (bf (d:=.tup (eK p++eK p)) (g1:=g) (by simp[B g,mt]) (cw ?_)))) rfl;have v:aj aJ dV (ao fL (aa bg ag)) [some m,some (.int o),some (.tup W),some (.lst (cls "call" o (aw n o sh))),none,some (.tup (eK p++eK p))] g=some (.tup (pF n p o sh),g):=by rw[cp (d:=.tup (eK p++eK p)) (d':=.tup (cls "call" o (aw n o sh))) (g1:=g) (g2:=g) rfl (by simp[aW,zc]),l_,if_pos zb];rfl
   have z:aj (bD cA (· - ·)) (ao bw (aa a7 ag)) (aj bJ b4 (ao bw (aa bg ag))) [some m,some (.int o),some (.tup W),some (.lst (cls "call" o (aw n o sh))),none,some (.tup (eK p++eK p))] g=some (.int e,g):=by simp[cl,nm,lt,u]
   show aI aA _ [some m,some (.int o),some (.tup W),some (.lst (cls "call" o (aw n o sh))),none,some (.tup (eK p++eK p))] g=_;have q3:=(cp (o:=au) v z).trans (show au (.tup (pF n p o sh)) (.int e) g=some ((pF n p o sh)[e],g) by simp[dP,aW,at_]);simp only[ji,bS,q3,uL,cG,k9];simp[z2]
noncomputable abbrev R4:=List Int×List D×List D×List Int
noncomputable def da (r:R4):List D:=bN r.1 r.2.1 r.2.2.1 r.2.2.2
noncomputable abbrev rF (n p o sh:Nat)(r:R4):Prop:=Rg n p o sh r.1 r.2.1 r.2.2.1 r.2.2.2
noncomputable def iI (n o c sh:Nat)(r:R4):List Nat:=iH n o c sh r.1 r.2.1 r.2.2.1 r.2.2.2
structure kM (n p o sh:Nat)(rs:List R4):Prop where
 all:∀r∈rs,rF n p o sh r
 dU:rs.length<=20
noncomputable def uo:FS:=(ax (bM (aB (aj oEq (ao bw (aa a7 ag)) dV)) (aH (aI aA (aa (aI aA (aa ft (aa (aI aA (aa gD (aa (aj au cJ ba) ag))) ag))) (aa dV ag)))) aK) (aH (aI aA (aa (aI aA (aa eR (aa (aj au a7 dV) ag))) (aa (aj aJ dV ba) ag)))))
def kM.D3 {rs:List R4}(S:iG m i j o K X U l T R Q)(W:kM i j o X rs):xh (cR (bF 2 1 (ng (ot l T R Q)))) [m,.int o] (bp i j o X) (rs.map da) (rs.map (iI i o K X)):=by
 have h:=S.p1;refine⟨λw hw=>?_,by simp,by unfold bp;lia,by simpa using W.dU,λn c=>?_⟩
 . obtain⟨r,e,rfl⟩:=mM.mp hw
   exact(W.all r e).wl
 . have a:n<rs.length:=by simpa using c
   have b:(rs.map da).getD n []=da rs[n]:=by simp[nK,m2,lC a]
   have f:(rs.map (iI i o K X)).getD n []=iI i o K X rs[n]:=by simp[nK,m2,lC a]
   have p:=W.all _ (p6 a);rw[b,f];exact⟨λg=>Wb S p,D_,n7 (zy S.n5 S.on) (by decide)⟩
def xA {rs:List R4}(W:kM i j o K rs)(c:∀x∈r,flat x=true):∀x∈(rs.map da).flatten++r,flat x=true:=λx a=>by
 rcases mF.mp a with a|a
 . obtain⟨w,hw,a⟩:=ahr.mp a
   obtain⟨rest,b,rfl⟩:=mM.mp hw;exact(W.all rest b).fla x a
 . exact c x a
def zD {n:Nat}{rs:List R4}(W:kM n i o j rs){rest:List D}:((rs.map da).flatten++rest).length=rs.length*bp n i o j+rest.length:=by rw[lN,eQ (n:=bp n i o j) (λw hw=>by obtain⟨r,a,rfl⟩:=mM.mp hw;exact(W.all r a).wl),oY]
def Be {n:Nat}{sh:Nat}{rs:List R4}{g:G}{H:Str->Option Fn}{E:Str}{X:FS}{scF:Fn}(hR:C x=some (cR (bF 2 1 (ng (ot l T R Q)))))(nm:H E=some (cR (bF 0 1 a6)))(S:iG m n j o K sh U l T R Q)(J:∀g,O [m] g=some (.tup (eK j),g))(W:kM n j o sh rs){r:R4}(A:rF n j o sh r)(B:i<bp n j o sh)(I:∀k,k<rs.length->dI (.int U) (rs.map (iI n o K sh)) k):
  ∃Y u,(Wg n j o sh r.1)[i]? = some Y/\aq false 6 3 (um l T Q (aq false 10 5 (cC C)) (aq false 6 3 (uc Q O (aq false 5 4 (iF H)) E)) scF x X) [m,.int o,.tup ((rs.map da).flatten++(da r).take i)] g=some (.tup [Y,u],g):=by
 have p1:=S.p1;have fr:∀Y∈(da r).take i,flat Y=true:=λY a=>A.fla Y (M3 a);have lt:((da r).take i).length=i:=by rw[yX,show(da r).length=bp n j o sh from A.wl];lia
 have c:=rB (rest:=(da r).take i) (mv:=.int U) hR (W.D3 S) rfl (by rw[lt];exact B) (λk v=>I k (by simpa using v));have b:=iX (g:=g) (HU S (xA W fr)) c rfl;obtain⟨Y,a,ex⟩:=Pf (g:=g) nm S J A (i:=i) B;refine⟨Y,.int ((rs.length*bp n j o sh+i:Nat):Int),a,?_⟩;have len:=zD W (rest:=(da r).take i);rw[lt]at len;have Z:1<=bp n j o sh:=by unfold bp;lia
 have cut:pe ((rs.map da).flatten++(da r).take i) (some ((rs.length*bp n j o sh:Nat):Int)) none=(da r).take i:=by unfold pe;rw[lV,iL (by rw[len];lia),gY (n:=bp n j o sh) (λw hw=>by obtain⟨q,h,rfl⟩:=mM.mp hw;exact(W.all q h).wl) (by simp)];rw[show List.drop rs.length (rs.map da)= [] from ZZ.mpr (by simp),afJ,OQ,len];exact Gw (by rw[lt];lia)
 have p:((rs.length*bp n j o sh+i:Nat):Int) / (bp n j o sh:Int)*(bp n j o sh:Int)=((rs.length*bp n j o sh:Nat):Int):=by
  have:(rs.length*bp n j o sh+i) / bp n j o sh=rs.length:=by rw[TR,ahI (by lia),ahs B];lia
  rw[<- aht,this];simp
 have mo:bp n j o sh<=30:=by have:=S.n5;have:=S.p4;have:=gZ (n:=n) (o:=o) (sh:=sh);unfold bp;lia
 have z:=W.dU;have lU:rs.length*bp n j o sh<=600:=Nz z mo;generalize y:(rs.map da).flatten++(da r).take i=RD at *;change aq _ _ _ _ [m,.int o,.tup ((da r).take i)] g=_ at ex;generalize hL:rs.length*bp n j o sh+i=L at *;generalize rs.length*bp n j o sh=num at *;have f:dS L (bp n j o sh)=true:=iR (by lia) (by lia);have s:cu ((L:Int) / (bp n j o sh)) (bp n j o sh)=true:=iQ (by lia) (by lia);have e:aC 2=true:=rfl;refine aU rfl (zw S b (fz (g1:=g) rfl ?_)) rfl;simp[len,f,s,p,fM,cut,ex,e]
def Pg {pre:List D}(R:Rg i j o K y r Y Z):pe (pre++bN y r Y Z) (some ((pre.length+2*(aw i o K).length+j:Nat):Int)) (some ((pre.length+2*(aw i o K).length+2*j:Nat):Int))=Y:=by
 have e:pre++bN y r Y Z=(pre++cX (bI y)++r)++(Y++bI Z):=by simp[bN]
 have a:(pre++cX (bI y)++r).length=pre.length+2*(aw i o K).length+j:=by rw[lN,lN,R.kw,R.fl]
 have b:(pre++bN y r Y Z).length=pre.length+(3*(aw i o K).length+2*j):=by rw[lN,R.wl]
 unfold pe;rw[iL (by lia),qH (by lia),e,<- a,T2,a,show pre.length+2*(aw i o K).length+2*j-(pre.length+2*(aw i o K).length+j)=Y.length by rw[R.sl];lia,W0]
def Ph {pre:List D}(S:iG m i j o K X U l T R Q)(p:Rg i j o X y r Y Z):aq false 4 3 (jG T Q) [m,.int o,.tup (pre++bN y r Y Z)] a=some (.tup Y,a):=by
 have e:(pre++bN y r Y Z).length=pre.length+(3*(aw i o X).length+2*j):=by rw[lN,p.wl]
 have h:((pre++bN y r Y Z).length:Int)-((aw i o X).length:Int)=((pre.length+2*(aw i o X).length+2*j:Nat):Int):=by rw[e];lia
 have f:((pre.length+2*(aw i o X).length+2*j:Nat):Int)-(j:Int)=((pre.length+2*(aw i o X).length+j:Nat):Int):=by lia
 have c:=Pg (pre:=pre) p;generalize pre++bN y r Y Z=W at *;refine aU rfl (bf (d:=.int ((pre.length+2*(aw i o X).length+2*j:Nat):Int)) (g1:=a) (by simp[S.hs a,bW,h]) (cw (d:=.tup Y) (g1:=a) ?_)) rfl;generalize n:((pre.length+2*(aw i o X).length+2*j:Nat):Int)=g at *;generalize ((pre.length+2*(aw i o X).length+j:Nat):Int)=b at *;simp[S.hp a,f,fM,c]
noncomputable abbrev allR (rs:List R4)(r:R4):List D:=((rs ++ [r]).map da).flatten
def F6 {rs:List R4}{r:R4}:allR rs r=(rs.map da).flatten++da r:=by simp[allR]
def kM.snoc {rs:List R4}(W:kM i j o K rs){r:R4}(b:rF i j o K r)(c:rs.length<20):kM i j o K (rs ++ [r]):=⟨λq a=>by
 rcases mF.mp a with a|a
 . exact W.all q a
 . simp at a;subst a;exact b,by simp;lia⟩
def p_ {rs:List R4}(W:kM i j o K rs){r:R4}(b:rF i j o K r)(a:rs.length<20):(allR rs r).length=(rs.length+1)*bp i j o K:=by have:=zD (W.snoc b a) (rest:=[]);rw[tA]at this;simpa using this
noncomputable def Zh (scF:Fn)(X:FS):FS:=ax (bM (aB (aj jk (aj au cJ ba) er)) (aH (aI aA (aa (aI aA (aa eR (aa (ao fL (aa (bA bH (cy (ao scF (aa a6 (aa a5 (aa (cU a7 eh (aY dV)) ag))))) [none,none] (gN 1) b9 (aj au a5 b0)) ag)) ag))) (aa dV ag)))) aK) X
noncomputable def iJ (m:D)(n p o sh:Nat)(a:List D)(s U:Nat)(c:Option Nat):Sg:=[some m,some (.int o),some (.tup a),some (.int (bp n p o sh)),some (.tup [.int s,eD c]),some (.int U)]
def ox {rs:List R4}{g:G}{X:FS}{step scF:Fn}(hR:C x=some (cR (bF 2 1 (ng (ot l T R Q)))))(S:iG m i j o K U H l T R Q)(W:kM i j o U rs){r:R4}(q:rF i j o U r)(y:rs.length<20){rest:List D}(v:∀n∈rest,flat n=true){en:Option Nat}(z:∀k,k<rs.length->dI (.int H) ((rs ++ [r]).map (iI i o K U)) k)(A:i8 (.int H) ((rs ++ [r]).map (iI i o K U)) rs.length en){Y:Option (F×Sg×G)}(k:Zh scF X (iJ m i j o U (allR rs r++rest) (rs.length*bp i j o U) ((rs.length+1)*bp i j o U) en) g=Y):
  um l T Q (aq false 10 5 (cC C)) step scF x X ([m,.int o,.tup (allR rs r++rest)].map some++l6 (6-3) none) g=Y:=by
 have nm:=S.p1;have e:=W.snoc q y;have B:((rs ++ [r]).map da).length=rs.length+1:=by simp
 have c:=rC (rest:=rest) (mv:=.int H) (en:=en) hR (e.D3 S) rfl (by lia) (λk h=>z k (by rw[B]at h;lia)) (by rw[B,adW];exact A);rw[B,adW]at c;have f:=iX (g:=g) (HU S (xA e v)) c (by cases en<;>rfl);have p:((rs.length*bp i j o U:Nat):Int)+(bp i j o U:Int)=(((rs.length+1)*bp i j o U:Nat):Int):=by rw[ql];lia
 have u:∀a b:D,cF [a,b] 0=some a:=λ_ _=>rfl;unfold allR at *;generalize ((rs ++ [r]).map da).flatten++rest=E at *;refine zw S f (aN (g1:=g) ((bP (g1:=g) rfl).trans rfl) (bf (d:=.int ((rs.length+1)*bp i j o U:Nat)) (g1:=g) ?_ k));rw[<- p];generalize rs.length*bp i j o U=s at *;simp[dP,aW,u]
def xU {rs:List R4}{g:G}{X:FS}{step:Fn}(hR:C x=some (cR (bF 2 1 (ng (ot l T R Q)))))(S:iG m i j o K U H l T R Q)(W:kM i j o U rs){r:R4}(A:rF i j o U r)(B:rs.length<20){rest:List D}(E:∀O∈rest,flat O=true)(nm:∀k,k<rs.length->dI (.int H) ((rs ++ [r]).map (iI i o K U)) k)(I:i8 (.int H) ((rs ++ [r]).map (iI i o K U)) rs.length none):
  aq false 6 3 (um l T Q (aq false 10 5 (cC C)) step (aq false 4 3 (jG T Q)) x X) [m,.int o,.tup (allR rs r++rest)] g=some (.tup [.tup [.str "told",.tup (r.2.2.1.map Gu)],.int ((rs.length+1)*bp i j o U:Nat)],g):=by
 have sc:aq false 4 3 (jG T Q) [m,.int o,.tup (allR rs r)] g=some (.tup r.2.2.1,g):=by rw[F6];exact Ph S A
 have al:=p_ W A B;have cut:pe (allR rs r++rest) none (some (((rs.length+1)*bp i j o U:Nat):Int))=allR rs r:=by unfold pe;rw[qH (by rw[lN,al];lia)];show((allR rs r++rest).drop 0).take ((rs.length+1)*bp i j o U-0)=_;rw[ad2,Nat.sub_zero,<- al,W0]
 have zs:aC r.2.2.1.length=true:=aR (by rw[A.sl];have:=S.p4;lia);have z2:aC 2=true:=rfl;have c:=dG (t:=gN 1) (c:=b9) (e:=aj au a5 b0) (h:=Gu) (λJ=>∃a,J = [none,a]) r.2.2.1 [none,none] g ⟨_,rfl⟩ (by rintro t hm J ⟨a,rfl⟩;obtain⟨v,a,t,rfl,hv⟩:=A.sa t hm;exact⟨[none,some (.tup [v,.int a,.int t])],by simp,by simp,by simp[dP,aW,u6];rfl,⟨_,rfl⟩⟩)
 refine aU rfl (ox hR S W A B E nm I (fz (g1:=g) (rfl:(aB (aj jk (aj au cJ ba) er)) (iJ m i j o U (allR rs r++rest) (rs.length*bp i j o U) ((rs.length+1)*bp i j o U) none) g=some (true,g)) ?_)) rfl;generalize allR rs r++rest=b at *;generalize allR rs r=sh at *;generalize (rs.length+1)*bp i j o U=mo at *;generalize rs.length*bp i j o U=s at *;have z:cU a7 eh (aY dV) (iJ m i j o U b s mo none) g=some (.tup sh,g):=by show(cU a7 eh (aY dV)) [some m,some (.int o),some (.tup b),some (.int (bp i j o U)),some (.tup [.int s,eD none]),some (.int mo)] g=_;simp[fM,cut]
 have Y:a6 (iJ m i j o U b s mo none) g=some (m,g):=rfl;have Z:a5 (iJ m i j o U b s mo none) g=some (.int o,g):=rfl;have y:dV (iJ m i j o U b s mo none) g=some (.int mo,g):=rfl;have hs:cq [none,none] (iJ m i j o U b s mo none)= [none,none]:=rfl;generalize iJ m i j o U b s mo none=f at *;have n:ao (aq false 4 3 (jG T Q)) (aa a6 (aa a5 (aa (cU a7 eh (aY dV)) ag))) f g=some (.tup r.2.2.1,g):=by simp only[fV,bS,Y,Z,z,cG,k9,sc]
 have e7:bA bH (cy (ao (aq false 4 3 (jG T Q)) (aa a6 (aa a5 (aa (cU a7 eh (aY dV)) ag))))) [none,none] (gN 1) b9 (aj au a5 b0) f g=some (.lst (r.2.2.1.map Gu),g):=by
  have e9:cy (ao (aq false 4 3 (jG T Q)) (aa a6 (aa a5 (aa (cU a7 eh (aY dV)) ag)))) f g=some (r.2.2.1,g):=by simp only[cy,n,k9,aW,F1]
  rw[fW,e9];simp only[k9,zs,if_true];rw[hs,c];rfl
 have q:aC (r.2.2.1.map Gu).length=true:=by rw[oY];exact zs
 have u:ao fL (aa (bA bH (cy (ao (aq false 4 3 (jG T Q)) (aa a6 (aa a5 (aa (cU a7 eh (aY dV)) ag))))) [none,none] (gN 1) b9 (aj au a5 b0)) ag) f g=some (.tup (r.2.2.1.map Gu),g):=by simp only[fV,bS,e7,cG,k9,yx,aW,q,if_true]
 have p:aI aA (aa eR (aa (ao fL (aa (bA bH (cy (ao (aq false 4 3 (jG T Q)) (aa a6 (aa a5 (aa (cU a7 eh (aY dV)) ag))))) [none,none] (gN 1) b9 (aj au a5 b0)) ag)) ag)) f g=some (.tup [.str "told",.tup (r.2.2.1.map Gu)],g):=by simp only[ji,bS,u,uL,cG,k9];rfl
 rw[ji];simp only[bS,p,y,cG,k9];rfl
def Bf {mo:Nat}{rs:List R4}{g:G}{step scF:Fn}(hR:C x=some (cR (bF 2 1 (ng (ot l T R Q)))))(S:iG m i K o U H mo l T R Q)(W:kM i K o H rs){r:R4}(f:rF i K o H r)(nm:rs.length<20)(q:∀k,k<rs.length->dI (.int mo) ((rs ++ [r]).map (iI i o U H)) k)(v:i8 (.int mo) ((rs ++ [r]).map (iI i o U H)) rs.length (some j)):
   ∃u,aq false 6 3 (um l T Q (aq false 10 5 (cC C)) step scF x uo) [m,.int o,.tup (allR rs r)] g=some (.tup [.tup [.str "read",.tup [.str "view",.int j]],u],g):=by
 have al:=p_ W f nm;have h:=ox (g:=g) (step:=step) (scF:=scF) (X:=uo) (rest:=[]) (Y:=some (.rt (.tup [.tup [.str "read",.tup [.str "view",.int j]],.int ((rs.length+1)*bp i K o H:Nat)]),iJ m i K o H (allR rs r ++ []) (rs.length*bp i K o H) ((rs.length+1)*bp i K o H) (some j),g)) hR S W f nm (by simp) q v ?_
 . rw[tA]at h
   exact⟨_,aU rfl h rfl⟩
 have e:aC 2=true:=rfl;rw[tA];generalize allR rs r=a at *;generalize (rs.length+1)*bp i K o H=n at *;generalize rs.length*bp i K o H=s at *;refine aN (g1:=g) ((bP (g1:=g) rfl).trans rfl) (fz (g1:=g) ?_ rfl);have c:ao bw (aa a7 ag) (iJ m i K o H a s n (some j)) g=some (.int n,g):=by rw[<- al];rfl
 have b:dV (iJ m i K o H a s n (some j)) g=some (.int n,g):=rfl;rw[cN,cp c b];simp[flat,dep,bB,d5]
def Bg {mo:Nat}{rs:List R4}{g:G}{step scF:Fn}(hR:C x=some (cR (bF 2 1 (ng (ot l T R Q)))))(S:iG m i K o U H mo l T R Q)(W:kM i K o H rs){r:R4}(nm:rF i K o H r)(q:rs.length<20){v:D}{rest:List D}(A:flat v=true)(y:∀n∈rest,flat n=true)(z:∀k,k<rs.length->dI (.int mo) ((rs ++ [r]).map (iI i o U H)) k)(B:i8 (.int mo) ((rs ++ [r]).map (iI i o U H)) rs.length (some j)):
   aq false 6 3 (um l T Q (aq false 10 5 (cC C)) step scF x uo) [m,.int o,.tup (allR rs r++v::rest)] g=some (.tup [.tup [.str "told",v],.int (((rs.length+1)*bp i K o H:Nat)+1:Int)],g):=by
 have al:=p_ W nm q;have at_:cF (allR rs r++v::rest) (((rs.length+1)*bp i K o H:Nat):Int)=some v:=gQ (by rw[<- al];simp)
 have len:((allR rs r++v::rest).length:Int)≠((rs.length+1)*bp i K o H:Nat):=by rw[lN,al,vq];lia
 have h:=ox (g:=g) (step:=step) (scF:=scF) (X:=uo) (rest:=v::rest) (Y:=some (.rt (.tup [.tup [.str "told",v],.int (((rs.length+1)*bp i K o H:Nat)+1:Int)]),iJ m i K o H (allR rs r++v::rest) (rs.length*bp i K o H) ((rs.length+1)*bp i K o H) (some j),g)) hR S W nm q (by simp;exact⟨A,y⟩) z B ?_
 . exact aU rfl h rfl
 have u:aC 2=true:=rfl;generalize allR rs r++v::rest=E at *;generalize (rs.length+1)*bp i K o H=p at *;generalize rs.length*bp i K o H=s at *;have f:ao bw (aa a7 ag) (iJ m i K o H E s p (some j)) g=some (.int E.length,g):=rfl;have a:dV (iJ m i K o H E s p (some j)) g=some (.int p,g):=rfl;refine aN (g1:=g) ((bP (g1:=g) rfl).trans rfl) (aN (σ1:=iJ m i K o H E s p (some j)) (g1:=g) ((bP (g1:=g) ?_).trans rfl) (cw ?_))
 . rw[cN,cp f a]
   simp[flat,dep,bB,d5];lia
 . have e:aj au a7 dV (iJ m i K o H E s p (some j)) g=some (v,g):=by
    rw[cp (d:=.tup E) (g1:=g) rfl a];simp[dP,aW,at_]
   have b:aj aJ dV ba (iJ m i K o H E s p (some j)) g=some (.int ((p:Int)+1),g):=by rw[cp (d':=.int 1) (g2:=g) a rfl];rfl
   have c:aI aA (aa eR (aa (aj au a7 dV) ag)) (iJ m i K o H E s p (some j)) g=some (.tup [.str "told",v],g):=by simp only[ji,bS,e,uL,cG,k9];rfl
   rw[ji];simp only[bS,c,b,cG,k9];rfl
end
section
variable {Z H O s q:Fn}{Q:F×Sg×G->Prop}{B E v:Int}{k J A w:D}{Y:List (List Nat)}{X:List Nat}{M:List D}{g:G}{f:Nat->Nat}{z b:FT}{u e:FS}{m:FE}{o10 o11 o12 o13:Option D}
noncomputable def rG (value:Fn):FS:=aH (ao fL (aa (bA bH (iA (aa a5 ag)) [none,none,some 0] (gN 1) b9 (ao value (aa a7 ag))) ag))
noncomputable def hG (c:D):Prop:=∃v m g,c = .tup [v,.int m,.tup g]/\vG v /\ ∀w∈g,vG w
noncomputable def lL (f:Fn):Prop:=∀n (k:Nat) g (B:Int),k<=20->B+3*k<2 ^ 40->Hd g n B->∃(c:List D) (h:G),f [.ref n,.int k] g=some (.tup c,h)/\c.length=k/\(∀w∈c,vG w)/\Hd h n (B+3*k)/\nv n g h
def Eb (A:lG l):lL (aq false 2 2 (rG l)):=λn k g B O Q hd=>by
 have E:k0 (aq false 2 2 (rG l) [.ref n,.int k] g) λq=>∃C:List D,q.1 = .tup C/\C.length=k/\(∀w∈C,vG w)/\Hd q.2 n (B+3*k)/\nv n g q.2:=by
  refine OX rfl ?_;simp[rG];refine mG ?_;have value:aC k=true:=aR (by lia);simp[dB,value];refine⟨by lia,?_⟩;refine iM (λj p H a=>(∃i,H = [none,i,some (.ref n)])/\(p.length=j /\ ∀w∈p,vG w)/\Hd a n (B+3*j)/\nv n g a) _ 0 _ _ [] ⟨⟨none,rfl⟩,⟨rfl,by simp⟩,by simpa using hd,.refl⟩ ?_ ?_
  . rintro j d p H a z ⟨⟨i,rfl⟩,⟨c,f⟩,h,b⟩
    obtain⟨R,rfl⟩:=iU z;simp only[Ds]at *;refine Ou (A n a _ (by lia) h) λv U x s I J=>?_;simp[x,c];refine⟨λw hw=>?_,I.mono (by lia),b.trans J⟩;rcases hw with hw|rfl
    . exact f w hw
    . exact s
  . rintro Y H a ⟨_,⟨c,f⟩,h,b⟩
    simp only[OQ,dB,Ds]at *;simp[c,value];exact⟨b.1,f,h,b⟩
 obtain⟨⟨d,a⟩,e,C,rfl,r,y,o,u⟩:=E;exact⟨C,a,e,r,y,o,u⟩
inductive MQ
 |handed (n tu mo:Nat)
 |signs (n tg sh mo:Nat)
 |shared (n p tg sh mo:Nat)
noncomputable def MQ.d:MQ->D
 |.handed n tu mo=>.tup [.str "handed",.int n,.int tu,.int mo]|.signs n c sh mo=>.tup [.str "signs",.int n,.int c,.int sh,.int mo]|.shared n p c sh mo=>.tup [.str "shared",.int n,.int p,.int c,.int sh,.int mo]
noncomputable def MQ.n:MQ->Nat
 |.handed n _ _=>n|.signs n _ _ _=>n|.shared n _ _ _ _=>n
noncomputable def MQ.p:MQ->Nat
 |.shared _ p _ _ _=>p|M=>M.n
noncomputable def MQ.sh:MQ->Nat
 |.signs _ _ sh _=>sh|.shared _ _ _ sh _=>sh|_=>0
noncomputable def MQ.tu:MQ->Nat
 |.handed _ tu _=>tu|_=>0
noncomputable def MQ.mo:MQ->Nat
 |.handed _ _ mo=>mo|.signs _ _ _ mo=>mo|.shared _ _ _ _ mo=>mo
structure MQ.Ok (M:MQ):Prop where
 m1:1<=M.mo
 m4:M.mo<=4
 n1:1<=M.n
 n5:M.n<=5
 p1:1<=M.p
 p5:M.p<=5
 s1:M.sh<=1
 t9:M.tu<=9
 p4:∀n p tg sh mo,M = .shared n p tg sh mo->p<=4
noncomputable def two (nm:Str)(i j:Nat):D:=.tup [.str nm,.int i,.int j]
noncomputable def sE (M:MQ)(c:D):Prop:=match M with
 |.handed n _ _=>∃v x g,c = .tup [v,.int x,.tup g]/\vG v/\g.length=n /\ ∀w∈g,vG w|M=>SC M.n c
structure CK (M:MQ)(k c:D):Prop where
 bo:∀j,k=own "box" j->BC c
 ow:∀j,k=own "own" j->sE M c
 cl:∀i j,k=two "call" i j->∃x:Int,c = .int x
 vw:∀j,k=own "view" j->∃ws,c = .tup ws/\ws.length=M.p /\ ∀w∈ws,vG w
inductive p7 (M:MQ):D->Prop
 |box (j:Nat) (h:j<M.p):p7 M (own "box" j)
 |own (j:Nat) (h:j<M.n):p7 M (own "own" j)
 |view (j:Nat) (h:j<M.n):p7 M (own "view" j)
 |call (i j:Nat) (h:i<M.n) (h':j<M.n):p7 M (two "call" i j)
 |sign (i j:Nat) (h:i<M.n) (h':j<M.n):p7 M (two "sign" i j)
theorem p7.aO {M:MQ}(h:p7 M k):_root_.aO 6 k=true:=by cases h<;>rfl
theorem p7.bR {M:MQ}(h:p7 M k):_root_.bR 0 k=true:=by cases h<;>rfl
def lM {b:Str}(e:own x i=own b j):x=b/\i=j:=by
 unfold own at e;injection e with e
 injection e with e1 e
 injection e with e2 _
 injection e1 with e1
 injection e2 with e2
 exact⟨e1,by lia⟩
def Pj {b:Str}(e:two x i j=two b o K):x=b/\i=o/\j=K:=by
 unfold two at e;injection e with e
 injection e with e1 e
 injection e with e2 e
 injection e with e3 _
 injection e1 with e1
 injection e2 with e2
 injection e3 with e3
 exact⟨e1,by lia,by lia⟩
def fJ {b:Str}:own x i≠two b o j:=λe=>by
 unfold own two at e;injection e with e
 injection e with _ e
 injection e with _ e
 cases e
noncomputable def u7 (take:Fn):FE:=ao fL (aa (bA bH (iA (aa bg ag)) [none,none,some 0] (gN 1) b9 (ao take (aa a7 (aa b4 ag)))) ag)
noncomputable def HV (take value places state:Fn):FS:=ax (me 3 4 (aa (aj au a5 ba) (aa (ao places (aa a5 ag)) ag))) (ax (bM (aB (aj oEq (aj au a7 b0) gD)) (aH (ao state (aa a6 (aa cJ ag)))) aK) (ax (bM (aB (aj mi (aj au a7 b0) (aI aA (aa i2 (aa fy ag))))) (aH (ao take (aa a6 (aa b4 ag)))) aK) (ax (bM (aB (aj oEq (aj au a7 b0) i3)) (aH (aI aA (aa (ao value (aa a6 ag)) (aa (aj (bD cA (· - ·)) (ao take (aa a6 (aa (aj aJ bg ba) ag))) ba) (aa (ao take (aa a6 (aa b4 ag))) ag))))) aK) (ax (bM (aB (aj oEq (aj au a5 b0) i_)) (aH (ao value (aa a6 ag))) aK) (ax (bM (aB (aj oEq (aj au a5 b0) (fC (.str "twice")))) (aH (aI aA (aa (ao value (aa a6 ag)) (aa (ao take (aa a6 (aa (ma (aj au a5 b4) eL) ag))) ag)))) aK) (ax (bM (aB (aj oEq (aj au a5 b0) fh)) (aH (aI aA (aa (ao value (aa a6 ag)) (aa (ao take (aa a6 (aa (ma (aj au a5 b4) eL) ag))) (aa (ao state (aa a6 (aa bg ag))) ag))))) aK) (ax (aG (u7 take) (gN 5)) (aH (aI aA (aa (ao value (aa a6 ag)) (aa dV (aa (ao take (aa a6 (aa b4 ag))) (aa (ao state (aa a6 (aa bg ag))) ag)))))))))))))
def Pl (y:dw l){k:Nat}{Q:D×G->Prop}(u:h[0]? = some (some (.ref i)))(s:h[3]? = some (some (.int k)))(A:k<=5)(z:B+k<2 ^ 40)(v:Hd g i B)(q:∀(bs:List Int) n,bs.length=k->Hd n i (B+k)->nv i g n->Q (.tup (bs.map .int),n)):k0 (u7 l h g) Q:=by
 unfold u7;simp[u,s];refine mG ?_;have E:aC k=true:=aR (by lia);simp[s,dB,E];refine⟨by lia,?_⟩;refine iM (λj p h n=>(∃f,h = [none,f,some (.ref i)])/\(∃bs:List Int,p=bs.map D.int/\bs.length=j)/\Hd n i (B+j)/\nv i g n) _ 0 _ _ [] ⟨⟨none,by first|rfl|simp[cq,u]⟩,⟨[],rfl,rfl⟩,by simpa using v,.refl⟩ ?_ ?_
 . rintro j d p h n take ⟨⟨f,rfl⟩,⟨bs,rfl,a⟩,c,b⟩
   obtain⟨o,rfl⟩:=iU take;simp only[Ds]at *;simp;refine y.w (by lia) (by decide) (by decide) c λx I J r C H=>?_;exact⟨⟨bs ++ [x],by simp,by simp[a]⟩,C.mono (by lia),b.trans H⟩
 . rintro O h n ⟨_,⟨bs,e,a⟩,c,b⟩
   simp only[OQ,dB,Ds]at *;subst e;simp[a,E];exact q bs n a c b
noncomputable def oy (places:Fn):Prop:=∀(M:MQ) (g:G),places [M.d] g=some (.int M.p,g)
noncomputable def T3:FS:=aH (jZ (aB (aj oEq (aj au a6 b0) gU)) (aj au a6 b4) (aj au a6 ba))
def RH:oy (aq false 1 1 T3):=λM g=>by cases M<;>exact aU rfl (cw rfl) rfl
def KC {f2:FE}(a:C h g=some (.int i,g))(b:f2 h g=some (.int 3,g))(c:i<=9):∃x:Int,ma C f2 h g=some (.int x,g)/\0<x/\x<100:=by
 by_cases k:i=0
 . subst k
   exact⟨3,by simp[ma,a,b],by decide,by decide⟩
 . refine⟨i,?_,by lia,by lia⟩
   have:¬((i:Int)=0):=by lia
   simp[ma,a,this];exact λz=>absurd z k
def Wc (k:dw l){σ:Sg}{tu:Nat}(f:σ[0]? = some (some (.ref i)))(h:aj au a5 b4 σ g=some (.int tu,g))(j:tu<=9)(take:B<2 ^ 40)(c:Hd g i B):∃(x:Int) (n:G),ao l (aa a6 (aa (ma (aj au a5 b4) eL) ag)) σ g=some (.int x,n)/\Hd n i (B+1)/\nv i g n:=by
 obtain⟨m,q,r,a⟩:=KC (f2:=eL) h rfl j;obtain⟨x,u,e,y,b,p,f2⟩:=k i m g _ take r (by lia) c;have v:a6 σ g=some (.ref i,g):=by simp[f]
 refine⟨x,u,?_,p,f2⟩;simp only[fV,bS,v,q,cG,k9];exact e
def km {g1:G}(t:z h g=some (true,g1))(w:k0 (C h g1) λq=>Q (.rt q.1,h,q.2)):k0 (ax (bM z (aH C) u) e h g) Q:=by obtain⟨⟨d,i⟩,c,q⟩:=w;exact⟨_,fz t c,q⟩
def cD {g1:G}(t:z h g=some (false,g1))(k:k0 (e h g1) Q):k0 (ax (bM z u aK) e h g) Q:=kK ((bP t).trans rfl) k
def Bh (w:k0 (C h g) λq=>Q (.rt q.1,h,q.2)):k0 (aH C h g) Q:=by obtain⟨⟨d,c⟩,e,q⟩:=w;exact⟨_,cw e,q⟩
def RJ (w:k0 (C h g) λq=>k0 (u (h.set i (some q.1)) q.2) Q):k0 (ax (aG C (gN i)) u h g) Q:=by obtain⟨⟨d,c⟩,e,q⟩:=w;exact ip e q
section
variable {M:MQ}
theorem CK.view {j:Nat}{a:List D}(h:a.length=M.p)(c:∀w∈a,vG w):CK M (own "view" j) (.tup a):=⟨λ_ e=>absurd (lM e).1 (by decide),λ_ e=>absurd (lM e).1 (by decide),λ_ _ e=>absurd e fJ,λ_ _=>⟨a,rfl,h,c⟩⟩
end
section
variable {M:MQ}
theorem CK.sign {i j:Nat}{c:D}:CK M (two "sign" i j) c:=⟨λ_ e=>absurd e.symm fJ,λ_ e=>absurd e.symm fJ,λ_ _ e=>absurd (Pj e).1 (by decide),λ_ e=>absurd e.symm fJ⟩
end
section
variable {M:MQ}
theorem CK.call {i j:Nat}{x:Int}:CK M (two "call" i j) (.int x):=⟨λ_ e=>absurd e.symm fJ,λ_ e=>absurd e.symm fJ,λ_ _ _=>⟨x,rfl⟩,λ_ e=>absurd e.symm fJ⟩
end
section
variable {M:MQ}
theorem CK.box {j:Nat}{c:D}(h:BC c):CK M (own "box" j) c:=⟨λ_ _=>h,λ_ e=>absurd (lM e).1 (by decide),λ_ _ e=>absurd e fJ,λ_ e=>absurd (lM e).1 (by decide)⟩
end
section
variable {M:MQ}
theorem CK.own {j:Nat}{c:D}(h:sE M c):CK M (_root_.own "own" j) c:=⟨λ_ e=>absurd (lM e).1 (by decide),λ_ _=>h,λ_ _ e=>absurd e fJ,λ_ e=>absurd (lM e).1 (by decide)⟩
end
noncomputable def Fd (c:D):Prop:=flat c=true/\dep c<=9
theorem Fd.int:Fd (.int I):=⟨rfl,by simp[dep]⟩
def rH (h:∀w∈r,vG w):flat (.tup r)=true/\dep (.tup r)<=4:=⟨by simp only[flat];exact gP λd hd=>(h d hd).1,by simp only[dep];have:=oR (k:=3) λd hd=>(h d hd).2;lia⟩
def HW (h:BC c):Fd c:=⟨h.flat,by obtain⟨v,a,t,rfl,b⟩:=h;have:=b.2;simp only[dep,dA];lia⟩
noncomputable def Cq (M:MQ)(h:Nat)(B:Int)(g:G)(k:D)(q:D×G):Prop:=CK M k q.1/\Fd q.1/\Hd q.2 h (B+30)/\nv h g q.2
def HY {M:MQ}(A:dw l)(h:lG Z)(E:lL O)(I:oy H)(ok:M.Ok)(J:p7 M k)(C:Hd g i B)(K:B+40<2 ^ 40):k0 (aq false 6 3 (HV l Z H O) [.ref i,M.d,k] g) (Cq M i B g k):=by
 have n5:=ok.n5;have p5:=ok.p5;have z2:aC 2=true:=rfl;have z3:aC 3=true:=rfl;have z4:aC 4=true:=rfl;refine OX rfl (kK (pX (d:=.int M.n) (d':=.int M.p) (g1:=g) (g2:=g) (by cases M<;>rfl) (I M g)) ?_);cases J with
 |view j hj =>
  refine km (g1:=g) rfl ?_;obtain⟨R,g',e,value,a,b,f⟩:=E i M.p g B (by lia) (by lia) C;have fd:=rH a;exact⟨_,e,f.1,.view value a,⟨fd.1,n7 fd.2 (by decide)⟩,b.mono (by lia),f⟩
 |call take j hi hj =>
  refine cD (g1:=g) rfl (km (g1:=g) rfl ?_);obtain⟨x,g',e,x0,x1,b,f⟩:=A i 2 g B (by lia) (by decide) (by decide) C;exact⟨_,e,f.1,.call,.int,b.mono (by lia),f⟩
 |sign take j hi hj =>
  refine cD (g1:=g) rfl (km (g1:=g) rfl ?_);obtain⟨x,g',e,x0,x1,b,f⟩:=A i 2 g B (by lia) (by decide) (by decide) C;exact⟨_,e,f.1,.sign,.int,b.mono (by lia),f⟩
 |box j hj =>
  refine cD (g1:=g) rfl (cD (g1:=g) rfl (km (g1:=g) rfl ?_));obtain⟨v,g1,e1,q,u,Y⟩:=h i g B (by lia) C;obtain⟨x,g2,z,x0,x1,Q,f2⟩:=A i (M.n+1) g1 _ (by lia) (by lia) (by lia) u;obtain⟨y,U,s,y0,y1,o,f3⟩:=A i 2 g2 _ (by lia) (by decide) (by decide) Q;have F:=(Y.trans f2).trans f3;have bc:BC (.tup [v,.int (x-1),.int y]):=⟨v,x-1,y,rfl,q⟩
  refine⟨(.tup [v,.int (x-1),.int y],U),?_,F.1,.box bc,(HW bc),o.mono (by lia),F⟩;simp[e1,z,s,z3]
 |own j hj =>
  refine cD (g1:=g) rfl (cD (g1:=g) rfl (cD (g1:=g) rfl ?_));have mk:∀{c:D},sE M c->CK M (own "own" j) c:=λi=>.own i;have signs:(∀c:D,SC M.n c->CK M (own "own" j) c)->k0 (ax (aG (u7 l) (gN 5)) (aH (aI aA (aa (ao Z (aa a6 ag)) (aa dV (aa (ao l (aa a6 (aa b4 ag))) (aa (ao O (aa a6 (aa bg ag))) ag)))))) [some (.ref i),some M.d,some (own "own" j),some (.int M.n),some (.int M.p),none] g) λr=>match r.1 with
    |.rt d=>r.2.2.length=g.length/\Cq M i B g (own "own" j) (d,r.2.2)|.nx=>r.2.2.length=g.length/\Cq M i B g (own "own" j) (.ay,r.2.2)|_=>False:=λmk=>by
   refine RJ (Pl A (k:=M.n) rfl rfl n5 (by lia) C λbs g1 bl u Y=>Bh ?_);obtain⟨v,g2,z,p2,Q,f2⟩:=h i g1 _ (by lia) u;obtain⟨x,U,s,x0,x1,o,f3⟩:=A i 2 g2 _ (by lia) (by decide) (by decide) Q;obtain⟨R,g4,e4,l4,a4,zE,f4⟩:=E i M.n U _ (by lia) (by lia) o;have F:=(Y.trans f2).trans (f3.trans f4);have sc:SC M.n (.tup [v,.tup (bs.map .int),.int x,.tup R]):=⟨v,bs,x,R,p2,bl,l4,a4⟩
   refine⟨(.tup [v,.tup (bs.map .int),.int x,.tup R],g4),?_,F.1,mk _ sc,⟨sc.flat,sc.dep⟩,zE.mono (by lia),F⟩;simp[z,s,e4,z4]
  cases M with
  |handed n tu mo =>
   refine cD (g1:=g) rfl (cD (g1:=g) rfl (km (g1:=g) rfl ?_));obtain⟨v,g1,e1,q,u,Y⟩:=h i g B (by lia) C;obtain⟨x,g2,z,Q,f2⟩:=Wc A (σ:=[some (.ref i),some (MQ.handed n tu mo).d,some (own "own" j),some (.int (MQ.handed n tu mo).n),some (.int (MQ.handed n tu mo).p),none]) (tu:=tu) rfl rfl ok.t9 (by lia) u;obtain⟨R,U,s,l3,a3,o,f3⟩:=E i (MQ.handed n tu mo).n g2 _ (by lia) (by lia) Q;have F:=(Y.trans f2).trans f3;have fw:=rH a3;refine⟨(.tup [v,.int x,.tup R],U),?_,F.1,mk ⟨v,x,R,rfl,q,l3,a3⟩,⟨by have:=fw.1;simp only[flat,bC]at this ⊢;rw[q.1,this];rfl,by have:=q.2;have:=fw.2;simp only[dep,dA]at this ⊢;lia⟩,o.mono (by lia),F⟩;have HI:ao Z (aa a6 ag) [some (.ref i),some (MQ.handed n tu mo).d,some (own "own" j),some (.int (MQ.handed n tu mo).n),some (.int (MQ.handed n tu mo).p),none] g=some (v,g1):=e1;have Zi:ao O (aa a6 (aa bg ag)) [some (.ref i),some (MQ.handed n tu mo).d,some (own "own" j),some (.int (MQ.handed n tu mo).n),some (.int (MQ.handed n tu mo).p),none] g2=some (.tup R,U):=s;show aI aA _ [some (.ref i),some (MQ.handed n tu mo).d,some (own "own" j),some (.int (MQ.handed n tu mo).n),some (.int (MQ.handed n tu mo).p),none] g=_;simp only[ji,bS,HI,z,Zi,cG,k9];rfl
  |signs n tg sh mo =>
   exact cD (g1:=g) rfl (cD (g1:=g) rfl (cD (g1:=g) rfl (signs λc i=>mk i)))
  |shared n p tg sh mo =>
   exact cD (g1:=g) rfl (cD (g1:=g) rfl (cD (g1:=g) rfl (signs λc i=>mk i)))
theorem zF {k v:D}:∀{xs:List D},(bb xs k v).length<=xs.length+2
 | []=>by simp[bb]| [_]=>by simp[bb]|c::g::r=>by have:=zF (k:=k) (v:=v) (xs:=r);simp only[bb];split<;>simp<;>lia
theorem HZ {n:Nat}:∀(ps:List (D×D)) (p:List D) (g:G),g[n]? = some p->gM p=true->aP 0 p=true->p.length+2*ps.length<=400->(∀q∈ps,aO 6 q.1=true/\bR 0 q.1=true/\bR 0 q.2=true) ->
  ∃B,XN n ps g=some (g.set n B)/\gM B=true/\aP 0 B=true/\B.length<=p.length+2*ps.length/\(∀k c,aO 6 k=true->bz B k=some c->bz p k=some c\/(k,c)∈ps) /\ ∀k,aO 6 k=true->((∃c,bz p k=some c) \/ ∃c,(k,c)∈ps)->∃c,bz B k=some c
 | [],p,g,E,ka,nr,_,_=>⟨p,by obtain⟨o,e⟩:=l8.mp E;rw[<- e,L6];rfl,ka,nr,by simp,λk c _ h=>.inl h,λk _ h=>by rcases h with h|⟨c,h⟩;exact h;simp at h⟩
 |q::ps,p,g,E,ka,nr,o,hq=>by
  obtain⟨j,y,r⟩:=hq q (by simp);have H:=zF (k:=q.1) (v:=q.2) (xs:=p);simp only[vq]at o;have lt:=(l8.mp E).1;obtain⟨B,e,a,b,c,d,f⟩:=HZ ps (bb p q.1 q.2) (g.set n (bb p q.1 q.2)) (ua lt) (mH j ka) (mI y r nr) (by lia) λx i=>hq x (by simp[i]);have s:pz p=true:=by unfold pz;exact aR (by lia)
  refine⟨B,?_,a,b,by simp only[vq];lia,λk v l u=>?_,λk l i=>f k l ?_⟩
  . simp only[XN,kS,E,k9,j,s,aeg,if_true,e,PL]
  . rcases d k v l u with z|z
    . by_cases C:q.1=k
      . subst C
        rw[eJ j ka]at z;cases z;exact .inr (by simp)
      . rw[iV j l C ka]at z
        exact .inl z
    . exact .inr (by simp[z])
  . by_cases C:q.1=k
    . subst C;exact .inl ⟨_,eJ j ka⟩
    . rw[iV j l C ka]
      rcases i with i|⟨v,i⟩
      . exact .inl i
      . rcases l2.mp i with z|z
        . exact absurd (congrArg Prod.fst z).symm C
        . exact .inr ⟨v,z⟩
theorem zG:∀ps:List (D×D),i7 (ps.map λq=>.tup [q.1,q.2])=some ps
 | []=>rfl|q::ps=>by simp[i7,AX,zG ps]
noncomputable def nE (nm:Str)(a:FE):FE:=bA bH (iA (aa a ag)) [none,none] (gN 1) b9 (aI aA (aa (fC (.str nm)) (aa a5 ag)))
noncomputable def tE (nm:Str):FE:=bA bH (iA (aa a7 ag)) [none,none,some 4] (gN 1) b9 (aI aA (aa (fC (.str nm)) (aa a7 (aa a5 ag))))
noncomputable def Zj:FS:=aG (aj aJ (aj aJ bg (tE "call")) (tE "sign")) (gN 3)
noncomputable def H0 (a:Fn):FE:=bA bH (cy bg) [none,none,some 0,some 1] (gN 1) b9 (aI aA (aa a5 (aa (ao a (aa a7 (aa bg (aa a5 ag)))) ag)))
noncomputable def Ec (places a:Fn):FS:=ax (aG (aj au a5 ba) (gN 2)) (ax (aG (aj aJ (nE "box" (ao places (aa a5 ag))) (nE "own" a7)) (gN 3)) (ax (aG (aj aJ bg (nE "view" a7)) (gN 3)) (ax (fK (iA (aa a7 ag)) (gN 4) Zj) (aH (ao mE (aa (H0 a) ag))))))
def Bi {σ:Sg}(e:C σ g=some (.int i,g))(l:i<=20):nE x C σ g=some (.lst ((nN i).map λj=>own x j),g):=by
 have f:aC 2=true:=rfl;have b:aC i=true:=aR (by lia);have r:=rA (fr:=aa C ag) (σ:=σ) (g:=g) (g1:=g) (n:=i) (by simp[e]) (by lia);have c:=dG (t:=gN 1) (c:=b9) (e:=aI aA (aa (fC (.str x)) (aa a5 ag))) (h:=λd=>D.tup [.str x,d]) (λσ=>∃a,σ = [none,a]) (fB 0 i) [none,none] g ⟨_,rfl⟩ (by rintro t hm σ ⟨a,rfl⟩;exact⟨[none,some t],by simp,by simp,by simp[f],_,rfl⟩)
 unfold nE;rw[fW,r];simp only[k9,dB,b,if_true];rw[show cq [none,none] σ = [none,none] from rfl,c];simp[bH,fB,own,MZ,b]
def H_ {σ:Sg}{n:Nat}(l:σ[2]? = some (some (.int n)))(k:σ[4]? = some (some (.int i)))(o:n<=5):tE x σ g=some (.lst ((nN n).map λj=>two x i j),g):=by
 have f:aC 3=true:=rfl;have b:aC n=true:=aR (by lia);have r:=rA (fr:=aa a7 ag) (σ:=σ) (g:=g) (g1:=g) (n:=n) (by simp[l]) (by lia);have c:=dG (t:=gN 1) (c:=b9) (e:=aI aA (aa (fC (.str x)) (aa a7 (aa a5 ag)))) (h:=λd=>D.tup [.str x,.int i,d]) (λσ=>∃a,σ = [none,a,some (.int i)]) (fB 0 n) [none,none,some (.int i)] g ⟨_,rfl⟩ (by rintro t hm σ ⟨a,rfl⟩;exact⟨[none,some t,some (.int i)],by simp,by simp,by simp[f],_,rfl⟩)
 unfold tE;rw[fW,r];simp only[k9,dB,b,if_true];rw[show cq [none,none,some 4] σ = [none,none,some (.int i)] by simp[cq,k],c];simp[bH,fB,two,MZ,b]
structure T4 (M:MQ)(i:Nat)(L:List D):Prop where
 kk:∀k∈L,p7 M k
 bo:∀j,j<M.p->own "box" j∈L
 ow:∀j,j<M.n->own "own" j∈L
 vw:∀j,j<M.n->own "view" j∈L
 cl:∀a j,a<i->j<M.n->two "call" a j∈L/\two "sign" a j∈L
 le:L.length<=15+10*i
def add_l {xs:List D}(a:C h g=some (.lst xs,g))(c:m h g=some (.lst r,g))(b:xs.length+r.length<=1000):aj aJ C m h g=some (.lst (xs++r),g):=by rw[cp a c,Fh,if_pos (aR b)]
structure xB (M:MQ)(bx:List D):Prop where
 ka:gM bx=true
 nr:aP 0 bx=true
 le:bx.length<=150
 ck:∀k c,p7 M k->bz bx k=some c->CK M k c/\Fd c
 has:∀k,p7 M k->∃c,bz bx k=some c
def F8 {M:MQ}(ok:M.Ok)(y:oy l)(q:∀L B,T4 M M.n L->k0 (aH (ao mE (aa (H0 Z) ag)) [some (.ref o),some M.d,some (.int M.n),some (.lst L),B] g) Q):k0 (Ec l Z [some (.ref o),some M.d,none,none,none] g) Q:=by
 have r:=ok.n5;have x:=ok.p5;have len:∀(nm:Str) k,((nN k).map λj=>own nm j).length=k:=λnm k=>by simp
 refine ip (d:=.int M.n) (g1:=g) (by cases M<;>rfl) (ip (d:=.lst (((nN M.p).map λj=>own "box" j)++(nN M.n).map λj=>own "own" j)) (g1:=g) (add_l (Bi (y M g) (by lia)) (Bi rfl (by lia)) (by rw[len,len];lia)) (ip (d:=.lst ((((nN M.p).map λj=>own "box" j)++(nN M.n).map λj=>own "own" j)++(nN M.n).map λj=>own "view" j)) (g1:=g) (add_l rfl (Bi rfl (by lia)) (by rw[lN,len,len,len];lia)) ?_));refine wp_seq ?_;rw[lq,S3];refine mG ⟨([.int M.n],g),rfl,M.n,rfl,by lia,by lia,?_⟩;refine(rT (λi C places=>places=g /\ ∃L B,T4 M i L/\C = [some (.ref o),some M.d,some (.int M.n),some (.lst L),B]) _ 0 _ _ ⟨rfl,_,_,?_,rfl⟩ ?_ ?_)
 . refine⟨λk c=>?_,λj b=>?_,λj b=>?_,λj b=>?_,λa j h=>absurd h (Yh _),by simp;lia⟩
   . simp only[mF,mM,Cn]at c
     rcases c with(⟨j,o,rfl⟩|⟨j,o,rfl⟩)|⟨j,o,rfl⟩
     . exact .box j o
     . exact .own j o
     . exact .view j o
   . simp only[mF,mM,Cn];exact .inl (.inl ⟨j,b,rfl⟩)
   . simp only[mF,mM,Cn];exact .inl (.inr ⟨j,b,rfl⟩)
   . simp only[mF,mM,Cn];exact .inr ⟨j,b,rfl⟩
 . rintro i d C places s ⟨rfl,L,B,N,rfl⟩
   obtain⟨f,rfl⟩:=iU s;simp only[Ds]at N ⊢;have f:i<M.n:=by simpa using f
   have le:=N.le;refine⟨_,rfl,_,ij (add_l (add_l (xs:=L) rfl (H_ (n:=M.n) (i:=i) rfl rfl r) (by simp;lia)) (H_ (n:=M.n) (i:=i) rfl rfl r) (by simp;lia)),rfl,_,_,?_,rfl⟩;refine⟨λk c=>?_,λj b=>?_,λj b=>?_,λj b=>?_,λa j h b=>?_,by simp;lia⟩
   . simp only[mF,mM,Cn]at c
     rcases c with(c|⟨j,o,rfl⟩)|⟨j,o,rfl⟩
     . exact N.kk k c
     . exact .call i j f o
     . exact .sign i j f o
   . simp only[mF];exact .inl (.inl (N.bo j b))
   . simp only[mF];exact .inl (.inl (N.ow j b))
   . simp only[mF];exact .inl (.inl (N.vw j b))
   . simp only[mF,mM,Cn]
     by_cases e:a=i
     . subst e;exact⟨.inl (.inr ⟨j,b,rfl⟩),.inr ⟨j,b,rfl⟩⟩
     . obtain⟨v,u⟩:=N.cl a j (by lia) b
       exact⟨.inl (.inl v),.inl (.inl u)⟩
 . rintro C places ⟨rfl,L,B,N,rfl⟩
   simp only[Ds,dB,L3]at N;exact⟨rfl,q L B N⟩
def RK {M:MQ}(ok:M.Ok)(A:oy l)(E:∀{g B k},B+40<2 ^ 40->p7 M k->Hd g i B->k0 (Z [.ref i,M.d,k] g) (Cq M i B g k))(C:Hd g i B)(H:B+3000<2 ^ 40):∃I p,aq true 5 2 (Ec l Z) [.ref i,M.d] g=some (.bq g.length,p ++ [I])/\nv i g p/\Hd p i (B+2400)/\xB M I:=by
 have n5:=ok.n5;have Q:k0 (aq true 5 2 (Ec l Z) [.ref i,M.d] g) λq=>∃I p,q=(.bq g.length,p ++ [I])/\nv i g p/\Hd p i (B+2400)/\xB M I:=by
  refine JB rfl (F8 ok A λL o4 N=>Bh ?_);have le:=N.le;have zl:aC L.length=true:=aR (by lia);have z2:aC 2=true:=rfl;show k0 ((aa (H0 Z) ag _ _).bind λr=>mE r.1 r.2) _;rw[S3,bS,S3];unfold H0;refine Ow ⟨(L,g),rfl,zl,?_⟩
  refine iM (λj J R u=>(∃o1,R = [none,o1,some (.ref i),some M.d])/\(∃o:List (D×D),J=o.map (λq=>.tup [q.1,q.2])/\o.map (·.1)=L.take j /\ ∀q∈o,CK M q.1 q.2/\Fd q.2)/\Hd u i (B+30*j)/\nv i g u) L 0 _ _ [] ⟨⟨_,rfl⟩,⟨[],rfl,rfl,by simp⟩,by simpa using C,.refl⟩ ?_ ?_
  . rintro j d J R u U ⟨⟨o1,rfl⟩,⟨o,rfl,hm,x⟩,gz,f'⟩
    simp only[Ds]at *;have jl:=(l8.mp U).1;obtain⟨⟨c,g2⟩,e2,c1,c2,Y,f2⟩:=E (g:=u) (B:=B+30*j) (by lia) (N.kk d (qt U)) gz;have e3:Z [.ref i,M.d,d] u=some (c,g2):=e2;simp[e3,z2];refine⟨⟨o ++ [(d,c)],by simp,?_,λa b places=>?_⟩,Y.mono (by lia),f'.trans f2⟩
    . rw[Gn,hm,aeQ,U];rfl
    . rcases mF.mp places with places|places
      . exact x (a,b) places
      . simp only[ae2,Prod.mk.injEq]at places
        obtain⟨rfl,rfl⟩:=places;exact⟨c1,c2⟩
  . rintro xs R p ⟨_,⟨o,e,hm,x⟩,fF,O⟩
    simp only[OQ,Ds]at e hm fF;subst e;rw[Gw (lb _)]at hm;have pl:o.length=L.length:=by rw[<- hm,oY]
    have y:∀q∈o,q.1∈L:=λq places=>by rw[<- hm];exact Cm places
    have l1:(p ++ [[]])[g.length]? = some []:=by rw[<- O.1];simp
    obtain⟨I,e,a,b,c,d,f⟩:=HZ (n:=g.length) o [] (p ++ [[]]) l1 rfl rfl (by simp;lia) λq places=>⟨(N.kk _ (y q places)).aO,(N.kk _ (y q places)).bR,dC _ (x q places).2.1⟩
    have has:∀k,k∈L->∃c,bz I k=some c:=λk s=>by rw[<- hm]at s;obtain⟨q,places,rfl⟩:=mM.mp s;exact f q.1 (N.kk _ (y q places)).aO (.inr ⟨q.2,places⟩)
    have zp:aC o.length=true:=aR (by lia);have es:(p ++ [[]]).set g.length I=p ++ [I]:=by rw[<- O.1,N1 _ _ (lb _)];simp
    have fin:mE [.lst (o.map λq=>.tup [q.1,q.2])] p=some (.bq g.length,p ++ [I]):=by show((i7 (o.map λq=>.tup [q.1,q.2])).bind _)=_;rw[zG,O.1];simp[e,es]
    refine⟨(.lst (o.map λq=>.tup [q.1,q.2]),p),by simp[bH,zp],?_⟩;simp[fin];refine⟨I,p,⟨rfl,rfl⟩,O,fF.mono (by lia),a,b,by simp at c;lia,λk v s hv=>?_,λk s=>has _ (by
      cases s with
      |box j i=>exact N.bo j i|own j i=>exact N.ow j i|view j i=>exact N.vw j i|call h j i h'=>exact(N.cl h j i h').1|sign h j i h'=>exact(N.cl h j i h').2)⟩
    rcases d k v s.aO hv with z|z
    . simp[bz]at z
    . exact x _ z
 obtain⟨_,e,I,p,rfl,h1⟩:=Q;exact⟨I,p,e,h1⟩
theorem xC {k v c:D}:∀{g:List D},bz g k=some c->(bb g k v).length=g.length
 | [],h=>by simp[bz]at h| [_],h=>by simp[bz]at h
 |i::n::r,h=>by
  simp only[bb];split
  . rfl
  . rename_i e
    simp only[bz]at h;rw[if_neg e]at h;simp only[vq];rw[xC h]
def xB.put {M:MQ}(X:xB M r)(j:p7 M k)(q:CK M k c)(l:Fd c):xB M (bb r k c):=by
 obtain⟨i,g⟩:=X.has k j;refine⟨mH j.aO X.ka,mI j.bR (dC _ l.1) X.nr,by rw[xC g];exact X.le,λb f a h=>?_,λb a=>?_⟩
 . by_cases e:k=b
   . subst e
     rw[eJ j.aO X.ka]at h;cases h;exact⟨q,l⟩
   . rw[iV j.aO a.aO e X.ka]at h
     exact X.ck b f a h
 . by_cases e:k=b
   . subst e
     exact⟨c,eJ j.aO X.ka⟩
   . rw[iV j.aO a.aO e X.ka]
     exact X.has b a
noncomputable def T5 (pick take:Fn):FE:=ao pick (aa a6 (aa (aI fP (aa ba (aa b4 (aa b4 (aa eL (aa eL (aa b4 (aa eL (aa (aj aJ fc (ao take (aa a6 (aa b4 ag)))) ag))))))))) ag))
noncomputable def Zk (pick:Fn):FE:=ao pick (aa a6 (aa (aI fP (aa (aI aA (aa ba (aa ba ag))) (aa (aI aA (aa ba (aa ba ag))) (aa (aI aA (aa b0 (aa ba ag))) (aa (aI aA (aa ba (aa b0 ag))) (aa (aI aA (aa b0 (aa b0 ag))) ag)))))) ag))
noncomputable def Zl (pick:Fn):FE:=ao pick (aa a6 (aa (aI fP (aa b0 (aa b0 (aa b4 (aa (fC (.int 9)) ag))))) ag))
noncomputable def Pm (take pick:Fn):FS:=ax (aG (ao pick (aa a6 (aa a5 ag))) (gN 2)) (ax (me 3 4 (aa (T5 pick take) (aa (aj aJ ba (ao take (aa a6 (aa fc ag)))) ag))) (ax (aG (Zk pick) (gN 5)) (ax (aG (Zl pick) (gN 6)) (ax (bM (aB (aj oEq a7 i_)) (aH (aI aA (aa a7 (aa bg ag)))) aK) (ax (bM (aB (aj oEq a7 (fC (.str "twice")))) (aH (aI aA (aa a7 (aa bg (aa d4 ag))))) aK) (ax (bM (aB (aj oEq a7 fh)) (aH (aI aA (aa a7 (aa bg (aa d4 (aa cJ ag)))))) aK) (ax (bM (aB (aj oEq a7 hI)) (aH (aj aJ (aj aJ (aI aA (aa a7 (aa bg ag))) dV) (aI aA (aa cJ ag)))) aK) (aH (aj aJ (aj aJ (aI aA (aa a7 (aa bg (aa (aj aJ ba (ao take (aa a6 (aa fc ag)))) ag)))) dV) (aI aA (aa cJ ag)))))))))))
noncomputable def zH:List D:=[.str "handed",.str "signs",.str "shared"]
def RL (C:dw l)(A:ig Z)(E:Hd g i B)(H:B+20<2 ^ 40):k0 (aq false 7 2 (Pm l Z) [.ref i,.lst zH] g) λq=>∃M:MQ,M.Ok/\q.1=M.d/\Hd q.2 i (B+10)/\nv i g q.2:=by
 refine OX rfl ?_;obtain⟨w,g1,U,s,Y,f1⟩:=A i zH g B (by lia) (by simp[zH]) (by simp[zH]) E;refine ip (d:=w) (g1:=g1) U ?_;obtain⟨x,g2,e2,x0,x1,I,f2⟩:=C i 2 g1 _ (by lia) (by decide) (by decide) Y;obtain⟨nd,J,e3,k,mZ,f3⟩:=A i [.int 1,.int 2,.int 2,.int 3,.int 3,.int 2,.int 3,.int (4+x)] g2 _ (by lia) (by simp) (by simp) I;obtain⟨n,rfl,c,f⟩:∃n:Nat,nd = .int n/\1<=n/\n<=5:=by
   simp only[l2,A9,or_false]at k;rcases k with rfl|rfl|rfl|rfl|rfl|rfl|rfl|rfl
   . exact⟨1,rfl,by lia,by lia⟩
   . exact⟨2,rfl,by lia,by lia⟩
   . exact⟨2,rfl,by lia,by lia⟩
   . exact⟨3,rfl,by lia,by lia⟩
   . exact⟨3,rfl,by lia,by lia⟩
   . exact⟨2,rfl,by lia,by lia⟩
   . exact⟨3,rfl,by lia,by lia⟩
   . exact⟨(4+x).toNat,by rw[V5 (by lia)],by lia,by lia⟩
 obtain⟨y,o,e4,y0,y1,zE,f4⟩:=C i 4 J _ (by lia) (by decide) (by decide) mZ;obtain⟨mo,Zm⟩:∃mo:Nat,1+y=mo:=⟨(1+y).toNat,(V5 (by lia)).symm⟩
 have j:1<=mo:=by lia
 have h:mo<=4:=by lia
 refine kK (pX (d:=.int n) (d':=.int mo) (g1:=J) (g2:=o) ?_ ?_) ?_
 . have z8:aC 8=true:=rfl
   simp[T5,e2,z8,e3]
 . simp[e4,Zm]
 obtain⟨bd,O,e5,take,Ia,f5⟩:=A i [.tup [.int 1,.int 1],.tup [.int 1,.int 1],.tup [.int 0,.int 1],.tup [.int 1,.int 0],.tup [.int 0,.int 0]] o _ (by lia) (by simp) (by simp) zE;obtain⟨b,sh,rfl,s1⟩:∃b sh:Nat,bd = .tup [.int b,.int sh]/\sh<=1:=by
   simp only[l2,A9,or_false]at take;rcases take with rfl|rfl|rfl|rfl|rfl
   . exact⟨1,1,rfl,by lia⟩
   . exact⟨1,1,rfl,by lia⟩
   . exact⟨0,1,rfl,by lia⟩
   . exact⟨1,0,rfl,by lia⟩
   . exact⟨0,0,rfl,by lia⟩
 refine ip (d:=.tup [.int b,.int sh]) (g1:=O) e5 ?_;obtain⟨td,a,e6,u,r,f6⟩:=A i [.int 0,.int 0,.int 2,.int 9] O _ (by lia) (by simp) (by simp) Ia;obtain⟨tu,rfl,t9⟩:∃tu:Nat,td = .int tu/\tu<=9:=by
   simp only[l2,A9,or_false]at u;rcases u with rfl|rfl|rfl|rfl
   . exact⟨0,rfl,by lia⟩
   . exact⟨0,rfl,by lia⟩
   . exact⟨2,rfl,by lia⟩
   . exact⟨9,rfl,by lia⟩
 refine ip (d:=.int tu) (g1:=a) e6 ?_;have F:=((f1.trans f2).trans (f3.trans f4)).trans (f5.trans f6);have v:Hd a i (B+10):=r.mono (by lia);simp only[zH,l2,A9,or_false]at s;rcases s with rfl|rfl|rfl
 . exact cD (g1:=a) rfl (cD (g1:=a) rfl (km (g1:=a) rfl ⟨_,rfl,F.1,.handed n tu mo,⟨j,h,c,f,c,f,rb _,t9,λ_ _ _ _ _ e=>nomatch e⟩,rfl,v,F⟩))
 . exact cD (g1:=a) rfl (cD (g1:=a) rfl (cD (g1:=a) rfl (km (g1:=a) rfl ⟨_,rfl,F.1,.signs n b sh mo,⟨j,h,c,f,c,f,s1,rb _,λ_ _ _ _ _ e=>nomatch e⟩,rfl,v,F⟩)))
 . refine cD (g1:=a) rfl (cD (g1:=a) rfl (cD (g1:=a) rfl (cD (g1:=a) rfl (Bh ?_))))
   obtain⟨z,g7,e7,z0,Q,Ib,f7⟩:=C i 4 a _ (by lia) (by decide) (by decide) r;obtain⟨p,A⟩:∃p:Nat,1+z=p:=⟨(1+z).toNat,(V5 (by lia)).symm⟩
   have R:=F.trans f7;refine⟨((MQ.shared n p b sh mo).d,g7),?_,R.1,.shared n p b sh mo,⟨j,h,c,f,show 1<=p by lia,show p<=5 by lia,s1,rb _,λn' p' ae ah ab e=>by injection e;lia⟩,rfl,Ib.mono (by lia),R⟩;have z3:aC 3=true:=rfl;have z5:aC 5=true:=rfl;have z6:aC 6=true:=rfl;have Q:aC 1=true:=rfl;simp[e7,A,z3,z5,z6,Q,MQ.d]
noncomputable def Ic:FS:=ax (me 1 2 (aa (aj au a6 ba) (aa (aj au a6 (pf kQ ba)) ag))) (ax (aG (aj aJ (aj bJ (aj (bD cA (· - ·)) a5 ba) (aj (bD cA (· - ·)) a7 ba)) ba) (gN 3)) (ax (bM (aB (aj oEq (aj au a6 b0) fh)) (aH (aj bJ a5 (aj aJ bg ba))) aK) (ax (bM (aB (aj oEq (aj au a6 b0) hI)) (aH (aj bJ bg (aj aJ (aj bJ b4 a5) (aj bJ (aj bJ b4 (aj au a6 eL)) (aj (bD cA (· - ·)) a5 ba))))) aK) (aH (aj aJ (aj bJ bg (aj aJ (aj bJ b4 (aj au a6 b4)) (aj bJ (aj bJ eL (aj au a6 fc)) (aj (bD cA (· - ·)) a5 ba)))) (ao j7 (aa (aj nO a5 ba) ag)))))))
noncomputable def MQ.R (M:MQ):Nat:=(M.n-1)*(M.mo-1)+1
noncomputable def dJ (M:MQ):Nat:=match M with
 |.handed n _ _=>n*(M.R+1)|.signs n _ sh _=>M.R*(2*n+2*(sh*(n-1)))|.shared n p _ sh _=>M.R*(2*p+3*(sh*(n-1)))+if 1<n then 1 else 0
def Pq {M:MQ}(ok:M.Ok):M.R<=13:=by
 have a:M.n-1<=4:=by have:=ok.n5;lia
 have b:M.mo-1<=3:=by have:=ok.m4;lia
 have:=Nz a b;unfold MQ.R;lia
def i9 {f1 f2:FE}{σ:Sg}{i j:Int}(e:f1 σ g=some (.int i,g))(f:f2 σ g=some (.int j,g))(a:-1000<=i)(b:i<=1000)(c:-1000<=j)(d:j<=1000):aj bJ f1 f2 σ g=some (.int (i*j),g):=by rw[cp e f,Jy,if_pos (iQ (by lia) (by lia))]
def KD {M:MQ}(ok:M.Ok)(g:G):aq false 4 1 Ic [M.d] g=some (.int (dJ M),g):=by
 have k:=ok.n1;have l:=ok.n5;have s1:=ok.s1;have r:=ok.m1;have s:=ok.m4;have O:=Pq ok;have I:((M.n:Int)-1)*((M.mo:Int)-1)+1=(M.R:Nat):=by rw[show((M.n:Int)-1)=((M.n-1:Nat):Int) by lia,show((M.mo:Int)-1)=((M.mo-1:Nat):Int) by lia];unfold MQ.R;simp
 have f:aj aJ (aj bJ (aj (bD cA (· - ·)) a5 ba) (aj (bD cA (· - ·)) a7 ba)) ba [some M.d,some (.int M.n),some (.int M.mo),none] g=some (.int M.R,g):=by
  have a:=i9 (f1:=aj (bD cA (· - ·)) a5 ba) (f2:=aj (bD cA (· - ·)) a7 ba) (σ:=[some M.d,some (.int M.n),some (.int M.mo),none]) (g:=g) (i:=(M.n:Int)-1) (j:=(M.mo:Int)-1) rfl rfl (by lia) (by lia) (by lia) (by lia)
  rw[cp (d':=.int 1) (g2:=g) a rfl,lu,I]
 have two:∀(c:Int) (x sh:Nat),sh<=1->1<=x->c*(sh:Int)*((x:Int)-1)=c*(((sh*(x-1)):Nat):Int):=λc x sh y Q=>by
  have:sh=0\/sh=1:=by lia
  rcases this with rfl|rfl
  . simp
  . simp only[Nat.one_mul,Int.natCast_one,Int.mul_one];rw[show((x:Int)-1)=((x-1:Nat):Int) by lia]
 have H:∀sh x:Nat,sh<=1->x<=5->sh*(x-1)<=5:=λa b h1 h2=>n7 (Nz h1 (show b-1<=5 by lia)) (by decide);generalize v:M.R=R at *;cases M with
 |handed n tu mo =>
  simp only[MQ.n,MQ.mo]at k l r s f;refine aU rfl (aN (pX (d:=.int n) (d':=.int mo) (g1:=g) (g2:=g) rfl rfl) (bf f (fz (g1:=g) rfl ?_))) rfl;refine(i9 (i:=n) (j:=(R:Int)+1) rfl rfl (by lia) (by lia) (by lia) (by lia)).trans ?_;simp[dJ,v]
 |signs n B sh mo =>
  simp only[MQ.n,MQ.sh,MQ.mo]at k l s1 r s f;have y:=H sh n s1 l;refine aU rfl (aN (pX (d:=.int n) (d':=.int mo) (g1:=g) (g2:=g) rfl rfl) (bf f (aN ((bP (g1:=g) rfl).trans rfl) (fz (g1:=g) rfl ?_)))) rfl;have C:=i9 (f1:=b4) (f2:=a5) (σ:=[some (MQ.signs n B sh mo).d,some (.int n),some (.int mo),some (.int R)]) (g:=g) (i:=2) (j:=n) rfl rfl (by lia) (by lia) (by lia) (by lia);have E:=i9 (f1:=b4) (f2:=aj au a6 eL) (σ:=[some (MQ.signs n B sh mo).d,some (.int n),some (.int mo),some (.int R)]) (g:=g) (i:=2) (j:=sh) rfl rfl (by lia) (by lia) (by lia) (by lia)
  have u:=i9 (f2:=aj (bD cA (· - ·)) a5 ba) (j:=(n:Int)-1) E rfl (by lia) (by lia) (by lia) (by lia)
  have e:=two 2 n sh s1 k;have q:=(cp (o:=aJ) C u).trans lu;rw[e]at q;refine(i9 (i:=R) rfl q (by lia) (by lia) (by lia) (by lia)).trans ?_;simp[dJ,v]
 |shared n p B sh mo =>
  have p4:=ok.p4 _ _ _ _ _ rfl;simp only[MQ.n,MQ.sh,MQ.mo]at k l s1 r s f;have y:=H sh n s1 l;refine aU rfl (aN (pX (d:=.int n) (d':=.int mo) (g1:=g) (g2:=g) rfl rfl) (bf f (aN ((bP (g1:=g) rfl).trans rfl) (aN ((bP (g1:=g) rfl).trans rfl) (cw ?_))))) rfl;have C:=i9 (f1:=b4) (f2:=aj au a6 b4) (σ:=[some (MQ.shared n p B sh mo).d,some (.int n),some (.int mo),some (.int R)]) (g:=g) (i:=2) (j:=p) rfl rfl (by lia) (by lia) (by lia) (by lia);have E:=i9 (f1:=eL) (f2:=aj au a6 fc) (σ:=[some (MQ.shared n p B sh mo).d,some (.int n),some (.int mo),some (.int R)]) (g:=g) (i:=3) (j:=sh) rfl rfl (by lia) (by lia) (by lia) (by lia)
  have u:=i9 (f2:=aj (bD cA (· - ·)) a5 ba) (j:=(n:Int)-1) E rfl (by lia) (by lia) (by lia) (by lia)
  have e:=two 3 n sh s1 k;have q:=(cp (o:=aJ) C u).trans lu;rw[e]at q;have z:=i9 (f1:=bg) (i:=R) rfl q (by lia) (by lia) (by lia) (by lia);have J:ao j7 (aa (aj nO a5 ba) ag) [some (MQ.shared n p B sh mo).d,some (.int n),some (.int mo),some (.int R)] g=some (.int (if 1<n then 1 else 0:Nat),g):=by
    by_cases h:1<n
    . have:(1:Int)<n:=by lia
      simp[this,h,j7]
    . have:¬(1:Int)<n:=by lia
      simp[this,h,j7]
  refine(cp z J).trans ?_;simp[dJ,v]
noncomputable def kq (c:Nat->Nat):List Nat->Nat
 | []=>0|j::S=>c j+kq c S
theorem Ed {c:Nat->Nat}{b:Nat}:∀{S:List Nat},(∀j∈S,c j<=b)->kq c S<=S.length*b
 | [],_=>by simp[kq]|j::S,h=>by have a:=h j (by simp);have:=Ed (S:=S) λx e=>h x (by simp[e]);simp only[kq,vq,ql];lia
theorem xD {c d:Nat->Nat}:∀{S:List Nat},(∀j,c j<=d j)->kq c S<=kq d S
 | [],_=>lb _|j::S,h=>by have a:=h j;have:=xD (S:=S) h;simp only[kq];lia
theorem Ee {c d:Nat->Nat}{i:Nat}:∀{S:List Nat},i∈S->c i<d i->(∀j,c j<=d j)->kq c S<kq d S
 | [],g,_,_=>by simp at g
 |j::S,g,n,h=>by
  have a:=h j;have m:=xD (S:=S) h;simp only[kq];rcases l2.mp g with rfl|g
  . lia
  . have:=Ee (S:=S) g n h
    lia
structure Zn (P:Nat->List Nat)(c:Nat->Nat->Nat):Prop where
 z:∀j,c 0 j=0
 s:∀k j,c (k+1) j=c k j+if j∈P k then 1 else 0
def Ef {P:Nat->List Nat}{c:Nat->Nat->Nat}{n mo:Nat}(C:Zn P c)(u:n<=5)(r:o<n)(v:1<=mo)(l:∀k,k<K->P k ≠ [] /\ ∀j∈P k,j∈dj n o)(q:∀k,k<K->∀j∈P k,c (k+1) j≠mo):K<=(n-1)*(mo-1):=by
 have x:(dj n o).length=n-1:=(show ∀n,n<=5->∀o,o<n->(dj n o).length=n-1 by decide) n u o r;have a:∀k,k<=K->∀j,c k j<=mo-1:=λk=>by
  induction k with
  |zero=>intro _ j;rw[C.z];lia
  |succ k g =>
   intro h j;have:=g (by lia) j;have p:=q k (by lia) j;rw[C.s]at p ⊢;split
   . rename_i e
     rw[if_pos e]at p;have:=p e;lia
   . lia
 have b:∀k,k<=K->k<=kq (c k) (dj n o):=λk=>by
  induction k with
  |zero=>intro _;exact rb _
  |succ k g =>
   intro h;have:=g (by lia);obtain⟨ne,al⟩:=l k (by lia);obtain⟨i,f⟩:=List.exists_mem_of_ne_nil _ ne;have:=Ee (c:=c k) (d:=c (k+1)) (al i f) (by rw[C.s,if_pos f];lia) λj=>by rw[C.s];lia
   lia
 have:=b K (lb _);have:=Ed (S:=dj n o) λj _=>a K (lb _) j;rw[x]at this;lia
def zI (h:d6 f c X ≠ []):∃j,j∈d6 f c X /\ ∀k∈d6 f c X,j<=k:=by
 generalize d6 f c X=l at h;induction l with
 |nil=>exact absurd rfl h
 |cons x l g =>
  by_cases e:l = []
  . subst e;exact⟨x,by simp,λk a=>by simp at a;lia⟩
  . obtain⟨j,b,hm⟩:=g e
    by_cases i:x<=j
    . exact⟨x,by simp,λk a=>by
       rcases l2.mp a with rfl|a
       . exact lb _
       . have:=hm k a;lia⟩
    . exact⟨j,by simp[b],λk a=>by
       rcases l2.mp a with rfl|a
       . lia
       . exact hm k a⟩
def Eg (h:d6 f (.int i) X = []):∀j∈X,f j≠i:=λj a e=>by
 have:j∈d6 f (.int i) X:=by unfold d6;rw[ro];exact⟨a,by simp[bB,e]⟩
 rw[h]at this;simp at this
def zJ {ps:List (List Nat)}{n mo:Nat}(l:n<=5)(i:o<n)(f:1<=mo)(h:∀P∈ps,∀j∈P,j∈dj n o)(e:∀k,k<ps.length->dI (.int mo) ps k):ps.length<=(n-1)*(mo-1):=
 Ef (P:=λk=>ps.getD k []) (c:=gi ps) ⟨λ_=>rfl,λ_ _=>rfl⟩ l i f (λk a=>⟨(e k a).1,λj b=>h _ (by rw[nK,lC a];exact p6 a) j b⟩) λk a=>Eg (e k a).2
theorem xF {ps:List (List Nat)}{P:List Nat}:∀{k:Nat},k<=ps.length->gi (ps ++ [P]) k=gi ps k
 | 0,_=>rfl|k+1,h=>by funext j;have:=xF (ps:=ps) (P:=P) (k:=k) (by lia);simp only[gi,this];rw[nK,nK,m5 (by lia)]
def qa (b:∀k,k<Y.length->dI c Y k):∀k,k<Y.length->dI c (Y ++ [X]) k:=λk a=>by have:=b k a;unfold dI at this ⊢;rw[xF (by lia),nK,m5 (by lia),<- nK];exact this
def zK {P:List Nat}(f:∀k,k<Y.length->dI c Y k):(∀k,k<(Y ++ [P]).length->dI c (Y ++ [P]) k) \/ ∃g,i8 c (Y ++ [P]) Y.length g /\ ∀j,g=some j->j∈P:=by
 have last:(Y ++ [P]).getD Y.length []=P:=by simp[nK]
 by_cases e:P = []
 . exact .inr ⟨none,last.trans e,λj h=>nomatch h⟩
 . by_cases h:d6 (gi (Y ++ [P]) (Y.length+1)) c P = []
   . refine .inl λk b=>?_
     simp only[lN,af9]at b;by_cases n:k=Y.length
     . subst n
       exact⟨by rw[last];exact e,by rw[last];exact h⟩
     . exact qa f k (by lia)
   . obtain⟨j,a,hm⟩:=zI h
     refine .inr ⟨some j,⟨by rw[last];exact e,by rw[last];exact a,by rw[last];exact hm⟩,λi ps=>?_⟩;cases ps;exact(ro.mp a).1
noncomputable def Ie:D:=.tup [.str "look"]
section
variable (next:Fn)(M:MQ)(o:Nat)(ah c0:D)
noncomputable def sF (c:List D)(x:D):Prop:=∀g,Bd g->next [M.d,.int o,Ie,ah,.tup c] g=some (x,g)
noncomputable def baL (c:List D):Prop:=∃v:List D,v.length=M.p/\sF next M o ah c (.tup [.str "told",.tup v])
inductive Zo (I:Nat->List D->Prop)(i:Nat)(rd:List D):Prop
 |told (h:baL next M o ah rd)
 |read (hi:i<dJ M) (b:D) (hb:p7 M b) (s:sF next M o ah rd (.tup [.str "read",b])) (k:∀c,CK M b c->(b=own "own" o->c=c0)->I (i+1) (rd ++ [c]))
 |write (hi:i<dJ M) (j:Nat) (v:Int) (hj:j<M.n) (s:sF next M o ah rd (.tup [.str "write",de o j,.int v])) (k:I (i+1) (rd ++ [.ay]))
structure Pr (I:Nat->List D->Prop):Prop where
 zero:I 0 []
 le:∀i rd,I i rd->i<=dJ M/\rd.length=i
 nx:∀i rd,I i rd->Zo next M o ah c0 I i rd
inductive baM (i:Nat)(rd:List D):Prop
 |told (h:baL next M o ah rd)
 |view (hi:i<dJ M) (j:Nat) (hj:j<M.n) (s:sF next M o ah rd (.tup [.str "read",own "view" j])) (k:∀ws:List D,ws.length=M.p->(∀w∈ws,vG w)->baL next M o ah (rd ++ [.tup ws]))
inductive SK {α:Type}(V:α->Prop)(rdF:α->List D)(r:α)(i:Nat):D->Prop
 |read (b:D) (hb:p7 M b) (k:∀c,CK M b c->(b=own "own" o->c=c0)->∃r',V r'/\(rdF r').take (i+1)=(rdF r).take i ++ [c]):SK V rdF r i (.tup [.str "read",b])
 |write (j:Nat) (v:Int) (hj:j<M.n) (k:(rdF r)[i]? = some .ay):SK V rdF r i (.tup [.str "write",de o j,.int v])
structure xG (α:Type)(L:Nat)(rdF:α->List D)(V:α->Prop)(G:List α->Prop):Prop where
 l1:1<=L
 len:∀r,V r->(rdF r).length=L
 T7:∃r,V r
 g0:G []
 bound:∀rs,(∀r∈rs,V r)->G rs->(rs.length+1)*L<=dJ M
 Zp:∀rs r i,(∀r∈rs,V r)->V r->G rs->i<L->∃x,SK M o c0 V rdF r i x/\sF next M o ah ((rs.map rdF).flatten++(rdF r).take i) x
 full:∀rs r,(∀r∈rs,V r)->V r->G rs->G (rs ++ [r])\/baM next M o ah ((rs.length+1)*L) ((rs ++ [r]).map rdF).flatten
inductive MI {α:Type}(L:Nat)(rdF:α->List D)(V:α->Prop)(G:List α->Prop):Nat->List D->Prop
 |op (rs:List α) (r:α) (i:Nat) (a:∀r∈rs,V r) (v:V r) (g:G rs) (h:i<L):MI L rdF V G (rs.length*L+i) ((rs.map rdF).flatten++(rdF r).take i)
 |fin (i:Nat) (rd:List D) (hi:i<=dJ M) (hl:rd.length=i) (h:baM next M o ah i rd):MI L rdF V G i rd
end
def xG.Pt {next:Fn}{M:MQ}{ah:D}{B:Type}{L:Nat}{rdF:B->List D}{V:B->Prop}{G:List B->Prop}(A:xG next M o ah c B L rdF V G):Pr next M o ah c (MI next M o ah L rdF V G):=by
 have l1:=A.l1;have fl:∀rs:List B,(∀r∈rs,V r)->(rs.map rdF).flatten.length=rs.length*L:=λrs h=>by rw[eQ (n:=L) λw hw=>by obtain⟨r,R,rfl⟩:=mM.mp hw;exact A.len r (h r R),oY]
 have go:∀rs r i C,(∀r∈rs,V r)->V r->G rs->i<L->(∃l,V l/\(rdF l).take (i+1)=(rdF r).take i ++ [C])->MI next M o ah L rdF V G (rs.length*L+i+1) (((rs.map rdF).flatten++(rdF r).take i) ++ [C]):=λrs r i C a v g u h=>by
   obtain⟨l,z,e⟩:=h;rw[sP,<- e,Nat.add_assoc];by_cases h1:i+1<L
   . exact .op rs l (i+1) a z g h1
   . have l':=A.len l z
     have Q:∀q∈rs ++ [l],V q:=λq y=>by
       rcases mF.mp y with y|y
       . exact a q y
       . simp at y;subst y;exact z
     have U:(rs.map rdF).flatten++(rdF l).take (i+1)=((rs ++ [l]).map rdF).flatten:=by rw[Gw (by lia)];simp
     have Y:rs.length*L+(i+1)=(rs.length+1)*L:=by rw[ql];lia
     have b:=A.bound rs a g;rw[U,Y];rcases A.full rs l a z g with g'|f
     . obtain⟨p,E⟩:=A.T7
       have:=MI.op (next:=next) (M:=M) (o:=o) (ah:=ah) (rdF:=rdF) (L:=L) (rs ++ [l]) p 0 Q E g' l1;rw[List.take_zero,tA,agS]at this;simpa using this
     . exact .fin _ _ b (by rw[fl _ Q];simp) f
 refine⟨?_,λi H h=>?_,λi H h=>?_⟩
 . obtain⟨p,E⟩:=A.T7
   have:=MI.op (next:=next) (M:=M) (o:=o) (ah:=ah) (rdF:=rdF) (L:=L) [] p 0 (by simp) E A.g0 l1;simpa using this
 . cases h with
   |op rs r i a v g u =>
     have b:=A.bound rs a g;rw[ql]at b;have:=A.len r v;exact⟨by lia,by rw[lN,fl rs a,yX];lia⟩
   |fin i H u I h=>exact⟨u,I⟩
 . cases h with
   |op rs r i a v g u =>
     have b:=A.bound rs a g;rw[ql]at b;obtain⟨x,k,s⟩:=A.Zp rs r i a v g u;cases k with
     |read Z hb k=>exact .read (by lia) Z hb s λC J h0=>go rs r i C a v g u (k C J h0)|write j z O k=>exact .write (by lia) j z O s (go rs r i .ay a v g u ⟨r,v,by rw[aeQ,k];rfl⟩)
   |fin i H u I h =>
     cases h with
     |told h=>exact .told h
     |view iy j O s k =>
       refine .read iy _ (.view j O) s λC J _=>?_;obtain⟨ws,rfl,w1,w2⟩:=J.vw j rfl;exact .fin _ _ (by lia) (by simp[I]) (.told (k ws w1 w2))
noncomputable def Pu (a take:Fn):FS:=ax (aG (ao a (aa a6 (aa a5 (aa a7 ag)))) (gN 4)) (ax (bM (ib (aB (aj oEq (aj au a7 b0) eW)) (ib (aB (aj oEq (aj au a5 b0) fh)) (aB (aj oEq (ao take (aa a6 (aa b4 ag))) b0)))) (ax (aG (aj aJ (aj au bg ba) ba) (gN 5)) (aH (aI aA (aa (aj au cJ b0) (aa (jZ (aB (aj nO (aj au a5 b4) b0)) (aj (bD cI (· % ·)) dV (aj au a5 b4)) dV) (aa (aj au cJ b4) ag)))))) aK) (ax (bM (ib (aB (aj oEq (aj au a7 b0) eW)) (ib (aB (aj oEq (aj au a5 b0) hI)) (aB (aj oEq (ao take (aa a6 (aa b4 ag))) b0)))) (aH (aj aJ (cU cJ eh (aY b4)) (aI aA (aa (aj (bD cA (· - ·)) ba (aj au bg b4)) (aa (aj au cJ eL) ag))))) aK) (aH cJ)))
def zL {g1:G}{x:Int}(f:C h g=some (.int x,g1)):aB (aj oEq C (fC (.int I))) h g=some (decide (x=I),g1):=by rw[cN,cp (d':=.int I) (g2:=g1) f rfl];by_cases e:x=I<;>simp[d5,flat,dep,bB,e]
def eS {g1:G}(c:z h g=some (false,g1)):ib z b h g=some (false,g1):=by rw[rS,c];rfl
def eU {g1:G}(c:z h g=some (true,g1)):ib z b h g=b h g1:=by rw[rS,c];rfl
noncomputable def Cp (M:MQ)(h:Nat)(B:Int)(g:G)(k:D)(q:D×G):Prop:=CK M k q.1/\Fd q.1/\Hd q.2 h (B+40)/\nv h g q.2
def RM {M:MQ}(A:dw l)(H:∀{g B k},B+40<2 ^ 40->p7 M k->Hd g i B->k0 (Z [.ref i,M.d,k] g) (Cq M i B g k))(ok:M.Ok)(C:p7 M k)(I:CK M k c)(E:Hd g i B)(J:B+80<2 ^ 40):k0 (aq false 6 4 (Pu Z l) [.ref i,M.d,k,c] g) (Cp M i B g k):=by
 obtain⟨⟨h,g1⟩,e,u,fd,fF,f1⟩:=H (g:=g) (B:=B) (k:=k) (by lia) C E;have z2:aC 2=true:=rfl;have z3:aC 3=true:=rfl;have z4:aC 4=true:=rfl;refine OX rfl (ip (d:=h) (g1:=g1) e ?_);have We:Hd g1 i (B+40):=fF.mono (by lia);have out:∀{X:FS},(X [some (.ref i),some M.d,some k,some c,some h,none] g1=some (.rt h,[some (.ref i),some M.d,some k,some c,some h,none],g1))->k0 (X [some (.ref i),some M.d,some k,some c,some h,none] g1) λr=>match r.1 with
   |.rt d=>r.2.2.length=g.length/\Cp M i B g k (d,r.2.2)|.nx=>r.2.2.length=g.length/\Cp M i B g k (.ay,r.2.2)|_=>False:=λe=>⟨_,e,f1.1,u,fd,We,f1⟩
 cases C with
 |box j Y=>exact out (aN ((bP (g1:=g1) (eS (g1:=g1) rfl)).trans rfl) (aN ((bP (g1:=g1) (eS (g1:=g1) rfl)).trans rfl) (cw rfl)))|view j Y=>exact out (aN ((bP (g1:=g1) (eS (g1:=g1) rfl)).trans rfl) (aN ((bP (g1:=g1) (eS (g1:=g1) rfl)).trans rfl) (cw rfl)))|call c1 j hi Y=>exact out (aN ((bP (g1:=g1) (eS (g1:=g1) rfl)).trans rfl) (aN ((bP (g1:=g1) (eS (g1:=g1) rfl)).trans rfl) (cw rfl)))|sign c1 j hi Y=>exact out (aN ((bP (g1:=g1) (eS (g1:=g1) rfl)).trans rfl) (aN ((bP (g1:=g1) (eS (g1:=g1) rfl)).trans rfl) (cw rfl)))
 |own j Y =>
  obtain⟨x,O,s,x0,x1,Q,f2⟩:=A i 2 g1 _ (by lia) (by decide) (by decide) fF;have F:=f1.trans f2;have a:aB (aj oEq (ao l (aa a6 (aa b4 ag))) b0) [some (.ref i),some M.d,some (own "own" j),some c,some h,none] g1=some (decide (x=0),O):=zL (by rw[fV,show aa a6 (aa b4 ag) [some (.ref i),some M.d,some (own "own" j),some c,some h,none] g1=some ([.ref i,.int 2],g1) from rfl,k9];exact s)
  have oc:=u.ow j rfl;have o1:=I.ow j rfl;cases M with
  |handed n tu mo =>
   have t9:tu<=9:=ok.t9;obtain⟨v,y,ws,rfl,b,wl,q⟩:=oc;obtain⟨v1,f,Zq,rfl,_⟩:=o1;by_cases U:x=0
   . rw[decide_eq_true U]at a
     have key:∃z:Int,aI aA (aa (aj au cJ b0) (aa (jZ (aB (aj nO (aj au a5 b4) b0)) (aj (bD cI (· % ·)) dV (aj au a5 b4)) dV) (aa (aj au cJ b4) ag))) [some (.ref i),some (MQ.handed n tu mo).d,some (own "own" j),some (.tup [v1,.int f,.tup Zq]),some (.tup [v,.int y,.tup ws]),some (.int (f+1))] O=some (.tup [v,.int z,.tup ws],O):=by
      by_cases A:0<tu
      . have om:cI (f+1) (tu:Int)=true:=eO (by lia)
        exact⟨(f+1) % (tu:Int),by simp[dP,aW,MQ.d,u6,Ba,show cF [D.str "handed",.int n,.int tu,.int mo] 2=some (.int tu) from rfl,A,om,z3]⟩
      . exact⟨f+1,by simp[dP,aW,MQ.d,u6,Ba,show cF [D.str "handed",.int n,.int tu,.int mo] 2=some (.int tu) from rfl,A,z3]⟩
     obtain⟨z,ez⟩:=key;have fw:=rH q;refine⟨_,lE ((iS ((eU (g1:=g1) rfl).trans ((eU (g1:=g1) rfl).trans a))).trans (bf (d:=.int (f+1)) (g1:=O) rfl (cw ez))),F.1,.own ⟨v,z,ws,rfl,b,wl,q⟩,⟨by have:=fw.1;simp only[flat,bC]at this ⊢;rw[b.1,this];rfl,by have:=b.2;have:=fw.2;simp only[dep,dA]at this ⊢;lia⟩,Q.mono (by lia),F⟩
   . rw[decide_eq_false U]at a
     exact⟨_,aN ((bP (g1:=O) ((eU (g1:=g1) rfl).trans ((eU (g1:=g1) rfl).trans a))).trans rfl) (aN ((bP (g1:=O) ((eU (g1:=O) rfl).trans (eS (g1:=O) rfl))).trans rfl) (cw (g1:=O) rfl)),F.1,.own ⟨v,y,ws,rfl,b,wl,q⟩,fd,Q.mono (by lia),F⟩
  |signs n tg sh mo =>
   have sc:SC n h:=oc;have s1:SC n c:=o1;by_cases U:x=0
   . rw[decide_eq_true U]at a
     cases sc with
     |mk v bs t vw b hb hw ha =>
      cases s1 with
      |mk v1 T9 R T_ hv1 hb1 hw1 GC =>
        have sc:SC n (.tup [v,.tup (bs.map .int),.int (1-R),.tup vw]):=.mk v bs (1-R) vw b hb hw ha;have c2:pe [v,.tup (bs.map D.int),.int t,.tup vw] none (some 2)= [v,.tup (bs.map .int)]:=rfl;have e1:cU cJ eh (aY b4) [some (.ref i),some (MQ.signs n tg sh mo).d,some (own "own" j),some (.tup [v1,.tup (T9.map .int),.int R,.tup T_]),some (.tup [v,.tup (bs.map .int),.int t,.tup vw]),none] O=some (.tup [v,.tup (bs.map .int)],O):=by rw[JG];exact congrArg (λtake=>some (D.tup take,O)) c2
        have s:aI aA (aa (aj (bD cA (· - ·)) ba (aj au bg b4)) (aa (aj au cJ eL) ag)) [some (.ref i),some (MQ.signs n tg sh mo).d,some (own "own" j),some (.tup [v1,.tup (T9.map .int),.int R,.tup T_]),some (.tup [v,.tup (bs.map .int),.int t,.tup vw]),none] O=some (.tup [.int (1-R),.tup vw],O):=by simp[dP,aW,HP,HQ,z2]
        have e3:=(cp (o:=aJ) e1 s).trans (show aJ (.tup [v,.tup (bs.map .int)]) (.tup [.int (1-R),.tup vw]) O=some (.tup [v,.tup (bs.map .int),.int (1-R),.tup vw],O) by rw[l_];exact if_pos z4);refine⟨_,aN ((bP (g1:=g1) ((eU (g1:=g1) rfl).trans (eS (g1:=g1) rfl))).trans rfl) (fz (g1:=O) ((eU (g1:=g1) rfl).trans ((eU (g1:=g1) rfl).trans a)) (show _=some (.tup [v,.tup (bs.map .int),.int (1-R),.tup vw],O) from ?_)),F.1,.own sc,⟨sc.flat,sc.dep⟩,Q.mono (by lia),F⟩;exact e3
   . rw[decide_eq_false U]at a
     exact⟨_,aN ((bP (g1:=g1) ((eU (g1:=g1) rfl).trans (eS (g1:=g1) rfl))).trans rfl) (aN ((bP (g1:=O) ((eU (g1:=g1) rfl).trans ((eU (g1:=g1) rfl).trans a))).trans rfl) (cw (g1:=O) rfl)),F.1,.own sc,fd,Q.mono (by lia),F⟩
  |shared n p tg sh mo =>
   exact out (aN ((bP (g1:=g1) ((eU (g1:=g1) rfl).trans (eS (g1:=g1) rfl))).trans rfl) (aN ((bP (g1:=g1) ((eU (g1:=g1) rfl).trans (eS (g1:=g1) rfl))).trans rfl) (cw rfl)))
noncomputable def Ua (next:Fn):FE:=ao next (aa bg (aa cJ (aa (aI aA (aa (fC (.str "look")) ag)) (aa d4 (aa ew ag)))))
noncomputable def Ub:FT:=aB (aj oEq (aj au fe b0) eR)
noncomputable def Zr:FT:=aB (aj oEq (aj au fe b0) (fC (.str "write")))
noncomputable def Ig (take:Fn):FT:=ib (aB (aj nO (aj au bg ba) ba)) (ib (aB (aj lA ef (aI aA (aa (aI aA (aa eW (aa cJ ag))) (aa (aI aA (aa gD (aa cJ ag))) ag))))) (aB (aj oEq (ao take (aa a7 (aa eu ag))) b0)))
noncomputable def Pw (a:Fn):FS:=aG (ao a (aa a7 (aa bg (aa ef (aa (aj au ee ef) ag))))) (gB ee ef)
noncomputable def Px:FT:=ib (aB (aj oEq (aj au ef b0) i3)) (aB (aj oEq (aj au (aj au ee ef) ba) cJ))
noncomputable def Ih:FE:=aI aA (aa (aj au (aj au ee ef) b0) (aa (aj (bD cI (· % ·)) (aj aJ cJ ba) (aj au bg ba)) (aa (aj au (aj au ee ef) b4) ag)))
noncomputable def Ii:FS:=aG (aj aJ ew (aI aA (aa (aj au ee ef) ag))) (gN 9)
noncomputable def Uc (take:Fn)(a:Fn):FS:=ax (aG (aj au fe ba) (gN 13)) (ax (bM (Ig take) (ax (Pw a) (bM Px (aG Ih (gB ee ef)) aK)) aK) Ii)
noncomputable def Ud:FS:=ax (aG (aj au fe b4) (gB ee (aj au fe ba))) (aG (aj aJ ew (aI aA (aa er ag))) (gN 9))
noncomputable def zM (take:Fn)(a:Fn)(next:Fn):FS:=ax (aG (Ua next) (gN 12)) (ax (bM Ub (ax (aG (aj au fe ba) (gN 10)) EW) aK) (bM Zr Ud (Uc take a)))
noncomputable def Ue:FS:=bM (yk (aB (aj jk fb er)) (aB (aj cY (ao bw (aa fb ag)) dV))) (aH (fC (.bl false))) aK
noncomputable def Py (a:Fn):FI:=iA (aa (aj aJ (ao a (aa bg ag)) ba) ag)
noncomputable def Pz (hand:Fn)(take:Fn)(b:Fn)(places:Fn)(c:Fn)(e:Fn)(pick:Fn)(f:Fn)(a:Fn)(next:Fn):FS:=ax (aG (ao hand (aa a6 (aa a5 ag))) (gN 2)) (ax (aG (ao b (aa a7 (aa (aI fP (aa fh (aa hI (aa gU ag)))) ag))) (gN 3)) (ax (me 4 5 (aa (ao take (aa a7 (aa (aj au bg ba) ag))) (aa (ao places (aa bg ag)) ag))) (ax (me 6 7 (aa (ao c (aa a7 (aa dV ag))) (aa (ao e (aa a7 (aa bg ag))) ag))) (ax (aG (ao pick (aa a7 (aa (aI fP (aa ba (aa ba (aa b4 (aa fc ag))))) ag))) (gN 8)) (ax (aG (aI aA (aa (aI aA ag) (aa er ag))) (gT 2 (bV (gN 9) (bV (gN 10) gp)))) (ax (fK (Py f) (gN 11) (zM take a next)) Ue))))))
noncomputable def sσ (S:D)(c:Int)(h:Nat)(M:MQ)(o:Nat)(g:D)(b:Nat)(of_:Int)(i:List D)(n:D)(o11 o12 o13:Option D):Sg:=[some S,some (.int c),some (.ref h),some M.d,some (.int o),some (.int M.p),some g,some (.bq b),some (.int of_),some (.tup i),some n,o11,o12,o13]
structure Wl (M:MQ)(o h b:Nat)(c0:D)(B:Int)(g:G)(bx:List D):Prop where
 gb:g[b]? = some bx
 X:xB M bx
 ow:bz bx (own "own" o)=some c0
 hd:Hd g h B
 bd:Bd g
 ne:b≠h
theorem Wl.fr {M:MQ}(W:Wl M o i j c B g r)(f:nv i g a)(h:Hd a i I):Wl M o i j c I a r:=⟨(f.2 j W.ne).trans W.gb,W.X,W.ow,h,W.bd.fr f h,W.ne⟩
theorem Wl.mono {M:MQ}(W:Wl M o i j c B g r)(l:B<=I):Wl M o i j c I g r:=⟨W.gb,W.X,W.ow,W.hd.mono l,W.bd,W.ne⟩
theorem Wl.put {M:MQ}(W:Wl M o i j J B g r)(b:o<M.n)(q:p7 M k)(v:CK M k c)(s:Fd c)(u:k=own "own" o->c=J):Wl M o i j J B (g.set j (bb r k c)) (bb r k c):=by
 have X:=W.X.put q v s;have lt:=(l8.mp W.gb).1;refine⟨ua lt,X,?_,?_,W.bd.set (pU (rb _) X.nr),W.ne⟩
 . by_cases e:k=own "own" o
   . subst e
     rw[eJ q.aO W.X.ka,u rfl]
   . rw[iV q.aO (p7.own o b:p7 M _).aO e W.X.ka];exact W.ow
 . obtain⟨a,f,p,l,h⟩:=W.hd
   exact⟨a,f,p,by rw[Oc W.ne];exact l,h⟩
theorem p7.flat {M:MQ}(a:p7 M k):_root_.flat k=true:=by cases a<;>rfl
def kw {nm:Str}(a:h[13]? = some (some (.tup (.str nm::r))))(w:Str):aB (aj oEq (aj au ef b0) (fC (.str w))) h g=some (bB (.str nm) (.str w),g):=by
 have v:ef h g=some (.tup (.str nm::r),g):=by simp[a]
 rw[cN,cp (d:=.str nm) (d':=.str w) (g1:=g) (g2:=g) ((cp v rfl).trans (by simp[dP,aW,show cF (D.str nm::r) 0=some (.str nm) from lF (n:=0) rfl])) rfl];rfl
def Bj (f:h[7]? = some (some (.bq i)))(n:h[13]? = some (some k))(a:g[i]? = some r)(e:aO 6 k=true)(j:bz r k=some c):aj au ee ef h g=some (c,g):=by simp[f,n,a,e,j]
def Ij {g1:G}(e:C h g=some (c,g1))(l:h[7]? = some (some (.bq i)))(q:h[13]? = some (some k))(f:g1[i]? = some r)(j:aO 6 k=true)(le:r.length<=150):aG C (gB ee ef) h g=some (.nx,h,g1.set i (bb r k c)):=by
 have a:pz r=true:=by unfold pz;exact aR (by lia)
 rw[oG,e];simp[l,q,f,j,a]
def Wf {p:MQ}{x:D}(b:dw l)(W:Wl p o i j J B g M)(C:p7 p k)(H:B<2 ^ 40)(Z:0<I)(c0:I<100)(v:h=sσ w E i p o c j I r A o11 (some x) (some k)):∃q g1,Ig l h g=some (q,g1)/\(q=true->k≠own "own" o)/\Hd g1 i (B+1)/\nv i g g1:=by
 have O:aB (aj nO (aj au bg ba) ba) h g=some (decide ((1:Int)<p.n),g):=by
   have e:aj au bg ba h g=some (.int p.n,g):=by subst v;cases p<;>rfl
   rw[cN,cp (d':=.int 1) (g2:=g) e rfl];simp[d5]
 have Q:=C.flat;have a:aB (aj lA ef (aI aA (aa (aI aA (aa eW (aa cJ ag))) (aa (aI aA (aa gD (aa cJ ag))) ag)))) h g=some (!([own "own" o,own "view" o].any λy=>bB y k),g):=by
   have of_:ef h g=some (k,g):=by subst v;rfl
   have S:aI aA (aa (aI aA (aa eW (aa cJ ag))) (aa (aI aA (aa gD (aa cJ ag))) ag)) h g=some (.tup [own "own" o,own "view" o],g):=by subst v;rfl
   have d:dA [own "own" o,own "view" o]<=50:=by simp[dA,dep,own]
   have f:bC [own "own" o,own "view" o]=true:=rfl;rw[cN,cp of_ S,A2];simp only[nR,aW,k9,CI,Q,f,d,decide_true,aeg,if_true,F1];rfl
 have R:∀{U:G},U=g->∃q g1,some (false,U)=some (q,g1)/\(q=true->k≠own "own" o)/\Hd g1 i (B+1)/\nv i g g1:=λe=>⟨false,g,by rw[e],λz=>absurd z (by decide),W.hd.mono (by lia),.refl⟩
 unfold Ig;by_cases Y:(1:Int)<p.n
 . rw[decide_eq_true Y]at O
   rw[eU O];cases hq:!([own "own" o,own "view" o].any λy=>bB y k)
   . rw[hq]at a
     rw[eS a];exact R rfl
   . rw[hq]at a
     rw[eU a];obtain⟨y,g1,e,s,u,rd,f1⟩:=b i I g B H Z (by lia) W.hd;refine⟨_,g1,zL (x:=y) (g1:=g1) ?_,λ_ e=>?_,rd,f1⟩
     . rw[fV,show aa a7 (aa eu ag) h g=some ([.ref i,.int I],g) by subst v;rfl,k9]
       exact e
     . subst e
       rw[vy,j6 _ Q]at hq;exact absurd hq (by simp)
 . rw[decide_eq_false Y]at O
   rw[eS O];exact R rfl
noncomputable def xI (changed:Fn):Prop:=∀(M:MQ) (h:Nat) (B:Int) (g:G) (k c:D),M.Ok->p7 M k->CK M k c->Hd g h B->B+80<2 ^ 40->k0 (changed [.ref h,M.d,k,c] g) (Cp M h B g k)
def RN {h:MQ}{ah:D}{td:D}{S:D}{rd:List D}{jj:Int}(J:dw l)(H:xI Z)(ok:h.Ok)(C:o<h.n)(W:Wl h o i j c B g M)(A:p7 h k)(L:B+100<2 ^ 40)(c0:0<I)(E:I<100)(K:rd.length<=600):
   k0 (Uc l Z (sσ S jj i h o ah j I rd td o11 (some (.tup [.str "read",k])) o13) g) λr=>r.1 = .nx /\ ∃Q R,r.2.1=sσ S jj i h o ah j I (rd ++ [Q]) td o11 (some (.tup [.str "read",k])) (some k)/\Wl h o i j c (B+60) r.2.2 R/\CK h k Q/\(k=own "own" o->Q=c):=by
 refine ip (d:=k) (g1:=g) rfl ?_;show k0 (ax _ Ii (sσ S jj i h o ah j I rd td o11 (some (.tup [.str "read",k])) (some k)) g) _;generalize f:sσ S jj i h o ah j I rd td o11 (some (.tup [.str "read",k])) (some k)=O;have y:O[7]? = some (some (.bq j)):=by subst f;rfl
 have u:O[13]? = some (some k):=by subst f;rfl
 have zl:aC (rd.length+1)=true:=aR (by lia);have fin:∀{of_:G} {R:List D} (Q:D),bz R k=some Q->Wl h o i j c (B+60) of_ R->k0 (Ii O of_) λr=>r.1 = .nx /\ ∃Q R,r.2.1=sσ S jj i h o ah j I (rd ++ [Q]) td o11 (some (.tup [.str "read",k])) (some k)/\Wl h o i j c (B+60) r.2.2 R/\CK h k Q/\(k=own "own" o->Q=c):=fun {of_ R} Q dg W'=>by
   have x:=Bj y u W'.gb A.aO dg;have e8:aI aA (aa (aj au ee ef) ag) O of_=some (.tup [Q],of_):=by simp only[ji,bS,x,cG,k9];rfl
   have e9:aj aJ ew (aI aA (aa (aj au ee ef) ag)) O of_=some (.tup (rd ++ [Q]),of_):=by rw[cp (d:=.tup rd) (g1:=of_) (by subst f;rfl) e8,l_];exact if_pos zl
   refine⟨_,ij e9,rfl,Q,R,by subst f;rfl,W',(W'.X.ck k Q A dg).1,λe=>?_⟩;subst e;have:=W'.ow;rw[dg]at this;cases this;rfl
 obtain⟨q,g1,eq,nk,fF,f1⟩:=Wf J W A (by lia) c0 E f.symm;have U:=W.fr f1 fF;obtain⟨c1,PB⟩:=U.X.has k A;cases q
 . exact kK ((bP eq).trans rfl) (fin c1 PB (U.mono (by lia)))
 . have nk:=nk rfl
   obtain⟨⟨Y,g2⟩,e2,Ug,Zs,hd2,f2⟩:=H h i (B+1) g1 k c1 ok A (U.X.ck k c1 A PB).1 fF (by lia);have z:=U.fr f2 hd2;have s:=z.put C A Ug Zs λe=>absurd e nk;have PC:bz (bb M k Y) k=some Y:=eJ A.aO z.X.ka;have a1:Pw Z O g1=some (.nx,O,g2.set j (bb M k Y)):=Ij (g1:=g2) (by
    have x:=Bj y u U.gb A.aO PB;have v2:a7 O g1=some (.ref i,g1):=by subst f;rfl
    have v3:bg O g1=some (h.d,g1):=by subst f;rfl
    have Zt:ef O g1=some (k,g1):=by subst f;rfl
    simp only[fV,bS,v2,v3,Zt,x,cG,k9,e2]) y u z.gb A.aO z.X.le
   have ab:=(l8.mp z.gb).1;have vA:∀{nm:Str} {r:List D},k = .tup (.str nm::r)->bB (.str nm) (.str "box")=false->k0 (ax (bM (Ig l) (ax (Pw Z) (bM Px (aG Ih (gB ee ef)) aK)) aK) Ii O g) λr=>r.1 = .nx /\ ∃Q R,r.2.1=sσ S jj i h o ah j I (rd ++ [Q]) td o11 (some (.tup [.str "read",k])) (some k)/\Wl h o i j c (B+60) r.2.2 R/\CK h k Q/\(k=own "own" o->Q=c):=fun {nm r} e en=>by have t:=kw (g:=g2.set j (bb M k Y)) (nm:=nm) (r:=r) (by rw[u,e]) "box";rw[en]at t;exact kK ((iS eq).trans ((aN a1 ((bP (eS t)).trans rfl)))) (fin Y PC (s.mono (by lia)))
   cases A with
   |own take hj=>exact vA (nm:="own") (r:=[.int take]) rfl rfl|view take hj=>exact vA (nm:="view") (r:=[.int take]) rfl rfl|call b take hi hj=>exact vA (nm:="call") (r:=[.int b,.int take]) rfl rfl|sign b take hi hj=>exact vA (nm:="sign") (r:=[.int b,.int take]) rfl rfl
   |box take hj =>
    obtain⟨v,a,t,rfl,hv⟩:=Ug.bo take rfl;have kk:p7 h (own "box" take):=.box take hj;generalize hG:g2.set j (bb M (own "box" take) (.tup [v,.int a,.int t]))=p at *;have x:=Bj y u s.gb kk.aO PC;have t1:=kw (g:=p) (nm:="box") (r:=[.int take]) u "box";have Zu:aj au (aj au ee ef) ba O p=some (.int a,p):=(cp x rfl).trans (by simp[dP,aW,A_]);have v4:cJ O p=some (.int o,p):=by subst f;rfl
    have t2:aB (aj oEq (aj au (aj au ee ef) ba) cJ) O p=some (decide (a=(o:Int)),p):=by rw[cN,cp Zu v4];by_cases e:a=(o:Int)<;>simp[d5,flat,dep,bB,e]
    have t3:Px O p=some (decide (a=(o:Int)),p):=(eU (t1.trans rfl)).trans t2;by_cases hw:a=(o:Int)
    . rw[decide_eq_true hw]at t3
      have n1:(0:Int)<h.n:=by lia
      have om:cI ((o:Int)+1) (h.n:Int)=true:=eO n1;have Zv:aj au (aj au ee ef) b0 O p=some (v,p):=(cp x rfl).trans (by simp[dP,aW,u6]);have Zw:aj au (aj au ee ef) b4 O p=some (.int t,p):=(cp x rfl).trans (by simp[dP,aW,Ba]);have Zx:aj au bg ba O p=some (.int h.n,p):=by subst f;cases h<;>rfl
      have e4:aj aJ cJ ba O p=some (.int ((o:Int)+1),p):=(cp (d':=.int 1) (g2:=p) v4 rfl).trans lu
      have e5:aj (bD cI (· % ·)) (aj aJ cJ ba) (aj au bg ba) O p=some (.int (((o:Int)+1) % (h.n:Int)),p):=by rw[cp e4 Zx];simp[om]
      have en:Ih O p=some (.tup [v,.int (((o:Int)+1) % (h.n:Int)),.int t],p):=by unfold Ih;simp only[ji,bS,Zv,e5,Zw,cG,k9];rfl
      have bc:BC (.tup [v,.int (((o:Int)+1) % (h.n:Int)),.int t]):=⟨v,_,t,rfl,hv⟩
      have a2:=Ij en y u s.gb kk.aO s.X.le;have W4:=s.put C kk (CK.box bc) (HW bc) λe=>absurd e nk;exact kK ((iS eq).trans (aN a1 ((iS t3).trans a2))) (fin _ (eJ kk.aO s.X.ka) (W4.mono (by lia)))
    . rw[decide_eq_false hw]at t3
      exact kK ((iS eq).trans (aN a1 ((bP t3).trans rfl))) (fin _ PC (s.mono (by lia)))
def RO {M:MQ}{ah:D}{td:D}{S:D}{rd:List D}{of_:Int}{jj:Int}(b:o<M.n)(s:j<M.n)(W:Wl M o i K J B g r)(u:rd.length<=600):
   ∃p x,Ud (sσ S jj i M o ah K of_ rd td o11 (some (.tup [.str "write",de o j,.int v])) o13) g=some (.nx,sσ S jj i M o ah K of_ (rd ++ [.ay]) td o11 (some (.tup [.str "write",de o j,.int v])) o13,p)/\Wl M o i K J B p x:=by
 have l:p7 M (de o j):=.sign o j b s;have q:pz r=true:=by unfold pz;exact aR (by have:=W.X.le;lia)
 have zl:aC (rd.length+1)=true:=aR (by lia);have h:aO 6 (de o j)=true:=rfl;have f:=W.put (k:=de o j) (c:=.int v) b l CK.sign .int λe=>absurd e.symm fJ;refine⟨_,_,aN (σ1:=sσ S jj i M o ah K of_ rd td o11 (some (.tup [.str "write",de o j,.int v])) o13) (g1:=g.set K (bb r (de o j) (.int v))) ?_ ((ij (d:=.tup (rd ++ [.ay])) (g1:=g.set K (bb r (de o j) (.int v))) ?_).trans rfl),f⟩
 . rw[oG,show aj au fe b4 (sσ S jj i M o ah K of_ rd td o11 (some (.tup [.str "write",de o j,.int v])) o13) g=some (.int v,g) from rfl]
   simp[sσ,W.gb,h,q,dP,aW,A_]
 . have a:aI aA (aa er ag) (sσ S jj i M o ah K of_ rd td o11 (some (.tup [.str "write",de o j,.int v])) o13) (g.set K (bb r (de o j) (.int v)))=some (.tup [.ay],g.set K (bb r (de o j) (.int v))):=rfl
   rw[cp (d:=.tup rd) (g1:=g.set K (bb r (de o j) (.int v))) rfl a,l_];exact if_pos zl
section
variable {M:MQ}{ah S:D}{of_ jj:Int}
theorem Ik (K:dw l)(h:xI Z)(ok:M.Ok)(C:o<M.n){I:Nat->List D->Prop}(A:Pr H M o ah c I)(J:0<of_)(E:of_<100)(L:dJ M<=600):∀(ds:List D) (b:Nat) (rd:List D) (g:G) (Y:List D) (B:Int) (o11 o12 o13:Option D),I b rd->ds.length+b=dJ M+1->Wl M o i j c B g Y->B+60*ds.length+100<2 ^ 40 ->
  k0 (forL (gN 11) (zM l Z H) ds (sσ S jj i M o ah j of_ rd .ay o11 o12 o13) g) λr=>r.1 = .nx /\ ∃O v F9 Q R,r.2.1=sσ S jj i M o ah j of_ O (.tup v) F9 Q R/\v.length=M.p/\Bd r.2.2
 | [],b,rd,g,Y,B,o11,o12,o13,U,hd,W,hB=>by have:=(A.le b rd U).1;simp at hd;lia
 |d::ds,b,rd,g,Y,B,o11,o12,o13,U,hd,W,hB=>by
  obtain⟨li,lr⟩:=A.le b rd U;simp only[vq]at hd hB;have says:∀{x:D},sF H M o ah rd x->Ua H (sσ S jj i M o ah j of_ rd .ay (some d) o12 o13) g=some (x,g):=λs=>s g W.bd
  have go:∀{r:F×Sg×G},zM l Z H (sσ S jj i M o ah j of_ rd .ay (some d) o12 o13) g=some r->r.1 = .nx->(∃O a Q R,r.2.1=sσ S jj i M o ah j of_ O .ay (some d) Q R/\I (b+1) O/\Wl M o i j c (B+60) r.2.2 a)->k0 (forL (gN 11) (zM l Z H) (d::ds) (sσ S jj i M o ah j of_ rd .ay o11 o12 o13) g) λr=>r.1 = .nx /\ ∃O v F9 Q R,r.2.1=sσ S jj i M o ah j of_ O (.tup v) F9 Q R/\v.length=M.p/\Bd r.2.2:=fun {r} e u z=>by obtain⟨f,σ2,g2⟩:=r;obtain⟨O,a,Q,R,q,L4,take⟩:=z;dsimp only at u q take;subst u q;have ih:=Ik K h ok C A J E L ds (b+1) O g2 a (B+60) (some d) Q R L4 (by lia) take (by lia);show k0 (((gN 11 d (sσ S jj i M o ah j of_ rd .ay o11 o12 o13) g)).bind _) _;rw[show gN 11 d (sσ S jj i M o ah j of_ rd .ay o11 o12 o13) g=some (sσ S jj i M o ah j of_ rd .ay (some d) o12 o13,g) from rfl,k9,e];exact ih
  cases A.nx b rd U with
  |told i =>
   obtain⟨v,hv,s⟩:=i;refine⟨(.nx,sσ S jj _ M o ah j of_ rd (.tup v) (some d) (some (.tup [.str "told",.tup v])) o13,g),?_,rfl,rd,v,_,_,_,rfl,hv,W.bd⟩;show((gN 11 d (sσ S jj _ M o ah j of_ rd .ay o11 o12 o13) g)).bind _=_;rw[show gN 11 d (sσ S jj i M o ah j of_ rd .ay o11 o12 o13) g=some (sσ S jj i M o ah j of_ rd .ay (some d) o12 o13,g) from rfl,k9];have e:zM l Z H (sσ S jj i M o ah j of_ rd .ay (some d) o12 o13) g=some (.bk,sσ S jj i M o ah j of_ rd (.tup v) (some d) (some (.tup [.str "told",.tup v])) o13,g):=bf (says s) (by show ax _ _ (sσ S jj i M o ah j of_ rd .ay (some d) (some (.tup [.str "told",.tup v])) o13) g=_;rw[oF,iS (g1:=g) (rfl:Ub (sσ S jj i M o ah j of_ rd .ay (some d) (some (.tup [.str "told",.tup v])) o13) g=some (true,g))];rfl)
   rw[e];rfl
  |read hi k hk s kk =>
   obtain⟨r,y,u,c0,a,q,take,hc,h0⟩:=RN (S:=S) (jj:=jj) (ah:=ah) (td:=.ay) (o11:=some d) (o13:=o13) K h ok C W hk (by lia) J E (rd:=rd) (by lia);exact go (r:=r) (bf (says s) (aN ((bP (g1:=g) rfl).trans rfl) ((bP (g1:=g) rfl).trans y))) u ⟨_,a,_,_,q,kk c0 hc h0,take⟩
  |write hi changed v hj s kk =>
   obtain⟨g',a,y,take⟩:=RO (S:=S) (jj:=jj) (ah:=ah) (of_:=of_) (td:=.ay) (o11:=some d) (o13:=o13) (v:=v) C hj W (rd:=rd) (by lia);exact go (r:=(.nx,_,g')) (bf (says s) (aN ((bP (g1:=g) rfl).trans rfl) ((iS (g1:=g) rfl).trans y))) rfl ⟨_,a,_,_,rfl,kk,take.mono (by lia)⟩
end
noncomputable def xJ (a:Fn):Prop:=∀(M:MQ) (h:Nat) (g:G) (B:Int),M.Ok->Hd g h B->B+3000<2 ^ 40->∃i c,a [.ref h,M.d] g=some (.bq g.length,c ++ [i])/\nv h g c/\Hd c h (B+2400)/\xB M i
noncomputable def sG (a:Fn):Prop:=∀(h:Nat) (g:G) (B:Int),Hd g h B->B+20<2 ^ 40->∃M c,a [.ref h,.lst zH] g=some (MQ.d M,c)/\M.Ok/\Hd c h (B+10)/\nv h g c
noncomputable def PD (next:Fn):Prop:=∀(M:MQ) (o:Nat) (g c:D),M.Ok->o<M.n->sE M c->∃I,Pr next M o g c I
def F_ (j:dw l)(k:ig Z):sG (aq false 7 2 (Pm l Z)):=λh g B hd f=>by obtain⟨⟨d,c⟩,e,M,i,rfl,b,a⟩:=RL j k hd f;exact⟨M,c,e,i,b,a⟩
def KG {take value places state:Fn}(j:dw take)(i:lG value)(f:lL state)(e:oy places):xJ (aq true 5 2 (Ec places (aq false 6 3 (HV take value places state)))):=λM h g B ok hd c =>
 RK ok e (fun {g B k} b a hd=>HY j i f e ok a hd b) hd c
def Wh {take value places state:Fn}(i:dw take)(o:lG value)(l:lL state)(j:oy places):xI (aq false 6 4 (Pu (aq false 6 3 (HV take value places state)) take)):=λM h B g k f ok a e hd c =>
 RM i (fun {g B k} b a hd=>HY i o l j ok a hd b) ok a e hd c
def KH {M:MQ}(ok:M.Ok):dJ M<=600:=by
 have r:=Pq ok;have e:=ok.n5;have s1:=ok.s1;have g:∀a b:Nat,a<=1->b<=5->a*b<=5:=λa b f c=>n7 (Nz f c) (by decide);cases M with
 |handed n tu mo =>
  simp only[dJ,MQ.n]at *;have:=Nz e (Nat.add_le_add_right r 1);lia
 |signs n i sh mo =>
  simp only[dJ,MQ.n,MQ.sh]at *;have a:=g sh (n-1) s1 (by lia);have:=Nz r (show 2*n+2*(sh*(n-1))<=20 by lia);lia
 |shared n p i sh mo =>
  have h:=ok.p4 _ _ _ _ _ rfl;simp only[dJ,MQ.n,MQ.sh]at *;have a:=g sh (n-1) s1 (by lia);have:=Nz r (show 2*p+3*(sh*(n-1))<=23 by lia);split<;>lia
def RP {hand B A next:Fn}(hh:DF hand)(J:dw l)(U:sG H)(L:oy Z)(K:sx O)(Y:xJ s)(pick:ig q)(N:∀M:MQ,M.Ok->∀g,B [M.d] g=some (.int (dJ M),g))(Q:xI A)(P:PD next){ns:List Int}(E:j<=100)(T:Bd g){o2 o3 o4 o5 o6 o7 o8 o9:Option D}:
  k0 (Pz hand l H Z O s q B A next [some (.lst (ns.map .int)),some (.int j),o2,o3,o4,o5,o6,o7,o8,o9,o10,o11,o12,o13] g) λr=>r.1 = .nx/\(∃o2 o3 o4 o5 o6 o7 o8 o9 o10 o11 o12 o13,r.2.1 = [some (.lst (ns.map .int)),some (.int j),o2,o3,o4,o5,o6,o7,o8,o9,o10,o11,o12,o13])/\Bd r.2.2:=by
 obtain⟨xs,e1,fF⟩:=hh ns j g E;obtain⟨M,g2,e2,ok,hd2,f2⟩:=U g.length _ 0 fF (by decide);have n1:=ok.n1;have n5:=ok.n5;have p5:=ok.p5;obtain⟨oi,g3,e3,o0,o1,mZ,f3⟩:=J g.length M.n g2 _ (by decide) (by lia) (by lia) hd2;obtain⟨o,rfl⟩:∃k:Nat,oi=k:=⟨oi.toNat,(V5 o0).symm⟩
 have u:o<M.n:=by lia
 obtain⟨is,h,e4,il,z,f4⟩:=K g.length M.p g3 _ (by lia) (by lia) mZ;obtain⟨R,g5,e5,f5,Ia,X⟩:=Y M g.length h _ ok z (by lia);obtain⟨od,places,e7,m7,Ib,f7⟩:=pick g.length [.int 1,.int 1,.int 2,.int 4] (g5 ++ [R]) _ (by lia) (by simp) (by simp) (Hd.app (ys:=[R]) Ia);obtain⟨b,rfl,uq,xH⟩:∃i:Int,od = .int i/\0<i/\i<100:=by simp only[l2,A9,or_false]at m7;rcases m7 with rfl|rfl|rfl|rfl<;>exact⟨_,rfl,by decide,by decide⟩
 have l4:h.length=g.length+1:=by rw[f4.1,f3.1,f2.1];simp
 have b5:Bd g5:=((((T.hand fF).fr f2 hd2).fr f3 mZ).fr f4 z).fr f5 Ia;have b6:Bd (g5 ++ [R]):=b5.app λy hy=>by simp at hy;subst hy;exact pU (rb _) X.nr
 have gb:(g5 ++ [R])[h.length]? = some R:=by rw[<- f5.1];simp
 have b7:=b6.fr f7 Ib;have ne:h.length≠g.length:=by lia
 obtain⟨x,M0⟩:=X.has _ (.own o u);have W:Wl M o g.length h.length x _ places R:=⟨(f7.2 _ ne).trans gb,X,M0,Ib,b7,ne⟩
 obtain⟨I,Dr⟩:=P M o (.tup (is.map λ(i:Nat)=>D.int i)) x ok u ((X.ck _ x (.own o u) M0).1.ow o rfl);have m6:=KH ok;generalize hS:D.lst (ns.map .int)=S at *;have lp:=Ik (S:=S) (jj:=j) J Q ok u Dr uq xH m6 (fB 0 (dJ M+1)) 0 [] places R _ o11 o12 o13 Dr.zero (by simp[dB]) W (by rw[dB];lia)
 have z2:aC 2=true:=rfl;have c1:ao hand (aa a6 (aa a5 ag)) [some S,some (.int j),o2,o3,o4,o5,o6,o7,o8,o9,o10,o11,o12,o13] g=some (.ref g.length,g ++ [xs]):=e1;have c4:ao O (aa a7 (aa dV ag)) [some S,some (.int j),some (.ref g.length),some M.d,some (.int o),some (.int M.p),o6,o7,o8,o9,o10,o11,o12,o13] g3=some (.tup (is.map λ(i:Nat)=>D.int i),h):=e4;have c5:ao s (aa a7 (aa bg ag)) [some S,some (.int j),some (.ref g.length),some M.d,some (.int o),some (.int M.p),o6,o7,o8,o9,o10,o11,o12,o13] h=some (.bq h.length,g5 ++ [R]):=e5;have c8:ao q (aa a7 (aa (aI fP (aa ba (aa ba (aa b4 (aa fc ag))))) ag)) [some S,some (.int j),some (.ref g.length),some M.d,some (.int o),some (.int M.p),some (.tup (is.map λ(i:Nat)=>D.int i)),some (.bq h.length),o8,o9,o10,o11,o12,o13] (g5 ++ [R])=some (.int b,places):=e7;obtain⟨⟨f,σ9,take⟩,e9,q1,C,v,a,c,d,q2,q3,q4⟩:=lp;dsimp only at q1 q2 q4;subst q1 q2;have cr:Py B (sσ S j g.length M o (.tup (is.map λ(i:Nat)=>D.int i)) h.length b [] .ay o11 o12 o13) places=some (fB 0 (dJ M+1),places):=rA (g1:=places) (by have e:ao B (aa bg ag) (sσ S j g.length M o (.tup (is.map λ(i:Nat)=>D.int i)) h.length b [] .ay o11 o12 o13) places=some (.int (dJ M),places):=N M ok places;have e':=(cp (o:=aJ) (f':=ba) (d':=.int 1) (g2:=places) e rfl).trans lu;simp only[bS,e',cG,k9];rfl) (by lia)
 have cf:fK (Py B) (gN 11) (zM l A next) (sσ S j g.length M o (.tup (is.map λ(i:Nat)=>D.int i)) h.length b [] .ay o11 o12 o13) places=some (.nx,sσ S j g.length M o (.tup (is.map λ(i:Nat)=>D.int i)) h.length b C (.tup v) a c d,take):=by rw[lq,cr];exact e9
 have ce:Ue (sσ S j g.length M o (.tup (is.map λ(i:Nat)=>D.int i)) h.length b C (.tup v) a c d) take=some (.nx,sσ S j g.length M o (.tup (is.map λ(i:Nat)=>D.int i)) h.length b C (.tup v) a c d,take):=by
  refine(bP (g1:=take) ?_).trans rfl;have t1:aB (aj jk fb er) (sσ S j g.length M o (.tup (is.map λ(i:Nat)=>D.int i)) h.length b C (.tup v) a c d) take=some (false,take):=rfl;have t2:aB (aj cY (ao bw (aa fb ag)) dV) (sσ S j g.length M o (.tup (is.map λ(i:Nat)=>D.int i)) h.length b C (.tup v) a c d) take=some (false,take):=by
   have e:ao bw (aa fb ag) (sσ S j g.length M o (.tup (is.map λ(i:Nat)=>D.int i)) h.length b C (.tup v) a c d) take=some (.int M.p,take):=by rw[<- q3];rfl
   rw[cN,cp (d':=.int M.p) (g2:=take) e rfl,ne_self rfl (by simp[dep])];rfl
  rw[Cr,t1];exact t2
 exact⟨_,bf c1 (bf (d:=M.d) (g1:=g2) e2 (aN (pX (d:=.int o) (d':=.int M.p) (g1:=g3) (g2:=g3) (by cases M<;>exact e3) (L M g3)) (aN (pX (g1:=h) c4 c5) (bf c8 (aN (σ1:=sσ S j g.length M o (.tup (is.map λ(i:Nat)=>D.int i)) h.length b [] .ay o11 o12 o13) (g1:=places) rfl (aN cf ce)))))),rfl,⟨_,_,_,_,_,_,_,_,_,_,_,_,rfl⟩,q4⟩
end
section
open PyProof.Rows
noncomputable def rs (T:Nat->Fn):Str->Option Fn:=λy=>match(kI 0 ds).lookup y with|some q=>some (T q.1)|none=>((kJ 0 ds).lookup y).map λi=>cR (T i)
noncomputable def PF (T:Nat->Fn):FS:=aH (aj au a6 (aj aJ ba (As kU (aj au a6 b0) a5)))
noncomputable def Uh (T:Nat->Fn):FS:=aH (ao (T 0) (aa a6 (aa (fC (.str "hands")) ag)))
noncomputable def Ui (T:Nat->Fn):FS:=ax (bM (aB (aj oEq (aj au a6 b0) gU)) (aH (ao (T 0) (aa a6 (aa (fC (.str "places")) ag)))) aK) (aH (ao (T 1) (aa a6 ag)))
noncomputable def Uj (T:Nat->Fn):FS:=ax (aG (jZ (aB (aj oEq (aj au a6 b0) gU)) i3 eW) (gN 1)) (aH (ao fL (aa (bA bH (iA (aa (ao (T 2) (aa a6 ag)) ag)) [none,none,some 1] (gN 1) b9 (aI aA (aa a7 (aa a5 ag)))) ag)))
noncomputable def Zz (T:Nat->Fn):FS:=cC (rs T)
noncomputable def ZA (T:Nat->Fn):FS:=oj "renumbered" (T 1) (T 4) (T 6)
noncomputable def Uk (T:Nat->Fn):FS:=aH (jZ (aB (aj oEq (aj au a6 b0) fh)) (ao (T 0) (aa a6 (aa hY ag))) er)
noncomputable def ZC (T:Nat->Fn):FS:=og
noncomputable def Ul (T:Nat->Fn):FS:=aH (bA bH (iA (aa (ao (T 1) (aa a6 ag)) ag)) [none,none,some 1] (gN 1) (aB (aj cY a5 a7)) a5)
noncomputable def Um (T:Nat->Fn):FS:=aH (jZ (aB (aj oEq (ao (T 0) (aa a6 (aa jc ag))) ba)) (ao (T 8) (aa a6 (aa a5 ag))) (aI fP ag))
noncomputable def Wi (T:Nat->Fn):FS:=iF (rs T)
noncomputable def Wj (T:Nat->Fn):FS:=um (T 0) (T 2) (T 9) (T 4) (T 12) (T 13) "shared_look.lambda" uo
noncomputable def Wk (T:Nat->Fn):FS:=uc (T 9) (T 3) (T 10) "round_step_shared.lambda"
noncomputable def Wm (T:Nat->Fn):FS:=jG (T 2) (T 9)
noncomputable def Wn (T:Nat->Fn):FS:=O0 (T 0) (T 2) (T 8) (T 9) (T 13) (T 15)
noncomputable def Wo (T:Nat->Fn):FS:=pD (T 0)
noncomputable def Wq (T:Nat->Fn):FS:=zt (T 0) (T 1) (T 9) (T 4) (T 17) "signs_look.lambda"
noncomputable def Wr (T:Nat->Fn):FS:=zr (T 1) (T 9) (T 10) "round_step_signs.lambda"
noncomputable def Ws (T:Nat->Fn):FS:=pY (T 0) (T 1) (T 8) (T 9)
noncomputable def PH (T:Nat->Fn):FS:=ax (bM (aB (aj oEq (aj au a6 b0) (fC (.str "tables")))) (aH cg) aK) (ax (bM (aB (aj oEq (aj au a7 b0) (fC (.str "look")))) (aH (ao (T 20) (aa a6 (aa a5 (aa cJ ag))))) aK) (aH cg))
noncomputable def Bk (T:Nat->Fn):FS:=ax (aG (aj au a6 b0) (gN 3)) (ax (bM (aB (aj oEq bg i_)) (aH cg) aK) (ax (bM (aB (aj oEq bg hI)) (aH (aj au (ao (T 16) (aa a6 (aa a5 (aa a7 ag)))) b0)) aK) (ax (bM (aB (aj oEq bg gU)) (aH (aj au (ao (T 11) (aa a6 (aa a5 (aa a7 ag)))) b0)) aK) (aH (aj au (ao (T 5) (aa a6 (aa a7 ag))) b0)))))
noncomputable def Wt (T:Nat->Fn):FS:=u3
noncomputable def Wu (T:Nat->Fn):FS:=u4
noncomputable def Wv (T:Nat->Fn):FS:=A3 (T 22)
noncomputable def Ww (T:Nat->Fn):FS:=u5 (T 22) (T 23)
noncomputable def Wx (T:Nat->Fn):FS:=Pm (T 22) (T 23)
noncomputable def Wy (T:Nat->Fn):FS:=T3
noncomputable def Wz (T:Nat->Fn):FS:=rG (T 24)
noncomputable def WA (T:Nat->Fn):FS:=HV (T 22) (T 24) (T 26) (T 27)
noncomputable def WB (T:Nat->Fn):FS:=Ec (T 26) (T 28)
noncomputable def WC (T:Nat->Fn):FS:=rh (T 23)
noncomputable def WD (T:Nat->Fn):FS:=Ic
noncomputable def WE (T:Nat->Fn):FS:=Pu (T 28) (T 22)
noncomputable def Ga (T:Nat->Fn):FS:=ax (fK (iA (aa (aj aJ fc (ao ((jL kR ic)) (aa (fC (.int 6)) (aa (ao bw (aa a6 ag)) ag)))) ag)) (gN 1) (Pz (T 21) (T 22) (T 25) (T 26) (T 30) (T 29) (T 23) (T 31) (T 32) (T 19))) (aH ir)
noncomputable def WG (T:Nat->Fn):FE:=ao (T 14) (aa a6 (aa a5 (aa a7 ag)))
noncomputable def WH (T:Nat->Fn):FE:=a6
noncomputable def WI (T:Nat->Fn):FE:=ao (T 18) (aa a6 (aa a5 (aa a7 ag)))
noncomputable def WJ (T:Nat->Fn):FE:=aj au (aj au a5 ba) a6
noncomputable def tab:Nat->Nat->Fn
 | 0,_=>λ_ _=>none|k+1,0=>(aq false 2 2 (PF (tab k)))|k+1,1=>(aq false 1 1 (Uh (tab k)))|k+1,2=>(aq false 1 1 (Ui (tab k)))|k+1,3=>(aq false 2 1 (Uj (tab k)))|k+1,4=>(aq false 10 5 (Zz (tab k)))|k+1,5=>(aq false 6 2 (ZA (tab k)))|k+1,6=>(aq false 1 1 (Uk (tab k)))|k+1,7=>(aq false 2 1 (ZC (tab k)))|k+1,8=>(aq false 2 2 (Ul (tab k)))|k+1,9=>(aq false 2 2 (Um (tab k)))|k+1,10=>(aq false 5 4 (Wi (tab k)))|k+1,11=>(aq false 6 3 (Wj (tab k)))|k+1,12=>(aq false 6 3 (Wk (tab k)))|k+1,13=>(aq false 4 3 (Wm (tab k)))|k+1,14=>(aq false 12 3 (Wn (tab k)))|k+1,15=>(aq false 3 3 (Wo (tab k)))|k+1,16=>(aq false 8 3 (Wq (tab k)))|k+1,17=>(aq false 6 3 (Wr (tab k)))|k+1,18=>(aq false 10 3 (Ws (tab k)))|k+1,19=>(aq false 5 5 (PH (tab k)))|k+1,20=>(aq false 4 3 (Bk (tab k)))|k+1,21=>(aq true 3 2 (Wt (tab k)))|k+1,22=>(aq false 6 2 (Wu (tab k)))|k+1,23=>(aq false 2 2 (Wv (tab k)))|k+1,24=>(aq false 2 1 (Ww (tab k)))|k+1,25=>(aq false 7 2 (Wx (tab k)))|k+1,26=>(aq false 1 1 (Wy (tab k)))|k+1,27=>(aq false 2 2 (Wz (tab k)))|k+1,28=>(aq false 6 3 (WA (tab k)))|k+1,29=>(aq true 5 2 (WB (tab k)))|k+1,30=>(aq false 2 2 (WC (tab k)))|k+1,31=>(aq false 4 1 (WD (tab k)))|k+1,32=>(aq false 6 4 (WE (tab k)))|k+1,33=>(aq false 14 1 (Ga (tab k)))|k+1,34=>bF 2 1 (WG (tab k))|k+1,35=>bF 0 1 (WH (tab k))|k+1,36=>bF 2 1 (WI (tab k))|k+1,37=>bF 1 1 (WJ (tab k))|_+1,_=>λ_ _=>none
def rws (k:Nat):wU mo (tab k) (tab (k+1)) k 0 mo.ds:=by repeat (first|exact .nil| (refine .cons ?_ ?_;· kernel_rfl))
def good:Oa mo tab:=Kc (λ_ _ _=>rfl) rws (by decide +kernel) (by decide +kernel)
end
section
variable {Z Y X:Nat}{u:D}{M:MQ}
noncomputable def lO:MQ->Str
 |.shared ..=>"box"|_=>"own"
def ZE (k:Nat)(g:G):tab (k+1) 0 [M.d,.str "hands"] g=some (.int M.n,g):=by show aq false 2 2 (PF (tab k)) _ g=_;cases M<;>exact aU rfl (cw rfl) rfl
def lP (k:Nat)(g:G):tab (k+2) 1 [M.d] g=some (.int M.n,g):=by show aq false 1 1 (Uh (tab (k+1))) _ g=_;exact aU rfl (cw (ZE k g)) rfl
def PJ (k:Nat)(g:G):tab (k+3) 2 [M.d] g=some (.int M.p,g):=by
 show aq false 1 1 (Ui (tab (k+2))) _ g=_;cases M with
 |shared n p c sh mo =>
  refine aU rfl (fz (g1:=g) rfl ?_) rfl;show tab (k+2) 0 [(MQ.shared n p c sh mo).d,.str "places"] g=_;show aq false 2 2 (PF (tab (k+1))) _ g=_;exact aU rfl (cw rfl) rfl
 |handed n tu mo=>exact aU rfl (aN ((bP (g1:=g) rfl).trans rfl) (cw (lP (M:=.handed n tu mo) k g))) rfl|signs n c sh mo=>exact aU rfl (aN ((bP (g1:=g) rfl).trans rfl) (cw (lP (M:=.signs n c sh mo) k g))) rfl
def RQ (ok:M.Ok)(k:Nat)(g:G):tab (k+4) 3 [M.d] g=some (.tup ((nN M.p).map λj=>own (lO M) j),g):=by
 show aq false 2 1 (Uj (tab (k+3))) _ g=_;have l:=ok.p5;have f:aC 2=true:=rfl;have b:aC M.p=true:=aR (by lia);have c:=dG (t:=gN 1) (c:=b9) (e:=aI aA (aa a7 (aa a5 ag))) (h:=λd=>D.tup [.str (lO M),d]) (λσ=>∃a,σ = [none,a,some (.str (lO M))]) (fB 0 M.p) [none,none,some (.str (lO M))] g ⟨_,rfl⟩ (by rintro t hm σ ⟨a,rfl⟩;exact⟨[none,some t,some (.str (lO M))],by simp,by simp,by simp[f],_,rfl⟩)
 have r:=rA (fr:=aa (ao (tab (k+3) 2) (aa a6 ag)) ag) (σ:=[some M.d,some (.str (lO M))]) (g:=g) (g1:=g) (n:=M.p) (by have e:ao (tab (k+3) 2) (aa a6 ag) [some M.d,some (.str (lO M))] g=some (.int M.p,g):=PJ k g;simp only[bS,e,cG,k9]) (by lia)
 have i:bA bH (iA (aa (ao (tab (k+3) 2) (aa a6 ag)) ag)) [none,none,some 1] (gN 1) b9 (aI aA (aa a7 (aa a5 ag))) [some M.d,some (.str (lO M))] g=some (.lst ((nN M.p).map λj=>own (lO M) j),g):=by rw[fW,r];simp only[k9,dB,b,if_true];rw[show cq [none,none,some 1] [some M.d,some (.str (lO M))]= [none,none,some (.str (lO M))] from rfl,c];simp[bH,fB,own,MZ,b]
 refine aU rfl (bf (d:=.str (lO M)) (g1:=g) (by cases M<;>rfl) (cw ?_)) rfl;show ao fL (aa (bA bH _ _ _ _ _) ag) [some M.d,some (.str (lO M))] g=_;simp only[fV,bS,i,cG,k9,yx,aW];rw[if_pos (by simpa using b)]
def Bl (ok:M.Ok)(k:Nat)(g:G):tab (k+3) 8 [M.d,.int o] g=some (.lst (dN (dj M.n o)),g):=by
 show aq false 2 2 (Ul (tab (k+2))) _ g=_;have i:=ok.n5;have r:=rA (fr:=aa (ao (tab (k+2) 1) (aa a6 ag)) ag) (σ:=[some M.d,some (.int o)]) (g:=g) (g1:=g) (n:=M.n) (by have e:ao (tab (k+2) 1) (aa a6 ag) [some M.d,some (.int o)] g=some (.int M.n,g):=lP k g;simp only[bS,e,cG,k9]) (by lia)
 have p:aC M.n=true:=aR (by lia);have f:∀(l:List Nat) (b:Option D),cQ (gN 1) (aB (aj cY a5 a7)) a5 (dN l) [none,b,some (.int o)] g=some (dN (l.filter λj=>!(j == o)),g):=λl=>by
  induction l with
  |nil=>exact λ_=>rfl
  |cons j l q =>
   intro b;have t:aB (aj cY a5 a7) [none,some (.int j),some (.int o)] g=some (decide ((j:Int)≠o),g):=by rw[cN,cp (d:=.int j) (d':=.int o) (g1:=g) (g2:=g) rfl rfl,SQ];rfl
   have a:=q (some (.int j));simp only[dN,wh]at a ⊢;simp only[cQ];rw[show gN 1 (D.int j) [none,b,some (.int o)] g=some ([none,some (.int j),some (.int o)],g) from rfl];simp only[k9,t];by_cases e:j=o
   . subst e
     simp[a]
   . have c:((j:Int)≠o):=by lia
     rw[decide_eq_true c];simp only[if_true,show a5 [none,some (D.int j),some (.int o)] g=some (.int j,g) from rfl,k9,a];simp[e]
 have zl:aC (dN (dj M.n o)).length=true:=aR (by rw[bW];have:=lK (n:=M.n) (o:=o);lia);refine aU rfl (cw ?_) rfl;show bA bH _ _ _ _ _ [some M.d,some (.int o)] g=_;rw[fW,r];simp only[k9,dB,p,if_true];have h:fB 0 M.n=dN (nN M.n):=by simp[fB,dN]
 rw[show cq [none,none,some 1] [some M.d,some (.int o)]= [none,none,some (.int o)] from rfl,h,f];simp only[k9,bH];rw[show(nN M.n).filter (λj=>!(j == o))=dj M.n o from rfl]
def Il (ok:M.Ok)(b:tab (i+3) 0 [M.d,.str "shakes"] a=some (.int M.sh,a)):tab (i+4) 9 [M.d,.int o] a=some (.lst (dN (aw M.n o M.sh)),a):=by
 show aq false 2 2 (Um (tab (i+3))) _ a=_;refine aU rfl (cw ?_) rfl;have t:aB (aj oEq (ao (tab (i+3) 0) (aa a6 (aa jc ag))) ba) [some M.d,some (.int o)] a=some (decide ((M.sh:Int)=1),a):=by have k:ao (tab (i+3) 0) (aa a6 (aa jc ag)) [some M.d,some (.int o)] a=some (.int M.sh,a):=b;rw[cN,cp (d':=.int 1) (g2:=a) k rfl];by_cases e:(M.sh:Int)=1<;>simp[d5,flat,dep,bB,e]
 show jZ _ _ _ [some M.d,some (.int o)] a=_;rw[yu,t];simp only[k9];by_cases h:M.sh=1
 . rw[if_pos (by simp[h])]
   unfold aw;rw[if_pos h];exact Bl ok i a
 . rw[if_neg (by simp;lia)]
   unfold aw;rw[if_neg h];rfl
def jv {ah:D}(k:Nat)(h:tab (k+9) 20 [M.d,.int o,.tup r] a=some (c,a)):tab (k+10) 19 [M.d,.int o,Ie,ah,.tup r] a=some (c,a):=by show aq false 5 5 (PH (tab (k+9))) _ a=_;exact aU rfl (aN ((bP (g1:=a) (by cases M<;>rfl)).trans rfl) (fz (g1:=a) rfl h)) rfl
def zN (k:Nat)(h:tab (k+8) 16 [(MQ.signs i j K Z).d,.int o,.tup r] a=some (.tup [c,u],a)):tab (k+9) 20 [(MQ.signs i j K Z).d,.int o,.tup r] a=some (c,a):=by show aq false 4 3 (Bk (tab (k+8))) _ a=_;exact aU rfl (bf (d:=.str "signs") (g1:=a) rfl (aN ((bP (g1:=a) rfl).trans rfl) (fz (g1:=a) rfl ((cp (d:=.tup [c,u]) (g1:=a) h rfl).trans rfl)))) rfl
def mN (k:Nat)(h:tab (k+8) 11 [(MQ.shared i j K Z Y).d,.int o,.tup r] a=some (.tup [c,u],a)):tab (k+9) 20 [(MQ.shared i j K Z Y).d,.int o,.tup r] a=some (c,a):=by show aq false 4 3 (Bk (tab (k+8))) _ a=_;exact aU rfl (bf (d:=.str "shared") (g1:=a) rfl (aN ((bP (g1:=a) rfl).trans rfl) (aN ((bP (g1:=a) rfl).trans rfl) (fz (g1:=a) rfl ((cp (d:=.tup [c,u]) (g1:=a) h rfl).trans rfl))))) rfl
def Im (k:Nat)(h:tab (k+8) 5 [(MQ.handed i j K).d,.tup r] a=some (.tup [c,u],a)):tab (k+9) 20 [(MQ.handed i j K).d,.int o,.tup r] a=some (c,a):=by show aq false 4 3 (Bk (tab (k+8))) _ a=_;exact aU rfl (bf (d:=.str "handed") (g1:=a) rfl (aN ((bP (g1:=a) rfl).trans rfl) (aN ((bP (g1:=a) rfl).trans rfl) (aN ((bP (g1:=a) rfl).trans rfl) (cw ((cp (d:=.tup [c,u]) (g1:=a) h rfl).trans rfl)))))) rfl
theorem eN {c:D}:∀{l:List D} {i:Nat},i<l.length->(l.set i c).take (i+1)=l.take i ++ [c]
 | [],_,h=>by simp at h|x::l,0,_=>by simp|x::l,i+1,h=>by have:=eN (c:=c) (l:=l) (i:=i) (by simpa using h);rw[ae4,agA,this];rfl
theorem sH {c:D}:∀{ks:List D} {k:Nat},cX (ks.set k c)=(cX ks).set (2*k) c
 | [],k=>by simp[cX]|x::ks,0=>by simp[cX]|x::ks,k+1=>by have:=sH (c:=c) (ks:=ks) (k:=k);simp only[cX]at this;rw[show 2*(k+1)=2*k+1+1 by lia];simp[cX,this]
theorem sI:∀{ks:List D} {k:Nat},k<ks.length->(cX ks)[2*k+1]? = some .ay
 | [],k,h=>by simp at h|x::ks,0,_=>by simp[cX]|x::ks,k+1,h=>by have:=sI (ks:=ks) (k:=k) (by simpa using h);simp only[cX]at this;rw[show 2*(k+1)+1=2*k+1+1+1 by lia];simp[cX,this]
def mem_set {P:D->Prop}(h:∀x∈r,P x)(b:P c):∀x∈r.set i c,P x:=λx a=>by
 rcases List.mem_or_eq_of_mem_set a with h'|rfl
 . exact h x h'
 . exact b
def Eh (h:j<i):(pB x i)[j]? = some (.tup [.str "read",own x j]):=by simp[pB,h]
noncomputable def VS (n o sh:Nat)(r:R3):Prop:=iE n o sh r.1 r.2.1 r.2.2
def xK (h:CK (.signs i o K Z) (own "own" j) c):SC i c:=h.ow j rfl
def Gb (y:o<j){r:R3}(R:VS j o Z r)(v:i<bZ j o Z)(n:(xp j o Z r.1)[i]? = some c):SK (.signs j K Z Y) o u (VS j o Z) bY r i c:=by
 obtain⟨b,fs,g⟩:=r;have h:b.length=(aw j o Z).length:=R.kl;have hw:(cX b).length=2*(aw j o Z).length:=by rw[gy,h]
 have zl:((aw j o Z).zip b).length=(aw j o Z).length:=by rw[BU];lia
 have e:fs.length=j:=R.fl;have p:g.length=j:=R.sl;have rl:(bY (b,fs,g)).length=2*(aw j o Z).length+2*j:=by simp[bY,cL,hw,e,p];lia
 unfold bZ at v;unfold xp at n;by_cases h1:i<2*(aw j o Z).length
 . rw[m5 (by rw[lN,ff,zl];lia),m5 (by rw[ff,zl];lia)]at n
   obtain⟨k,q⟩:∃k,i=2*k\/i=2*k+1:=⟨i / 2,by lia⟩
   have s:k<(aw j o Z).length:=by lia
   have l:((aw j o Z).zip b)[k]? = some ((aw j o Z)[k],b[k]'(by lia)):=by rw[lC (by lia),ahu]
   have hm:=(iW.mp (p6 s)).2;rcases q with rfl|rfl
   . rw[pZ l]at n;cases n
     refine .read _ (.own _ hm.1) λx f _=>⟨(b.set k x,fs,g),⟨by simpa using h,e,p,mem_set R.ka (xK f),R.fa,R.sa⟩,?_⟩
     have:bY (b.set k x,fs,g)=(bY (b,fs,g)).set (2*k) x:=by simp only[bY,cL];rw[OU _ _ (by rw[lN];lia),OU _ _ (by lia),sH]
     rw[this,eN (by lia)]
   . rw[sA l]at n;cases n
     refine .write _ _ hm.1 ?_;simp only[bY,cL];rw[m5 (by rw[lN];lia),m5 (by lia)];exact sI (by lia)
 . have a:(pB "own" j).length=j:=by simp[pB]
   by_cases h2:i<2*(aw j o Z).length+j
   . rw[m5 (by rw[lN,ff,zl,a];lia),th (by rw[ff,zl];lia),ff,zl,Eh (by lia)]at n
     cases n;refine .read _ (.own _ (show i-2*(aw j o Z).length<j by lia)) λx f _=>⟨(b,fs.set (i-2*(aw j o Z).length) x,g),⟨h,by simpa using e,p,R.ka,mem_set R.fa (xK f),R.sa⟩,?_⟩
     have:bY (b,fs.set (i-2*(aw j o Z).length) x,g)=(bY (b,fs,g)).set i x:=by simp only[bY,cL];rw[OU _ _ (by rw[lN];lia),N1 _ _ (by lia),hw]
     rw[this,eN (by lia)]
   . rw[th (by rw[lN,ff,zl,a];lia),lN,ff,zl,a,Eh (by lia)]at n
     cases n;refine .read _ (.own _ (show i-(2*(aw j o Z).length+j)<j by lia)) λx f _=>⟨(b,fs,g.set (i-(2*(aw j o Z).length+j)) x),⟨h,e,by simpa using p,R.ka,R.fa,mem_set R.sa (xK f)⟩,?_⟩
     have:bY (b,fs,g.set (i-(2*(aw j o Z).length+j)) x)=(bY (b,fs,g)).set i x:=by simp only[bY,cL];rw[N1 _ _ (by rw[lN];lia),lN,hw,e]
     rw[this,eN (by lia)]
noncomputable def VH (n p o sh:Nat)(r:R4):Prop:=rF n p o sh r
def PM {S:List Nat}(h:j<S.length):(cls x o S)[j]? = some (.tup [.str x,.int S[j],.int o]):=by simp[cls,h]
def Ei:bI (y.set i I)=(bI y).set i (.int I):=by simp[bI,List.map_set]
def Ej (B:o<j){r:R4}(R:VH j K o Y r)(C:i<bp j K o Y)(A:(Wg j K o Y r.1)[i]? = some c):SK (.shared j K Z Y X) o u (VH j K o Y) da r i c:=by
 obtain⟨e,fs,E,g⟩:=r;have z:e.length=(aw j o Y).length:=R.kl;have kb:(bI e).length=(aw j o Y).length:=by simp[bI,z]
 have hw:(cX (bI e)).length=2*(aw j o Y).length:=by rw[gy,kb]
 have zl:((aw j o Y).zip e).length=(aw j o Y).length:=by rw[BU];lia
 have f:fs.length=K:=R.fl;have y:E.length=K:=R.sl;have cl:g.length=(aw j o Y).length:=R.cl;have rl:(da (e,fs,E,g)).length=3*(aw j o Y).length+2*K:=by simp only[da,bN,lN,hw,f,y,show(bI g).length=(aw j o Y).length by simp[bI,cl]];lia
 have s:(eK K).length=K:=by simp[eK]
 have H:∀p,p<K->(eK K)[p]? = some (own "box" p):=λp h=>by simp[eK,h]
 unfold bp at C;unfold Wg at A;have pl:=oq (l:=(aw j o Y).zip e) (a:=λq=>D.tup [.str "read",.tup [.str "call",.int q.1,.int o]]) (b:=λq=>.tup [.str "write",de o q.1,.int q.2]);rw[zl]at pl;by_cases h1:i<2*(aw j o Y).length
 . rw[m5 (by rw[pl];lia)]at A
   obtain⟨k,I⟩:∃k,i=2*k\/i=2*k+1:=⟨i / 2,by lia⟩
   have J:k<(aw j o Y).length:=by lia
   have hz:((aw j o Y).zip e)[k]? = some ((aw j o Y)[k],e[k]'(by lia)):=by rw[lC (by lia),ahu]
   have hm:=(iW.mp (p6 J)).2;rcases I with rfl|rfl
   . rw[sD hz]at A;cases A
     refine .read _ (.call _ _ hm.1 B) λx n _=>?_;obtain⟨v,rfl⟩:=n.cl _ _ rfl;refine⟨(e.set k v,fs,E,g),⟨by simpa using z,f,y,cl,R.fa,R.sa⟩,?_⟩;have:da (e.set k v,fs,E,g)=(da (e,fs,E,g)).set (2*k) (.int v):=by simp only[da,bN];rw[OU _ _ (by rw[lN,lN];lia),OU _ _ (by rw[lN];lia),OU _ _ (by lia),Ei,sH]
     rw[this,eN (by lia)]
   . rw[xq hz]at A;cases A
     refine .write _ _ hm.1 ?_;simp only[da,bN];rw[m5 (by rw[lN,lN];lia),m5 (by rw[lN];lia),m5 (by lia)];exact sI (by lia)
 . rw[th (by rw[pl];lia),pl]at A
   unfold F5 pF at A;rw[m2]at A;by_cases h2:i<2*(aw j o Y).length+K
   . rw[m5 (by rw[lN,s];lia),m5 (by rw[s];lia),H _ (by lia)]at A
     cases A;refine .read _ (.box _ (show i-2*(aw j o Y).length<K by lia)) λx n _=>⟨(e,fs.set (i-2*(aw j o Y).length) x,E,g),⟨z,by simpa using f,y,cl,mem_set R.fa (n.bo _ rfl),R.sa⟩,?_⟩
     have:da (e,fs.set (i-2*(aw j o Y).length) x,E,g)=(da (e,fs,E,g)).set i x:=by simp only[da,bN];rw[OU _ _ (by rw[lN,lN];lia),OU _ _ (by rw[lN];lia),N1 _ _ (by lia),hw]
     rw[this,eN (by lia)]
   . by_cases O:i<2*(aw j o Y).length+2*K
     . rw[m5 (by rw[lN,s];lia),th (by rw[s];lia),s,H _ (by lia)]at A
       cases A;refine .read _ (.box _ (show i-2*(aw j o Y).length-K<K by lia)) λx n _=>⟨(e,fs,E.set (i-(2*(aw j o Y).length+K)) x,g),⟨z,f,by simpa using y,cl,R.fa,mem_set R.sa (n.bo _ rfl)⟩,?_⟩
       have:da (e,fs,E.set (i-(2*(aw j o Y).length+K)) x,g)=(da (e,fs,E,g)).set i x:=by simp only[da,bN];rw[OU _ _ (by rw[lN,lN];lia),N1 _ _ (by rw[lN];lia),lN,hw,f]
       rw[this,eN (by lia)]
     . have lt:i-2*(aw j o Y).length-(K+K)<(aw j o Y).length:=by lia
       rw[th (by rw[lN,s];lia),lN,s,PM lt]at A;cases A;have hm:=(iW.mp (p6 lt)).2;refine .read _ (.call _ _ hm.1 B) λx n _=>?_;obtain⟨v,rfl⟩:=n.cl _ _ rfl;refine⟨(e,fs,E,g.set (i-(2*(aw j o Y).length+K+K)) v),⟨z,f,y,by simpa using cl,R.fa,R.sa⟩,?_⟩;have:da (e,fs,E,g.set (i-(2*(aw j o Y).length+K+K)) v)=(da (e,fs,E,g)).set i (.int v):=by simp only[da,bN];rw[N1 _ _ (by rw[lN,lN];lia),lN,lN,hw,f,y,Ei]
       rw[this,eN (by lia)]
structure VN (n o:Nat)(c0:D)(r:List D):Prop where
 len:r.length=n
 all:∀c∈r,∃v x ws,c = .tup [v,.int x,.tup ws]/\ws.length=n
 own:r[o]? = some c0
def Ek (f:o<K)(R:VN K o c r)(b:i<K):SK (.handed K j Z) o c (VN K o c) id r i (.tup [.str "read",own "own" i]):=by
 have rl:=R.len;refine .read _ (.own _ b) λtu a g=>⟨r.set i tu,⟨by simpa using rl,mem_set R.all ?_,?_⟩,eN (by lia)⟩
 . obtain⟨v,x,h,e,_,l,_⟩:=a.ow i rfl
   exact⟨v,x,h,e,l⟩
 . by_cases e:i=o
   . subst e
     rw[ua (by lia),g rfl]
   . rw[Oc e];exact R.own
def ZF (k:Nat)(ok:(MQ.signs i j K Z).Ok)(a:o<i):D4 (MQ.signs i j K Z).d i o j K Z (tab (k+8) 0) (tab (k+8) 1) (tab (k+8) 8) (tab (k+8) 9) (rs (tab (k+7))) (rs (tab (k+6))) "signs_look.lambda" "round_step_signs.lambda" :=
 ⟨⟨λg=>lP (M:=.signs i j K Z) (k+6) g,λg=>aU rfl (cw rfl) rfl,λg=>Bl ok (k+5) g,λg=>Il ok (aU rfl (cw rfl) rfl),a,ok.n5⟩,λg=>aU rfl (cw rfl) rfl,rfl,rfl,rfl⟩
def PN (k:Nat):tab (k+9) 16=aq false 8 3 (zt (tab (k+8) 0) (tab (k+8) 1) (tab (k+8) 9) (aq false 10 5 (cC (rs (tab (k+7))))) (aq false 6 3 (zr (tab (k+8) 1) (tab (k+8) 9) (aq false 5 4 (iF (rs (tab (k+6))))) "round_step_signs.lambda")) "signs_look.lambda"):=rfl
def zO {n sh:Nat}(b:n<=5)(a:o<n)(c:sh<=1):(aw n o sh).length=sh*(n-1):=(show ∀n,n<=5->∀o,o<n->∀sh,sh<=1->(aw n o sh).length=sh*(n-1) by decide) n b o a sh c
def Bm (ok:M.Ok){x:Nat}(h:x<=(M.n-1)*(M.mo-1)):x<=12:=by have:=Pq ok;unfold MQ.R at this;lia
noncomputable def GS (n o c sh mo:Nat)(zs:List R3):Prop:=∀k,k<(zs.map (jF n o c sh)).length->dI (.int mo) (zs.map (jF n o c sh)) k
def Io {n:Nat}{mo:Nat}(ok:(MQ.signs n i j mo).Ok)(c:o<n){zs:List R3}(g:GS n o i j mo zs):zs.length<=(n-1)*(mo-1):=by
 have:=zJ (n:=n) (mo:=mo) (ps:=zs.map (jF n o i j)) ok.n5 c ok.m1 (λP b h a=>by obtain⟨r,_,rfl⟩:=mM.mp b;exact(ro.mp a).1) g
 simpa using this
def KI {n:Nat}{sh:Nat}{C:D}(k:Nat)(ok:(MQ.signs n i sh j).Ok)(A:o<n)(B:sE (.signs n i sh j) C):xG (tab (k+11) 19) (.signs n i sh j) o c C R3 (bZ n o sh) bY (VS n o sh) (GS n o i sh j):=by
 have F:=ZF k ok A;have sl:bZ n o sh=2*n+2*(sh*(n-1)):=by unfold bZ;rw[zO (n:=n) (sh:=sh) ok.n5 A ok.s1];lia
 have l:∀zs:List R3,(∀r∈zs,VS n o sh r)->GS n o i sh j zs->pC n o sh zs/\zs.length<=12:=λzs a g=>by have:=Bm ok (Io ok A g);exact⟨⟨a,by lia⟩,this⟩
 refine⟨sC F.S,λr v=>v.wl,⟨(l6 (aw n o sh).length C,l6 n C,l6 n C),by simp,by simp,by simp,λE h=>(XW h) ▸ B,λE h=>(XW h) ▸ B,λE h=>(XW h) ▸ B⟩,λk h=>absurd h (Yh _),λzs a g=>?_,λzs r mo a v g q=>?_,λzs r a v g=>?_⟩
 . show _<=((n-1)*(j-1)+1)*(2*n+2*(sh*(n-1)))
   rw[<- sl];exact Yf _ (by have:=Io ok A g;lia)
 . obtain⟨W,dU⟩:=l zs a g
   have op:=λb:G=>D6 (g:=b) F W v q λk f=>g k (by simpa using f);obtain⟨x,_,s,_⟩:=op [];refine⟨x,Gb A v q s,λb _=>?_⟩;obtain⟨O,u,y,e⟩:=op b;rw[s]at y;cases y;rw[<- PN]at e;exact jv (k+1) (zN (u:=u) (k+1) e)
 . obtain⟨W,dU⟩:=l zs a g
   rcases zK (P:=jF n o i sh r) g with h|⟨en,he,hj⟩
   . left
     unfold GS;rw[Gn];exact h
   . right
     have H:i8 (.int j) ((zs ++ [r]).map (jF n o i sh)) zs.length en:=by rw[Gn];simpa using he
     have I:∀k,k<zs.length->dI (.int j) ((zs ++ [r]).map (jF n o i sh)) k:=λk f=>by rw[Gn];exact qa g k (by simpa using f)
     have z:∀p,en=some p->p<n:=λp e=>(fI.mp (ro.mp (hj p e)).1).1;have sa:∀E∈r.2.2,SC n E:=v.sa;obtain⟨w,wl,J⟩:∃w:List D,w.length=n/\Z1 r.2.2 en = .tup w:=by
      cases en with
      |none=>exact⟨r.2.2.map Gu,by rw[oY];exact v.sl,rfl⟩
      |some p =>
       have lt:p<r.2.2.length:=by rw[v.sl];exact z p rfl
       have hm:=sa _ (p6 lt);have e:Z1 r.2.2 (some p)=cW r.2.2[p]:=by simp[Z1,nK,lt]
       rw[e];generalize r.2.2[p]=E at hm;cases hm with
       |mk v bs t vw Q hb hw ha=>exact⟨vw,hw,rfl⟩
     refine .told ⟨w,wl,λb _=>?_⟩;have e:=D7 (g:=b) (rest:=[]) (rstep:=aq false 6 3 (zr (tab (k+8) 1) (tab (k+8) 9) (aq false 5 4 (iF (rs (tab (k+6))))) "round_step_signs.lambda")) F W v (by lia) (by simp) I H z;rw[<- PN,tA,J]at e;exact jv (k+1) (zN (k+1) e)
def ZG (k:Nat)(ok:(MQ.shared i j K Z Y).Ok)(a:o<i):iG (MQ.shared i j K Z Y).d i j o K Z Y (tab (k+8) 0) (tab (k+8) 2) (tab (k+8) 8) (tab (k+8) 9):=
 ⟨λg=>PJ (M:=.shared i j K Z Y) (k+5) g,λg=>aU rfl (cw rfl) rfl,λg=>aU rfl (cw rfl) rfl,λg=>Bl ok (k+5) g,λg=>Il ok (aU rfl (cw rfl) rfl),a,ok.n5,ok.p1,ok.p4 _ _ _ _ _ rfl,rfl⟩
def Bn (k:Nat):tab (k+9) 11=aq false 6 3 (um (tab (k+8) 0) (tab (k+8) 2) (tab (k+8) 9) (aq false 10 5 (cC (rs (tab (k+7))))) (aq false 6 3 (uc (tab (k+8) 9) (tab (k+8) 3) (aq false 5 4 (iF (rs (tab (k+6))))) "round_step_shared.lambda")) (aq false 4 3 (jG (tab (k+8) 2) (tab (k+8) 9))) "shared_look.lambda" uo):=rfl
def Bo (k:Nat):rs (tab (k+7)) "shared_look.lambda" = some (cR (bF 2 1 (ng (ot (tab (k+8) 0) (tab (k+8) 2) (tab (k+8) 8) (tab (k+8) 9))))):=rfl
def RR (k:Nat):rs (tab (k+6)) "round_step_shared.lambda" = some (cR (bF 0 1 a6)):=rfl
noncomputable def GH (n o c sh mo:Nat)(zs:List R4):Prop:=∀k,k<(zs.map (iI n o c sh)).length->dI (.int mo) (zs.map (iI n o c sh)) k
def Ip {n:Nat}{mo:Nat}(ok:(MQ.shared n i j K mo).Ok)(c:o<n){zs:List R4}(g:GH n o j K mo zs):zs.length<=(n-1)*(mo-1):=by
 have:=zJ (n:=n) (mo:=mo) (ps:=zs.map (iI n o j K)) ok.n5 c ok.m1 (λP b p a=>by obtain⟨r,_,rfl⟩:=mM.mp b;exact(ro.mp a).1) g
 simpa using this
def Gf {n:Nat}{sh:Nat}{E:D}(k:Nat)(ok:(MQ.shared n i j sh K).Ok)(A:o<n):xG (tab (k+11) 19) (.shared n i j sh K) o c E R4 (bp n i o sh) da (VH n i o sh) (GH n o j sh K):=by
 have S:=ZG (o:=o) k ok A;have p1:=S.p1;have H:∀g,tab (k+8) 3 [(MQ.shared n i j sh K).d] g=some (.tup (eK i),g):=λg=>RQ ok (k+4) g;have sl:bp n i o sh=2*i+3*(sh*(n-1)):=by unfold bp;rw[zO (n:=n) (sh:=sh) ok.n5 A ok.s1];lia
 have s:∀zs:List R4,(∀r∈zs,VH n i o sh r)->GH n o j sh K zs->kM n i o sh zs/\zs.length<=12:=λzs a g=>by have:=Bm ok (Ip ok A g);exact⟨⟨a,by lia⟩,this⟩
 have bc:BC (.tup [.int 0,.int 0,.int 0]):=⟨.int 0,0,0,rfl,rfl,by simp[dep]⟩
 have bound:∀zs:List R4,GH n o j sh K zs->(zs.length+1)*bp n i o sh<=((n-1)*(K-1)+1)*bp n i o sh:=λzs g=>Yf _ (by have:=Ip ok A g;lia);have most:dJ (.shared n i j sh K)=((n-1)*(K-1)+1)*bp n i o sh+if 1<n then 1 else 0:=by rw[sl];rfl
 refine⟨by unfold bp;lia,λr v=>v.wl,⟨(l6 (aw n o sh).length 0,l6 i _,l6 i _,l6 (aw n o sh).length 0),by simp,by simp,by simp,by simp,λI h=>(XW h) ▸ bc,λI h=>(XW h) ▸ bc⟩,λk h=>absurd h (Yh _),λzs a g=>?_,λzs r p a v g y=>?_,λzs r a v g=>?_⟩
 . have:=bound zs g
   rw[most];lia
 . obtain⟨W,dU⟩:=s zs a g
   have op:=λb:G=>Be (g:=b) (scF:=aq false 4 3 (jG (tab (k+8) 2) (tab (k+8) 9))) (X:=uo) (Bo k) (RR k) S H W v y λk l=>g k (by simpa using l);obtain⟨x,_,z,_⟩:=op [];refine⟨x,Ej A v y z,λb _=>?_⟩;obtain⟨Q,u,B,e⟩:=op b;rw[z]at B;cases B;rw[<- Bn]at e;exact jv (k+1) (mN (u:=u) (k+1) e)
 . obtain⟨W,dU⟩:=s zs a g
   rcases zK (P:=iI n o j sh r) g with h|⟨en,he,hj⟩
   . left
     unfold GH;rw[Gn];exact h
   . right
     have f:i8 (.int K) ((zs ++ [r]).map (iI n o j sh)) zs.length en:=by rw[Gn];simpa using he
     have q:∀k,k<zs.length->dI (.int K) ((zs ++ [r]).map (iI n o j sh)) k:=λk l=>by rw[Gn];exact qa g k (by simpa using l)
     cases en with
     |none =>
      refine .told ⟨r.2.2.1.map Gu,by rw[oY];exact v.sl,λb _=>?_⟩;have e:=xU (g:=b) (rest:=[]) (X:=uo) (step:=aq false 6 3 (uc (tab (k+8) 9) (tab (k+8) 3) (aq false 5 4 (iF (rs (tab (k+6))))) "round_step_shared.lambda")) (Bo k) S W v (by lia) (by simp) q f;rw[<- Bn,tA]at e;exact jv (k+1) (mN (k+1) e)
     |some mo =>
      have J:=fI.mp (ro.mp (hj mo rfl)).1;have n2:1<n:=by lia
      refine .view (by have:=bound zs g;rw[most,if_pos n2];lia) mo J.1 (λb _=>?_) λC wl O=>⟨C,wl,λb _=>?_⟩
      . obtain⟨u,e⟩:=Bf (g:=b) (scF:=aq false 4 3 (jG (tab (k+8) 2) (tab (k+8) 9))) (step:=aq false 6 3 (uc (tab (k+8) 9) (tab (k+8) 3) (aq false 5 4 (iF (rs (tab (k+6))))) "round_step_shared.lambda")) (Bo k) S W v (by lia) q f
        rw[<- Bn]at e;exact jv (k+1) (mN (k+1) e)
      . have e:=Bg (g:=b) (v:=.tup C) (rest:=[]) (scF:=aq false 4 3 (jG (tab (k+8) 2) (tab (k+8) 9))) (step:=aq false 6 3 (uc (tab (k+8) 9) (tab (k+8) 3) (aq false 5 4 (iF (rs (tab (k+6))))) "round_step_shared.lambda")) (Bo k) S W v (by lia) (rH O).1 (by simp) q f
        rw[<- Bn]at e;exact jv (k+1) (mN (k+1) e)
noncomputable def GN (mo:Nat)(c:List (List D)):Prop:=∀i,i+1<c.length->Goes (.int mo) c i
def Bp {n:Nat}{mo:Nat}(ok:(MQ.handed n i mo).Ok)(q:o<n){p:List (List D)}(a:∀c∈p,VN n o u c)(g:GN mo p):p.length<=(n-1)*(mo-1)+1:=by
 have:=Ef (n:=n) (mo:=mo) (P:=λk=>bK (p.getD k []) (p.getD (k+1) [])) (c:=vz p) (K:=p.length-1) ⟨λ_=>rfl,λ_ _=>rfl⟩ ok.n5 q ok.m1 (λk h=>⟨(g k (by lia)).1,λj b=>by
  have at_:∀tu,tu<p.length->VN n o u (p.getD tu []):=λtu f=>by rw[nK,lC f];exact a _ (p6 f)
  have A:=at_ k (by lia)
  have B:=at_ (k+1) (by lia)
  have lt:=w5 b;rw[A.len]at lt;refine fI.mpr ⟨lt,λe=>?_⟩;subst e;have hf:=(ro.mp b).2;unfold DJ at hf;rw[nK,nK (l:=p.getD (k+1) []),A.own,B.own]at hf;simp at hf⟩) λk h=>Eg (g k (by lia)).2
 lia
def Gg {ah:D}(k:Nat)(ok:(MQ.handed j i K).Ok)(A:o<j)(B:sE (.handed j i K) c):xG (tab (k+11) 19) (.handed j i K) o ah c (List D) j id (VN j o c) (GN K):=by
 have n1:1<=j:=ok.n1;have n5:j<=5:=ok.n5;have I:tab (k+9) 5=aq false 6 2 (oj "renumbered" (tab (k+8) 1) (aq false 10 5 (cC (rs (tab (k+7))))) (tab (k+8) 6)):=rfl;have hR:rs (tab (k+7)) "renumbered" = some (aq false 2 1 og):=rfl;have hh:∀g,tab (k+8) 1 [(MQ.handed j i K).d] g=some (.int j,g):=λg=>lP (M:=.handed j i K) (k+6) g;have hm:∀g,tab (k+8) 6 [(MQ.handed j i K).d] g=some (.int K,g):=λg=>by have B:tab (k+7) 0 [(MQ.handed j i K).d,.str "moves"] g=some (.int K,g):=aU rfl (cw rfl) rfl;show aq false 1 1 (Uk (tab (k+7))) _ g=_;refine aU rfl (cw (g1:=g) (d:=.int K) ?_) rfl;show jZ _ _ _ [some (MQ.handed j i K).d] g=_;rw[yu,show aB (aj oEq (aj au a6 b0) fh) [some (MQ.handed j i K).d] g=some (true,g) from rfl];exact B
 have J:∀C:List (List D),(∀n∈C,VN j o c n)->C.length<=14->oh j C:=λC a l=>⟨λn h=>(a n h).len,λn h x z=>by obtain⟨v,y,p,e,_⟩:=(a n h).all x z;exact⟨v,y,_,e⟩,n1,by lia,n7 (Nz l n5) (by decide)⟩
 have O:∀{x:Nat},x<=(j-1)*(K-1)+1->x<=13:=fun {x} h=>by have:=Bm ok (x:=x-1) (show x-1<=(j-1)*(K-1) by lia);lia
 refine⟨n1,λr v=>v.len,⟨l6 j c,by simp,λn h=>?_,by simp[A]⟩,λk h=>absurd h (Yh _),λzs a g=>?_,λzs r tu a v g b=>?_,λzs r a v g=>?_⟩
 . obtain⟨v,x,p,e,_,l,_⟩:=B
   rw[XW h];exact⟨v,x,p,e,l⟩
 . show _<=j*(((j-1)*(K-1)+1)+1)
   rw[TR j];exact Yf _ (by have:=Bp ok A a g;lia)
 . have lr:=v.len
   have lt:(r.take tu).length=tu:=by rw[yX];lia
   refine⟨_,Ek A v b,λY bd=>?_⟩;have e:=Kq (rest:=r.take tu) hh hm hR w6 (J zs a (by have:=O (Bp ok A a g);lia)) rfl (by rw[lt];exact b) bd g;rw[lN,eQ (λn h=>(a n h).len),lt,show(zs.length*j+tu) % j=tu by rw[Nat.add_comm,Nat.add_mul_mod_self_right,afK b],<- I]at e;have:=jv (ah:=ah) (k+1) (Im (o:=o) (k+1) e);rw[af4];exact this
 . have dU:=O (Bp ok A a g)
   have E:∀n∈zs ++ [r],VN j o c n:=λn h=>by
     rcases mF.mp h with h|h
     . exact a n h
     . simp at h;subst h;exact v
   have Z:=J (zs ++ [r]) E (by simp;lia);have f:∀tu,tu+1<zs.length->(zs ++ [r]).getD tu []=zs.getD tu []/\(zs ++ [r]).getD (tu+1) []=zs.getD (tu+1) []:=λtu b=>by constructor<;>(rw[nK,nK,m5 (by lia)])
   have cn:∀k,k+1<=zs.length->vz (zs ++ [r]) k=vz zs k:=λk=>by
     induction k with
     |zero=>exact λ_=>rfl
     |succ k ih =>
       intro hk;funext mo;simp only[vz];rw[ih (by lia),(f k (by lia)).1,(f k (by lia)).2]
   have Q:∀tu,tu+1<zs.length->Goes (.int K) (zs ++ [r]) tu:=λtu b=>by have:=g tu b;unfold Goes at this ⊢;rw[cn (tu+1) (by lia),(f tu b).1,(f tu b).2];exact this
   have u:(zs ++ [r]).length=zs.length+1:=by simp
   by_cases R:zs = []
   . subst R
     exact .inl λtu b=>by simp at b
   have r1:1<=zs.length:=adH.mpr R;generalize q:bK ((zs ++ [r]).getD (zs.length-1) []) ((zs ++ [r]).getD (zs.length-1+1) [])=P;have fin:∀en,rj (.int K) (zs ++ [r]) (zs.length-1) en->(∀mo,en=some mo->mo∈P)->GN K (zs ++ [r])\/baM (tab (k+11) 19) (.handed j i K) o ah ((zs.length+1)*j) ((zs ++ [r]).map id).flatten:=λen he s=>by
     right;have last:(zs ++ [r]).getD ((zs ++ [r]).length-1) []=r:=by rw[u];simp[nK]
     obtain⟨w,wl,we⟩:∃w:List D,w.length=j/\ik r en = .tup w:=by
       cases en with
       |none=>exact⟨r.map A5,by rw[oY];exact v.len,rfl⟩
       |some mo =>
         have jl:mo<j:=by have h:=s mo rfl;rw[<- q]at h;have:=w5 h;rw[(E _ (by rw[nK,lC (by lia)];exact p6 _)).len]at this;exact this
         have lt:mo<r.length:=by rw[v.len];exact jl
         obtain⟨U,x,p,e,l⟩:=v.all _ (p6 lt);refine⟨p,l,?_⟩;have e':ik r (some mo)=TU r[mo]:=by simp[ik,nK,lt]
         rw[e',e];rfl
     refine .told ⟨w,wl,λY bd=>?_⟩;have e:=Kr (rest:=[]) (en:=en) hh hm hR w6 Z rfl bd (by lia) (λtu b=>Q tu (by lia)) (by rw[u];exact he) (λ_ n hc x z=>by obtain⟨U,y,p,e,_⟩:=(E n hc).all x z;exact⟨U,y,_,e⟩)
     rw[<- I,tA,last,we]at e;rw[af4];exact jv (k+1) (Im (k+1) e)
   by_cases H:P = []
   . exact fin none (q.trans H) λmo h=>nomatch h
   . by_cases h:d6 (vz (zs ++ [r]) (zs.length-1+1)) (.int K) P = []
     . refine .inl λtu b=>?_
       rw[u]at b;by_cases iy:tu+1<zs.length
       . exact Q tu iy
       . obtain rfl:tu=zs.length-1:=by lia
         exact⟨by rw[q];exact H,by rw[q];exact h⟩
     . obtain⟨mo,s,jW⟩:=zI h
       refine fin (some mo) ⟨by rw[q];exact H,by rw[q];exact s,by rw[q];exact jW⟩ λtu b=>?_;cases b;exact(ro.mp s).1
def RS (k:Nat):PD (tab (k+11) 19):=λM o b c ok a g=>by
 cases M with
 |handed n tu mo=>exact⟨_,(Gg k ok a g).Pt⟩|signs n h sh mo=>exact⟨_,(KI k ok a g).Pt⟩|shared n p h sh mo=>exact⟨_,(Gf k ok a).Pt⟩
def zP (k:Nat):dw (tab (k+1) 22):=Kk
def Iq (k:Nat):ig (tab (k+2) 23):=Kl (zP k)
def PQ (k:Nat):lG (tab (k+3) 24):=Ko (zP (k+1)) (Iq k)
def ZH (k:Nat):sG (tab (k+3) 25):=F_ (zP (k+1)) (Iq k)
def PR (k:Nat):oy (tab (k+1) 26):=RH
def Uq (k:Nat):lL (tab (k+4) 27):=Eb (PQ k)
def ZI (k:Nat):xJ (tab (k+6) 29):=KG (take:=tab (k+4) 22) (value:=tab (k+4) 24) (places:=tab (k+5) 26) (state:=tab (k+4) 27) (zP (k+3)) (PQ (k+1)) (Uq k) (PR (k+4))
def ZJ (k:Nat):xI (tab (k+6) 32):=Wh (take:=tab (k+4) 22) (value:=tab (k+4) 24) (places:=tab (k+4) 26) (state:=tab (k+4) 27) (zP (k+3)) (PQ (k+1)) (Uq k) (PR (k+3))
def ZK (k:Nat):sx (tab (k+3) 30):=FQ (Iq k)
def Gh (ns:List Int)(A:ns.length<=63):∃n,tab 60 33 [.lst (ns.map .int)] []=some (.bl true,n):=by
 have p:k0 (tab 60 33 [.lst (ns.map .int)] []) λq=>q.1 = .bl true:=by
  show k0 (aq false 14 1 (Ga (tab 59)) _ _) _;refine jO rfl ?_;have r:Ga (tab 59)=ax (fK (iA (aa (aj aJ fc (ao ((jL kR ic)) (aa (fC (.int 6)) (aa (ao bw (aa a6 ag)) ag)))) ag)) (gN 1) (Pz (tab 59 21) (tab 59 22) (tab 59 25) (tab 59 26) (tab 59 30) (tab 59 29) (tab 59 23) (tab 59 31) (tab 59 32) (tab 59 19))) (aH ir):=rfl;rw[r];have c:∀a b:Int,∀g:G,jL kR ic [.int a,.int b] g=some (.int (if b<a then b else a),g):=λa b g=>rfl;simp[c];refine mG ?_;simp[c];have E:(if(ns.length:Int)<6 then(ns.length:Int)else 6)<=6/\0<=(if(ns.length:Int)<6 then(ns.length:Int)else 6):=by split<;>lia
  refine⟨by lia,by lia,rT (λj B g=>(∃h o2 o3 o4 o5 o6 o7 o8 o9 o10 o11 o12 o13,B = [some (.lst (ns.map .int)),h,o2,o3,o4,o5,o6,o7,o8,o9,o10,o11,o12,o13])/\Bd g) _ 0 _ _ ⟨⟨_,_,_,_,_,_,_,_,_,_,_,_,_,rfl⟩,λi H e=>by simp at e⟩ ?_ ?_⟩
  . rintro j d B g v ⟨⟨h,o2,o3,o4,o5,o6,o7,o8,o9,o10,o11,o12,o13,rfl⟩,o⟩
    obtain⟨I,rfl⟩:=iU v;obtain⟨⟨f,C,J⟩,e,k,⟨O,y,p4,p5,Q,R,U,z,x,s,TQ,u,l⟩,bd⟩:=RP (ns:=ns) (j:=j) (hand:=tab 59 21) Km (zP 58) (ZH 56) (PR 58) (ZK 56) (ZI 53) (Iq 57) (λM ok g=>KD ok g) (ZJ 53) (RS 48) (by lia) o (o2:=o2) (o3:=o3) (o4:=o4) (o5:=o5) (o6:=o6) (o7:=o7) (o8:=o8) (o9:=o9) (o10:=o10) (o11:=o11) (o12:=o12) (o13:=o13);dsimp only at k l bd;subst k l;exact⟨_,rfl,_,e,⟨_,_,_,_,_,_,_,_,_,_,_,_,_,rfl⟩,bd⟩
  . rintro B g _
    simp[bR]
 obtain⟨⟨d,n⟩,e,rfl⟩:=p;exact⟨n,e⟩
end
section
open PyProof.Rows
variable {M Z Y J X:Array (Option Value)}{b R c i h:Addr}
def walk {l:XC}{q:(Str->Option Value)->Heap->Prop}{b:World->Heap->Prop}{d:DefRec}{K:Params->mW}(e:l.most=some 63)(o:d.params.defaults = [])(j:d.name = "law")(r:∀(w:World) (h:Heap),b w h->(K w.params).In h /\ ∀P∈T,h.get? P=some (Pd #[]))(F:∀(w:World) (mg:Str->Option Value) (h:Heap),(K w.params).In h->h.Ns qr mg->At (K w.params) T w mg mo):
  agv k U q b l.row.toRowW d [] (λf c=>agk f c):=
 Ke (i:=33) (R:=60) (x:="_law_script") e ⟨rfl,by decide,by decide,rfl⟩ o j r F rfl rfl rfl rfl good (by decide +kernel) Gh
def xV {K:mW}{mg:Str->Option Value}{aV:_}{T:_}{e:Addr}{g:_}{k:_}{S:_}{Q:_}{A:_}{B:_}{n:_}{p:_}{x:_}{l:_}{y:_}{U:_}{ah:_}{o:_}{s:_}{z:_}{I:_}{w:_}{aD:_}{C:_}{E:_}{q:_}{v:_}{H:_}{j:_}{ab:_}{N:Array (Option Value)}{O:_}{r:_}(a0:HX K qr "NUMBERS" = some (some (.ref R)))(a4:K.lookup R=some ⟨.type "dict",none,.dict #[⟨W3 u.params "once",.str "once" T,.ref e⟩,⟨W3 u.params "twice",.str "twice" S,.ref b⟩,⟨W3 u.params "handed",.str "handed" n,.ref f⟩,⟨W3 u.params "signs",.str "signs" U,.ref c⟩,⟨W3 u.params "shared",.str "shared" w,.ref i⟩,⟨W3 u.params "tables",.str "tables" j,.ref h⟩] aV,#[]⟩)(aT:K.lookup e=some ⟨.type "tuple",none,.seq #[(.str "hands" k)] g,Z⟩)(W:K.lookup b=some ⟨.type "tuple",none,.seq #[(.str "hands" A),(.str "turn" B)] Q,M⟩)(L:K.lookup f=some ⟨.type "tuple",none,.seq #[(.str "hands" x),(.str "turn" l),(.str "moves" y)] p,Y⟩)(ar:K.lookup c=some ⟨.type "tuple",none,.seq #[(.str "hands" o),(.str "toggles" s),(.str "shakes" z),(.str "moves" I)] ah,X⟩)(ay:K.lookup i=some ⟨.type "tuple",none,.seq #[(.str "hands" C),(.str "places" E),(.str "toggles" q),(.str "shakes" v),(.str "moves" H)] aD,J⟩)(aS:K.lookup h=some ⟨.type "tuple",none,.seq #[(.str "hands" O),(.str "boxes" r)] ab,N⟩)(a3:(R == NV)=false):∃a,HX K qr "NUMBERS" = some (some (.ref a)) /\ ∀lx,i4 u ⟨K,u,mg,lx⟩ a kU:=⟨_,a0,λlx=>⟨⟨_,_,_,a4,⟨rfl,rfl,rfl⟩,rfl,⟨_,_,_,rfl,⟨_,rfl⟩,rfl,⟨.ref e,rfl,.inr ⟨_,_,_,_,_,rfl,by rfl,rfl,aT,rfl,rfl,rfl,(show 1<=lX by decide),.cons ⟨_,rfl⟩ (.nil)⟩⟩,⟨_,_,_,rfl,⟨_,rfl⟩,rfl,⟨.ref b,rfl,.inr ⟨_,_,_,_,_,rfl,by rfl,rfl,W,rfl,rfl,rfl,(show 2<=lX by decide),.cons ⟨_,rfl⟩ (.cons ⟨_,rfl⟩ (.nil))⟩⟩,⟨_,_,_,rfl,⟨_,rfl⟩,rfl,⟨.ref f,rfl,.inr ⟨_,_,_,_,_,rfl,by rfl,rfl,L,rfl,rfl,rfl,(show 3<=lX by decide),.cons ⟨_,rfl⟩ (.cons ⟨_,rfl⟩ (.cons ⟨_,rfl⟩ (.nil)))⟩⟩,⟨_,_,_,rfl,⟨_,rfl⟩,rfl,⟨.ref c,rfl,.inr ⟨_,_,_,_,_,rfl,by rfl,rfl,ar,rfl,rfl,rfl,(show 4<=lX by decide),.cons ⟨_,rfl⟩ (.cons ⟨_,rfl⟩ (.cons ⟨_,rfl⟩ (.cons ⟨_,rfl⟩ (.nil))))⟩⟩,⟨_,_,_,rfl,⟨_,rfl⟩,rfl,⟨.ref i,rfl,.inr ⟨_,_,_,_,_,rfl,by rfl,rfl,ay,rfl,rfl,rfl,(show 5<=lX by decide),.cons ⟨_,rfl⟩ (.cons ⟨_,rfl⟩ (.cons ⟨_,rfl⟩ (.cons ⟨_,rfl⟩ (.cons ⟨_,rfl⟩ (.nil)))))⟩⟩,⟨_,_,_,rfl,⟨_,rfl⟩,rfl,⟨.ref h,rfl,.inr ⟨_,_,_,_,_,rfl,by rfl,rfl,aS,rfl,rfl,rfl,(show 2<=lX by decide),.cons ⟨_,rfl⟩ (.cons ⟨_,rfl⟩ (.nil))⟩⟩,rfl⟩⟩⟩⟩⟩⟩⟩,a3⟩⟩
end
open PySem.W PyProof.Rows
namespace PySem.W.Fast
theorem te14367905649853902893:1=1:=rfl
theorem tw15463738313859754584:1=1:=rfl
theorem tw13239403597323735436:1=1:=rfl
theorem tw17634289459613331880:1=1:=rfl
theorem tw17020349270435372698:1=1:=rfl
theorem tw7054293904327954673:1=1:=rfl
theorem tw2288860518944179919:1=1:=rfl
theorem tw9602362245441112279:1=1:=rfl
theorem tw4350948305476469821:1=1:=rfl
theorem tw11301304572568455567:1=1:=rfl
theorem tw13469589717623692441:1=1:=rfl
theorem tw14849197529404610028:1=1:=rfl
theorem tw9914283363667571112:1=1:=rfl
theorem tw6442710689459876330:1=1:=rfl
theorem tw16538212437893789004:1=1:=rfl
theorem tw10552521487289998757:1=1:=rfl
theorem tw15548966645216458590:1=1:=rfl
theorem tw7840806847637463353:1=1:=rfl
theorem tw17162433878366389187:1=1:=rfl
theorem tw8219493724657992986:1=1:=rfl
theorem tw9443411054864633997:1=1:=rfl
theorem tw16353753001257497451:1=1:=rfl
theorem tw9175042456454223590:1=1:=rfl
theorem tw532987085512382764:1=1:=rfl
theorem tw9509624524397850142:1=1:=rfl
theorem tw15583741372546394931:1=1:=rfl
theorem tw7176537442249185677:1=1:=rfl
theorem tw13606933889156058545:1=1:=rfl
theorem tw10987706870232226023:1=1:=rfl
theorem tw3588068671144421898:1=1:=rfl
theorem tw915374208281558422:1=1:=rfl
theorem tw2918283776912611386:1=1:=rfl
theorem tw12840643797585883436:1=1:=rfl
theorem tw12049507657641924011:1=1:=rfl
theorem tw9498031605661305514:1=1:=rfl
theorem tw3830579751905377481:1=1:=rfl
theorem tw17495225913784258153:1=1:=rfl
theorem tw12384815399724676920:1=1:=rfl
theorem tw8115432056962883654:1=1:=rfl
theorem tw16258207205581534335:1=1:=rfl
theorem tw18438279220510694679:1=1:=rfl
theorem tw9619211284739732887:1=1:=rfl
theorem tw14278021274177636056:1=1:=rfl
theorem tw17335185392511010142:1=1:=rfl
theorem tw8795930971728690174:1=1:=rfl
theorem tw8184474183018030262:1=1:=rfl
theorem tw4539043741383314529:1=1:=rfl
theorem tw3367711132794351681:1=1:=rfl
theorem tw18023100383254603801:1=1:=rfl
theorem tw5130621539069181834:1=1:=rfl
theorem tw7939602095271237360:1=1:=rfl
theorem tw1111591343571940075:1=1:=rfl
theorem tw17353398484970919871:1=1:=rfl
theorem tw6600054136021682493:1=1:=rfl
theorem tw7319297388976671000:1=1:=rfl
theorem tw14974828670212225201:1=1:=rfl
theorem tw1604833309468858801:1=1:=rfl
theorem tw2369611937701368793:1=1:=rfl
theorem tw267586734967445559:1=1:=rfl
theorem tw9758293841393536486:1=1:=rfl
theorem tw10653106752967665787:1=1:=rfl
theorem tw16203190691040179978:1=1:=rfl
theorem tw17010970196753766117:1=1:=rfl
theorem tw15219900949591930808:1=1:=rfl
theorem tw15580635436709384884:1=1:=rfl
theorem tw9228529888086938395:1=1:=rfl
theorem tw15806914200793159476:1=1:=rfl
theorem tw584067284940654738:1=1:=rfl
theorem tw8032602399356425449:1=1:=rfl
theorem tw6245299696743434831:1=1:=rfl
theorem tw15217511764177044121:1=1:=rfl
theorem tw10062997153699698281:1=1:=rfl
theorem tw10097899324059869622:1=1:=rfl
theorem tw17160449701788229329:1=1:=rfl
theorem tw12427142933897684268:1=1:=rfl
theorem tw11370171513570134322:1=1:=rfl
theorem tw1680789961162070118:1=1:=rfl
theorem tw14886988864297592493:1=1:=rfl
theorem tw8505032677181441562:1=1:=rfl
theorem tw13611908042643450360:1=1:=rfl
theorem tw16766106056612085493:1=1:=rfl
theorem tw17213490528795060038:1=1:=rfl
theorem tw8865048425949445403:1=1:=rfl
theorem tw2954953732146795626:1=1:=rfl
theorem tw14962636509849934825:1=1:=rfl
theorem tw9949001232044024992:1=1:=rfl
theorem tw15880014394318202616:1=1:=rfl
theorem tw3939879258190347121:1=1:=rfl
theorem tw12577943586295333937:1=1:=rfl
theorem tw891364736921307157:1=1:=rfl
theorem tw7991130928106395431:1=1:=rfl
theorem tw13483851106808390073:1=1:=rfl
theorem tw4467177117627184421:1=1:=rfl
theorem tw4426008776116915845:1=1:=rfl
theorem tw10012472335171941888:1=1:=rfl
theorem tw3483022130230526125:1=1:=rfl
theorem tw12567662493905000134:1=1:=rfl
theorem tw244500827792798335:1=1:=rfl
theorem tw17279263783368388876:1=1:=rfl
theorem tw9895259332242843687:1=1:=rfl
theorem tw1293552430990656390:1=1:=rfl
theorem tw17035610156923290351:1=1:=rfl
theorem tw350561511740556229:1=1:=rfl
theorem tw12826851635797916316:1=1:=rfl
theorem tw3006712637920069409:1=1:=rfl
theorem tw2865664918487148879:1=1:=rfl
theorem tw13529006060556368129:1=1:=rfl
theorem tw8908822497865720471:1=1:=rfl
theorem tw13900830815609700769:1=1:=rfl
theorem tw819671272167657450:1=1:=rfl
theorem tw7191124838428166040:1=1:=rfl
theorem tw11317469006649774232:1=1:=rfl
theorem tw8091356655712016105:1=1:=rfl
theorem tw8955139151434349043:1=1:=rfl
theorem tw17053629914954577637:1=1:=rfl
theorem tw17279514171524248856:1=1:=rfl
theorem tw14370849619559330125:1=1:=rfl
theorem tw2538219823671806979:1=1:=rfl
theorem tw18166468996060078162:1=1:=rfl
theorem tw11103588495867147455:1=1:=rfl
theorem tw7766846528449040715:1=1:=rfl
theorem tw7326541984672877191:1=1:=rfl
theorem tw12272786375412684480:1=1:=rfl
theorem tw12452138314780117930:1=1:=rfl
theorem tw3650074128194336016:1=1:=rfl
theorem tw15746432218167922694:1=1:=rfl
theorem tw15264839611040955315:1=1:=rfl
theorem tw14651068875566061169:1=1:=rfl
theorem tw10858869336713772952:1=1:=rfl
theorem tw2245169329713271720:1=1:=rfl
theorem tw12305632232383201950:1=1:=rfl
theorem tw5185471748804248157:1=1:=rfl
theorem tw11365119550769852425:1=1:=rfl
theorem tw8068791610913761303:1=1:=rfl
theorem tw931231892379156779:1=1:=rfl
theorem tw9496568547222476579:1=1:=rfl
theorem tw7059741562659286384:1=1:=rfl
theorem tw4256265471246907148:1=1:=rfl
theorem tw5078455495445494840:1=1:=rfl
theorem tw9630841693990063047:1=1:=rfl
theorem tw8861443979319829857:1=1:=rfl
theorem tw1218937187922636918:1=1:=rfl
theorem tw5835910156999347318:1=1:=rfl
theorem tw10704832273020010850:1=1:=rfl
theorem tw13026757940906609144:1=1:=rfl
theorem tw15138423056232079206:1=1:=rfl
theorem tw14252553593571251067:1=1:=rfl
theorem tw10289841630692304053:1=1:=rfl
theorem tw6418256734403399785:1=1:=rfl
theorem tw16555444248392218412:1=1:=rfl
theorem tw430307310836291890:1=1:=rfl
theorem tw6113661839888561310:1=1:=rfl
theorem tw11937944888252474609:1=1:=rfl
theorem tw2646866024398558002:1=1:=rfl
theorem tw2947033743635703433:1=1:=rfl
theorem tw15343706270205553536:1=1:=rfl
theorem tw641852621488587595:1=1:=rfl
theorem tw9516301693170528583:1=1:=rfl
theorem tw6386341051820148803:1=1:=rfl
theorem tw13637355614186467691:1=1:=rfl
theorem tw13921312015751677330:1=1:=rfl
theorem tw13988179295763286801:1=1:=rfl
theorem tw2209755665019761484:1=1:=rfl
theorem tw17477099319133387487:1=1:=rfl
theorem tw10079472480550014989:1=1:=rfl
theorem tw13107605843545896008:1=1:=rfl
theorem tw8552309334084114112:1=1:=rfl
theorem tw7027161242762321994:1=1:=rfl
theorem tw8847898866288697488:1=1:=rfl
theorem tw15106475296718434589:1=1:=rfl
theorem tw12749188156183381667:1=1:=rfl
theorem tw11103600571874201762:1=1:=rfl
theorem tw17879064431391332874:1=1:=rfl
theorem tw5468825202462341806:1=1:=rfl
theorem tw8678114032671221189:1=1:=rfl
theorem tw6873190352683788449:1=1:=rfl
theorem tw14163594244220119804:1=1:=rfl
theorem tw9224909924937213560:1=1:=rfl
theorem tw3402311657619120042:1=1:=rfl
theorem tw2538433154610703092:1=1:=rfl
theorem tw5681592025305422764:1=1:=rfl
theorem tw10199557885560437173:1=1:=rfl
theorem tw14308710164281322886:1=1:=rfl
theorem tw10048419670108766905:1=1:=rfl
theorem tw6756568673359794209:1=1:=rfl
theorem tw2046543206368811381:1=1:=rfl
theorem tw16176473907682404094:1=1:=rfl
theorem tw4253400195500093996:1=1:=rfl
theorem tw12035000127683471456:1=1:=rfl
theorem tw9582748332681148313:1=1:=rfl
theorem tw492032281865760769:1=1:=rfl
theorem tw13724069914361778421:1=1:=rfl
theorem tw17154407973545728201:1=1:=rfl
theorem tw9337703047612611670:1=1:=rfl
theorem tw11726582179557196168:1=1:=rfl
theorem tw1642602942232050221:1=1:=rfl
theorem tw14281872181998320759:1=1:=rfl
theorem tw4714164662668386285:1=1:=rfl
theorem tw727463502615162944:1=1:=rfl
theorem tw3979157893987312785:1=1:=rfl
theorem tw534286433449064609:1=1:=rfl
theorem tw11869958781003896776:1=1:=rfl
theorem tw13985613436172165736:1=1:=rfl
theorem tw17863664211112244579:1=1:=rfl
end PySem.W.Fast

set_option maxRecDepth 100000 in
set_option maxHeartbeats 0 in
theorem PySem.Challenge.cw_wholeglance_k26_whole_steps_at_most_holds : PySem.Challenge.rw_wholeglance_k26_whole_steps_at_most.Holds := by
  w_on; o_law; k_head; (case hw => w_witness2)
  k_fill
  refine walk (l := PySem.Challenge.rw_wholeglance_k26_whole_steps_at_most) rfl rfl rfl (fun w h Y => by exact ⟨PySem.W.km_in_of Y, PySem.W.km_tabs_of Y⟩) ?F
  case F =>
    intro w mg h KX G
    refine' ⟨_, _, _, (bt.cons ?_ ?_ ?_ ?_ (mY fun _ _=>rfl)
 (bt.cons ?_ ?_ ?_ ?_ (kj fun _=>rfl)
 (bt.cons ?_ ?_ ?_ ?_ (kj fun _=>rfl)
 (bt.cons ?_ ?_ ?_ ?_ (kj fun _=>rfl)
 (bt.cons ?_ ?_ ?_ ?_ (Tp fun _ _ _ _ _=>rfl)
 (bt.cons ?_ ?_ ?_ ?_ (mY fun _ _=>rfl)
 (bt.cons ?_ ?_ ?_ ?_ (kj fun _=>rfl)
 (bt.cons ?_ ?_ ?_ ?_ (kj fun _=>rfl)
 (bt.cons ?_ ?_ ?_ ?_ (mY fun _ _=>rfl)
 (bt.cons ?_ ?_ ?_ ?_ (mY fun _ _=>rfl)
 (bt.cons ?_ ?_ ?_ ?_ (N0 fun _ _ _ _=>rfl)
 (bt.maker ?_ ?_ ?_ ?_ ?_ ?_ ?_ ?_ ?_ (oa fun _ _ _=>rfl)
 (bt.maker ?_ ?_ ?_ ?_ ?_ ?_ ?_ ?_ ?_ (oa fun _ _ _=>rfl)
 (bt.cons ?_ ?_ ?_ ?_ (oa fun _ _ _=>rfl)
 (bt.cons ?_ ?_ ?_ ?_ (oa fun _ _ _=>rfl)
 (bt.cons ?_ ?_ ?_ ?_ (oa fun _ _ _=>rfl)
 (bt.maker ?_ ?_ ?_ ?_ ?_ ?_ ?_ ?_ ?_ (oa fun _ _ _=>rfl)
 (bt.maker ?_ ?_ ?_ ?_ ?_ ?_ ?_ ?_ ?_ (oa fun _ _ _=>rfl)
 (bt.cons ?_ ?_ ?_ ?_ (oa fun _ _ _=>rfl)
 (bt.cons ?_ ?_ ?_ ?_ (Tp fun _ _ _ _ _=>rfl)
 (bt.cons ?_ ?_ ?_ ?_ (oa fun _ _ _=>rfl)
 (bt.cons ?_ ?_ ?_ ?_ (mY fun _ _=>rfl)
 (bt.cons ?_ ?_ ?_ ?_ (mY fun _ _=>rfl)
 (bt.cons ?_ ?_ ?_ ?_ (mY fun _ _=>rfl)
 (bt.cons ?_ ?_ ?_ ?_ (kj fun _=>rfl)
 (bt.cons ?_ ?_ ?_ ?_ (mY fun _ _=>rfl)
 (bt.cons ?_ ?_ ?_ ?_ (kj fun _=>rfl)
 (bt.cons ?_ ?_ ?_ ?_ (mY fun _ _=>rfl)
 (bt.cons ?_ ?_ ?_ ?_ (oa fun _ _ _=>rfl)
 (bt.cons ?_ ?_ ?_ ?_ (mY fun _ _=>rfl)
 (bt.cons ?_ ?_ ?_ ?_ (mY fun _ _=>rfl)
 (bt.cons ?_ ?_ ?_ ?_ (kj fun _=>rfl)
 (bt.cons ?_ ?_ ?_ ?_ (N0 fun _ _ _ _=>rfl)
 (bt.cons ?_ ?_ ?_ ?_ (kj fun _=>rfl)
 (bt.lam (fun _ _ _ _ => (kj fun _=>rfl)) (bt.lam (fun _ _ _ _ => (kj fun _=>rfl)) (bt.lam (fun _ _ _ _ => (kj fun _=>rfl)) (bt.lam (fun _ _ _ _ => (kj fun _=>rfl)) bt.nil)))))))))))))))))))))))))))))))))))))), ?_,
 (bc ?z_len (bc ?z_min (bc ?z_int (bc ?z_tuple (bc ?z_sorted (bc ?z_dict (bc ?z_set (bc ?z_range (bc ?z_enumerate (bc ?z_zip bn)))))))))),
    Tq, (cc (xV ?qn_NUMBERS ?ql_NUMBERS ?qv_NUMBERS_0 ?qv_NUMBERS_1 ?qv_NUMBERS_2 ?qv_NUMBERS_3 ?qv_NUMBERS_4 ?qv_NUMBERS_5 ?qs_NUMBERS) Tq)⟩
    all_goals try first | k_is | rfl | kernel_rfl | k_mem
