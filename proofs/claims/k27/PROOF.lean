import PyProof.Rows.All
import Wide.All
import OpenK.AllK
import Wide.FinOn
import Lean
import PyProof.EqAt
import PyProof.EqKinds
import PyProof.TupleCall
import PySem.Challenge.RW_wholeglance_k27_whole_one_that_moves
set_option backward.eqns.nonrecursive false
noncomputable section
open PySem renaming wpAny_bind->la,Shared->lO,wpAny_pure->lr,sizeLine->mK,starEach->m2,Program->te,Around->og,mem_of_lookup->yg,wpAny_newObj_type->x3,mainGlobals->tc,wpAny_holding->vn,DictEntry->sf,wpAny_call_entry->zy,foldedSetIterable->A8,wpAny_callSpecial?_slot->Nd,compareOp->tA,wpAny_ite_split->Ba,binaryOp->th,placesWithHash->Cu,FuncData->wq,cellsFrom->v7,wpAny_Call_Name_kw->P4,Builtin->tW,assignEach->yh,wpAny_rule->yo,wpAny_field->Ci,backTo->tT,NameKind->zT,sizeLine_eq->HX,codeAny_builtin->RR,wpAny_truthy_bool->XN,swappedStores->Qh,bootBuiltins->Qk,wpAny_passesOwn->Vu,swapsWithSole->TL,Comprehension->ac3,holding->Ct,wpAny_seqItems->Vw,rawInt->zk,IsPart->Ay,wpAny_typeOf->U0,wpAny_askSetting->adi,wpAny_forIn_list->Ya,sysModules->Qm,call_meets->Q7,wpAny_dictEpoch->ZE,wpAny_sequenceKey->adw,wpAny_setState_of->adx,codeAny_mono->Wg,builtinLookup_eq_fast->adB,Arguments->T6,swapsWith->Pr,bindName->OF,assign->Dd,plainId_quiet->Zt,intKind->HV,codeAny->HP,sliceBounds->W2,wpAny_ite_false->adY,Operator->Xu,pyNext->Dv,SetTable->Rq,pickOrder->U4,wpAny_setField_rec->ad7,wpAny_bindName->aec,getItem->OI,setNext->OK,wpAny_setField->aeg,wpAny_pyIter_list->ael,slot_dict_getitem->aen,assignInOrder->aet,wpAny_standAt->aeu,behindInMarks->aev,attributeBase->aey,wpAny_isInstance->aez,seqSlot_of->aeC,wpAny_mono->ZC,wpAny_Name->ZW,wpAny_loadName_local->aeP,wpAny_execs_nil->aeQ,typeLookup_type->aeV,wpAny_loadName_cell->ae0,wpAny_setEntries_of->ae2,bindArgs->WU,Keyword->Um,callerA->Uw,firstArgMember->ae8,PassesOwn->ZF,slot_dict_contains->afo,wpAny_dictEntries->afE,builtinsNs->afJ,typeIs_int->afL,closureFor->afN,fillsNumberSlot_seq->afO,relabel->VA,dictGet->Vg,GenState->afT,pyIter->SJ,concat_meets->afW,noFill_tuple_add->afX,checkBuiltinCall->af1,beq_builtin_none->af3,letOwnedTupleGo->af_,wpAny_specialOf->agb,wpAny_updateSeq->agc,eqIsQuiet->agd,wpAny_pyNext_list_item->agf,wpAny_Call_method_late->agh,standAt->ags,wpAny_pyNext_list_end->agt,argsOk->Vv,wpAny_nextOf_list_end->agy,wpAny_notOrdered_dict->agA,wpAny_call->agC,call->agF,setsByText->agG,seqRepeat?->agH,numAt_eq->agK,seq_tuple_add->agN,wpAny_attempt->agR,wpAny_loadName_free->agT,hashInt->ahh,setItem->ahi,BindsTo->ahj,seqIndex_of->ahw,keywordEach->ahx,wpAny_of_eq->ahy,wpAny_alloc->ahz
open List renaming getElem?_eq_getElem->mA,getElem?_eq_some_iff->m5,mem_append->m3,length_append->nN,replicate->m6,getD_eq_getElem?_getD->qa,mem_map->mO,getElem?_map->nP,getElem?_append_left->ra,mem_cons_of_mem->pP,mem_cons->nv,size_toArray->ox,mem_of_getElem?->p7,length_map->n7,range->nJ,mem_cons_self->rj,getElem?_append_right->wm,append_assoc->ta,getElem?_set_self->vT,getElem_mem->u3,mem_range->ug,map_append->wi,lookup_cons->xW,take_of_length_le->Dc,mem_filter->xX,append_nil->wz,map_map->u6,map_cons->wk,length_take->yN,length_cons->yw,drop_eq_getElem_cons->N8,mem_append_right->Ib,filterMap_cons->Dw,mem_map_of_mem->HB,any_cons->yc,flatMap_cons->C7,set_getElem_self->NZ,length_filter_le->N0,flatten_cons->F1,getElem?_set_ne->IZ,mem_of_mem_take->Ng,getElem?_take_of_lt->UC,not_mem_nil->Ex,getElem?_eq_none->Pw,nodup_cons->Dx,mem_iff_getElem->Qe,getElem?_of_mem->Qt,all_eq_true->HL,filter_sublist->Pp,length_range->N2,mem_filterMap->Ql,length_zip->Ih,nodup_append->Ux,nil_append->P_,replicate_succ->VQ,elem_iff->Q2,length_eq_zero_iff->acL,getElem?_range->acM,nodup_nil->RT,filter_cons->VC,range'->Oj,set_set->Pc,of_mem_zip->W9,getElem?_eq_none_iff->ac4,drop_eq_nil_iff->ac6,length_drop->adf,mem_flatMap->adm,map_congr_left->adn,getElem?_cons_zero->ado,eq_nil_of_length_eq_zero->adu,take_append_of_le_length->adv,ext_getElem?->ady,set_append_right->adF,drop_left->adH,getElem?_zip_eq_some->ad0,drop_zero->aei,findIdx?_eq_some_iff_getElem->aer,all_cons->aex,mem_reverse->aeA,any_eq_true->aeB,nodup_range->aeD,isEmpty_iff->aeF,length_singleton->aeH,mem_iff_getElem?->aeK,mem_append_left->aeM,forIn_cons->aeX,length_pos_iff->ae3,take_left->ae9,take_succ->ae_,length->afb,mem_singleton->afk,map_singleton->afl,set_cons_zero->afm,filter_append->afs,set_comm->afu,map_take->afy,take_sublist->afB,getElem?_inj->afF,filter_congr->afH,getElem_inj->afU,range'_succ->af2,flatten_nil->af5,getElem?_replicate->af6,length_set->aga,find?_some->age,range_succ_eq_map->agj,drop_eq_nil_of_le->ago,length_pos_of_mem->agp,pairwise_lt_range->agq,singleton_append->agv,min?_eq_some_iff->agz,getElem?_zipIdx->agJ,replicate_succ'->agM,filterMap_map->ag4,map_nil->ag7,set_cons_succ->ag9,any_nil->ahc,zip_cons_cons->ahg,getElem_take->ahq,pairwise_map->ahv,mem_flatten->ahO,foldl->ahU,length_nil->ahW,find?_cons->ah1,filter_nil->ah4,forIn_nil->aik
open Bool renaming and_eq_true->l8,false_eq_true->ql,not_eq_true'->wQ,or_eq_true->wt,or_eq_false_iff->F5,false_ne_true->L3,not_eq_true->Rj,not_true->adR,or_false->aew,or_eq_true_iff->ae4,not_eq_false'->afp,true_and->afv,and_self->afx,not_eq_false->afG,not_false->agx,false_and->ah7,and_false->aim
open Option renaming bind_some->mI,map_eq_some_iff->pM,map_some->Ol,isSome_iff_exists->ad3,isSome_none->aha,getD_none->ahF,getD_some->ahJ
open PySem.Heap renaming get?_push_of_some->nz,get?_push_size->pR,lt_size->nC,get?_update_self->Nv,size_push->H9,get?_update_other->Zk,SameBut->Ma,ExtBut->agi,get?_push_ne->ahr
open Nat renaming le_refl->mn,le_trans->pe,lt_of_lt_of_le->uf,ne_of_lt->p8,zero_le->ro,add_mul->tF,lt_irrefl->B5,lt_succ_of_lt->Nb,le_of_ble_eq_true->SW,zero_add->CV,ble_eq_true_of_le->acB,le_add_right->Vx,mul_le_mul_right->ac7,mul_le_mul->Vy,le_of_lt->RI,lt_succ_self->adj,sub_self->Vt,mul_comm->XG,beq->EC,mod_eq_of_lt->adP,not_lt_zero->adZ,zero_mul->aea,add_sub_cancel->aeb,ble->N1,le_of_succ_le->aem,ne_of_gt->aeR,le_of_eq->aeU,lt_trans->afZ,le_mul_of_pos_right->af8,add_sub_cancel_left->af9,le_succ->agm,add_comm->ag6,add_zero->ahe,mod_eq_sub_mod->ahf,succ_ne_self->ahI,div_eq_of_lt->ahP,mul_add_div->ah5
open PySem.W renaming Frag->n3,keepIn->Oo,fnOf->Ie,nsIn->Nf,sortI->Qi,tabObj->Rh,OpenLaw->YP,codeHdIn->adN,sortI_perm->ad9,codeIn->aed,kla_obj->aeW,envX->aeY,callWith_K->afh,mg_of->afw,methodObj->afz,eq_sortI->af4,cellsFrom_some->agg,kla_fn->agB,WalkO->agQ,codeHd_of_K->agU,pyHash_slot->agW,CodeHd->ain
open PySem.SetTable renaming below->p6,insertAt->TZ,has->af0,turns->agw,fill->agS,fits->aiH,bits->aiI
open PyProof.Rows renaming slot_tuple_getitem->L2,callWith_type1->ZP,IntsAre->zY,assignInOrder_cons->Zx,subscriptTail_builtinR->adt,AllBare->Pd,envOfC->MW,callWith_builtin1->aeT,entry_tuple_getitem->ae1,args_tuple_getitem->afi,seqObj->Qj,assignInOrder_nil->afA,sortedHeap->agL,tupleItemsOf_->agO,subscriptTail->agP
open Array renaming getElem?_eq_getElem->HM,getElem?_eq_some_iff->ac2,getElem?_toList->adC,length_toList->adX,getElem?_eq_none->aeq,mem_of_getElem?->aeJ,getElem_mem->afC,toList_append->agX,forIn_toList->ahb
open Option.some renaming inj->Az,injEq->afD
open PySem.AutoSeq1 renaming wpAny_loadPart'->M9,sub_tuple_tuple->adk,idx_int->adO,sub_list_list->agk
open PySem.NameKind renaming free->wN,cell->y3
open PySem.Value renaming type->tO,none->zb,ref->AJ,isStrOf->aes,isInt->afa,int->afd,bool->afI,notImplemented->agI
open Ne renaming symm->qP
open PySem.Builtin.Slice renaming sliceAdjust->Sx,slicePlaces->Xb,sliceApplied->ac0,sliceFields->afK
open PySem.Builtin.Tuple renaming tupleExact->Uv,tupleItemsOf->ac1,tupleHashOf->afM,tupleTooMany->agl
open PySem.Builtin.SmallTypes renaming nextOf->Vj,ownedTupleHandOut->ad8,ownedTupleIsFree->aej
open PySem.Heap.SameBut renaming update->Qs
open Int renaming toNat_natCast->L7,toNat_of_nonneg->UI,emod_lt_of_pos->ad_,toNat->VL,emod_nonneg->aeZ,natCast_nonneg->afn,natCast_ediv->ahQ,natCast_mul->ah0
open Function renaming comp_def->L1
open Classical renaming choose_spec->UJ,byContradiction->ac5,choose->aeE
open False renaming elim->zi
open PySem.Str renaming ofString->F6
open PySem.Around renaming under_plainId->VW,frames_deeper->agD
open PySem.Obj renaming mapSeq->Du,data_mapFields->ag_,mapDictKeys->ah2
open ForInStep renaming yield->Wd
open PySem.Builtin.List renaming listTooLong->adh,listFitsIndex->adT,listExtendWith->afj,listSameRef->afY
open PySem.SetTable.below renaming go->adz
open PySem.PyData renaming keyHash->Z_
open PySem.F renaming args_tuple_add_2->ad4,entry_tuple_add->aek,slot_tuple_add->aeo,slot_dict_get->aeL,entry_dict_get->agn
open PySem.Calls renaming callWith_builtin->aep,spliced_cons->afg,Name_function_global->aft,evalArgs_plain->agE,Constant_str->ag1,spliced_nil->ahm
open PySem.Shared renaming heap->afc,TypeIs->aiW
open PySem.Data renaming cell->aff,dict->aiu
open PySem.ScopeKind renaming function->afq
open Sum renaming inl->VJ,inr->VI
open PySem.Builtin.Dict renaming updateFrom->af7
open Prod.mk renaming inj->agr
open Std.Legacy.Range renaming forIn_eq_forIn_range'->agV,size->akv
open PySem.SeqAt.EqAt renaming int_str->agY,str_int->agZ
open PySem.Flow renaming next->ag2
open PySem.Heap.IsSliceOf renaming new->ag5
open PySem.pickOrder renaming go->ag8
open List.Pairwise renaming nil->aho
open PySem.Setting renaming params->aid
open List.Perm renaming swap->aih,refl->aij
open PySem.Builtin.Frozenset renaming updateFrom->aiq,newClass->aiK,addrOf->aje,sizeOf->ajf,slot0->ajC
open PyProof.Rows.IntsAre renaming int_at->aix
set_option bootstrap.genMatcherCode false
set_option bootstrap.genMatcherCode false
set_option genInjectivity false
set_option genSizeOf false
set_option Elab.async false
set_option linter.all false
set_option maxRecDepth 100000
open PySem PySem.Spec
variable {i o j h:Nat}{b:List (Addr×Obj)}{e K:Expr}{E Q:Value->lO->Prop}{a:Pos}{B:List Expr}{f:Addr}{s:lO}{x:Str}{q:te}{v:World}{z:Heap}{I:List (Option Nat)}{J:List Int}{M:Int}{O:Scope}{T:og}{U:List Addr}{Y:List Value}{Z:List Str}
section
open PyProof.Rows
variable {u:Value}{X:Value->Value->Sem Value}{R:List Stmt}{J:Heap}{I:List Addr}{H pos:Pos}{C:n3}{A:Str->Option Value}{y:Unit->lO->Prop}{c:Obj}{w:wq}{r:Model}{n:String}{p:Array Value}{g:Int->Int->Int}{m:Addr}{j:lO}{h:CmpOp}{d:Stmt}{op:Xu}{a8:List (Addr×Obj)}
abbrev Key:=Sum Int Str
noncomputable def vi:Key->Value->Bool
 |.inl k,v=>afa k v|.inr x,v=>aes x v
noncomputable def Wl (w:World):Key->Int
 |.inl k=>ahh k|.inr x=>hashStr w x
def dH:∀{k:Key} {v:Value},vi k v=true->(∃i t,k=VJ i/\v=afd i t)\/(∃x t,k=VI x/\v=Value.str x t)
 |.inl i,v,h=>by obtain⟨t,e⟩:=Value.isInt_shape (k:=i) (v:=v) h;exact .inl ⟨i,t,rfl,e⟩
 |.inr x,v,h=>by obtain⟨t,e⟩:=Value.isStrOf_shape (x:=x) (v:=v) h;exact .inr ⟨x,t,rfl,e⟩
def Cn (x:Str)(t:Tok):vi (.inr x) (.str x t)=true:=by simp[vi,aes]
def LY (a b:Int):decide ((VJ a:Key)=VJ b)=(a == b):=by
 by_cases e:a=b
 . subst e;simp
 . have h:¬(VJ a:Key)=VJ b:=λq=>e (Sum.inl.inj q)
   rw[decide_eq_false h];exact(beq_eq_false_iff_ne.mpr e).symm
def LZ (a b:Str):decide ((VI a:Key)=VI b)=decide (a=b):=by
 by_cases e:a=b
 . subst e;simp
 . have h:¬(VI a:Key)=VI b:=λq=>e (Sum.inr.inj q)
   rw[decide_eq_false h,decide_eq_false e]
def L0 (a:Int)(b:Str):decide ((VJ a:Key)=VI b)=false:=decide_eq_false (λq=>nomatch q)
def L4 (a:Str)(b:Int):decide ((VI a:Key)=VJ b)=false:=decide_eq_false (λq=>nomatch q)
noncomputable def eX (prog:te)(w:World):PySem.KeyKind prog w Key where
 is:=vi
 hash:=Wl w
 inj:=λv a b l f=>by
  rcases dH l with⟨i,t,rfl,rfl⟩|⟨x,t,rfl,rfl⟩
  . rcases dH f with⟨j,u,rfl,e⟩|⟨y,u,rfl,e⟩
    . injection e with e1 _;rw[e1]
    . exact nomatch e
  . rcases dH f with⟨j,u,rfl,e⟩|⟨y,u,rfl,e⟩
    . exact nomatch e
    . injection e with e1 _;rw[e1]
 byValue:=λk v h=>by rcases dH h with⟨i,t,rfl,rfl⟩|⟨x,t,rfl,rfl⟩<;>rfl
 pyHash:=λc h=>by
  rcases dH c with⟨i,t,rfl,rfl⟩|⟨x,t,rfl,rfl⟩
  . exact wpAny_pyHash_int h
  . exact wpAny_pyHash_str h
 eqBool:=λhu c h=>by
  rcases dH hu with⟨i,t,rfl,rfl⟩|⟨x,t,rfl,rfl⟩
  . rcases dH c with⟨j,u,rfl,rfl⟩|⟨y,u,rfl,rfl⟩
    . rw[LY]at h;exact wpAny_eqBool_int h
    . rw[L0]at h;exact agY i t y u _ _ _ _ h
  . rcases dH c with⟨j,u,rfl,rfl⟩|⟨y,u,rfl,rfl⟩
    . rw[L4]at h;exact agZ x t j u _ _ _ _ h
    . rw[LZ]at h;exact wpAny_eqBool_str h
 «strs»:=λk x t v h=>by
  rcases dH h with⟨i,u,rfl,e⟩|⟨y,u,rfl,e⟩
  . exact nomatch e
  . injection e with e1 _
    subst e1;cases v<;>rfl
def pL (prog:te)(w:World)(x:Str)(t:Tok):(eX prog w).is (.inr x) (.str x t)=true:=Cn x t
set_option genInjectivity true in
inductive V where
 |ay|bl (b:Bool)|int (i:Int)|str (x:Str)|Co (b:Array UInt8)|ij (b:UInt64)|ref (a:Addr)|ty (n:String)
 deriving DecidableEq
noncomputable def lX:V->Value->Prop
 |.ay,u=>u=zb|.bl b,u=>u=afI b|.int i,u=>∃t,u=afd i t|.str x,u=>∃t,u=Value.str x t|.Co b,u=>∃t,u=Value.bytes b t|.ij b,u=>∃t,u=Value.float b t|.ref a,u=>u=AJ a|.ty n,u=>u=tO n
noncomputable abbrev Vals:List V->List Value->Prop:=Paired lX
theorem Vals.length {c:List V}(r:Vals c Y):c.length=Y.length:=Paired.length r
theorem Vals.get:∀{c:List V} {h:List Value} {i:Nat} {x:V},Vals c h->c[i]? = some x->∃u,h[i]? = some u/\lX x u
 |_,_,_,_,.nil,e=>by simp at e|_,_,0,_,.cons r _,e=>by simp at e;subst e;exact⟨_,rfl,r⟩|_,_,i+1,x,.cons _ t,e=>by obtain⟨u,a,b⟩:=Vals.get (i:=i) (x:=x) t (by simpa using e);exact⟨u,by simpa using a,b⟩
theorem Vals.set {x:V}{u:Value}(r:lX x u):∀{c:List V} {h:List Value} (i:Nat),Vals c h->Vals (c.set i x) (h.set i u)
 |_,_,_,.nil=>.nil|_,_,0,.cons _ t=>.cons r t|_,_,i+1,.cons q t=>.cons q (Vals.set r i t)
def Vals.append {c i:List V}{a:List Value}(h:Vals c Y)(s:Vals i a):Vals (c++i) (Y++a):=by
 induction h with
 |nil=>exact s|cons r _ n=>exact .cons r n
theorem Vals.take:∀{c:List V} {h:List Value} (n:Nat),Vals c h->Vals (c.take n) (h.take n)
 |_,_,0,_=>.nil|_,_,_+1,.nil=>.nil|_,_,n+1,.cons r t=>.cons r (Vals.take n t)
theorem Vals.drop:∀{c:List V} {h:List Value} (n:Nat),Vals c h->Vals (c.drop n) (h.drop n)
 |_,_,0,r=>r|_,_,_+1,.nil=>.nil|_,_,n+1,.cons _ t=>Vals.drop n t
noncomputable def L5:Option V->Option Value->Prop
 |some v,some u=>lX v u|none,none=>True|_,_=>False
noncomputable def KV {a:Type}:List (a×V)->List (a×Value)->Prop:=Paired λ(p:a×V) (q:a×Value)=>p.1=q.1/\lX p.2 q.2
noncomputable def kV:Key->V
 |.inl i=>.int i|.inr x=>.str x
def fI (h:Heap)(a:Addr)(c:Array Value):Prop:=∃o,h.get? a=some o/\o.cls = .type "tuple" /\ (∃n,o.data = .seq c n)/\o.dict=none
def fI.t (h:fI z f p):IsTup z f p:=by obtain⟨o,b,e,c,_⟩:=h;exact⟨o,b,e,c⟩
def fI.new (h:Heap)(c:Array Value):fI (h.push { cls:=.type "tuple",data:=.seq c }) h.objs.size c:=⟨_,pR _ rfl,rfl,⟨_,rfl⟩,rfl⟩
inductive HO where
 |lst (xs:List V)
 |tup (xs:List V)
 |dK (eE:List (Key×V))|dT (eE:List (List Key×V))
 |set (S:Int->Bool) (n:Nat)
 |ins (C dx:Addr) (fs:List (Str×V))
 |own (x:Addr)
 |xd (fs:List (Str×V))
 |met (f x:Addr)
 |fU (lo hi:Int)
 |nA (o:Obj) (u:HO)
 |cI (p:Pos) (q:Str)
 |iH (q:Str)
 |ext (φ:Heap->Prop)
abbrev Hp:=Addr->Option HO
noncomputable def upd (H:Hp)(a:Addr)(o:HO):Hp:=λb=>if b=a then some o else H b
def aT {H:Hp}{o:HO}:upd H f o f=some o:=by unfold upd;rw[if_pos rfl]
def aG {H:Hp}{o:HO}(h:m≠f):upd H f o m=H m:=by unfold upd;rw[if_neg h]
def qI {H:Hp}{o u:HO}(h:H f=some o)(c:H m=some u)(d:o≠u):f≠m:=by intro e;subst e;rw[h]at c;exact d (Az c)
def aN {H:Hp}{o:HO}(h:H f=some o)(c:H m=none):f≠m:=by intro e;subst e;rw[h]at c;cases c
section
variable (P:te)(w:World)
noncomputable def eC (H:Hp)(h:Heap)(a:Addr):HO->Prop
 |.lst i=>i.length<=mK /\ ∃(y:List Value) (n:Nat),Vals i y/\h.get? a=some { cls:=.type "list",data:=.seq y.toArray n }|.tup i=>i.length<=mK /\ ∃y:List Value,Vals i y/\fI h a y.toArray|.dK B=>B.length<=mK/\(a == Qm)=false /\ ∃J,KV B J/\h.DictOf (eX P w) a J
 |.dT B=>B.length<=mK/\(a == Qm)=false /\ ∃i:List (List Key×Addr×Value),
  Paired (λ(p:List Key×V) (q:List Key×Addr×Value)=>p.1=q.1/\H q.2.1=some (.tup (p.1.map kV))/\lX p.2 q.2.2) B i /\
  ∃o O Q,h.get? a=some o/\o.ExactDict/\o.data = .dict O Q/\O.toList=i.map (entryOfKey (tupleKind (eX P w)))/\(i.map (·.1)).Nodup
 |.set S n=>h.SetOf (HV P w) a S n
 |.ins C E fs=>H E=some (.own a)/\fs.length<=1000/\E≠a/\h.get? a=some (PySem.W.instObj C E) /\
  ∃r,h.Ns1 E r/\(∀f,L5 (fs.lookup f) (r f))/\PySem.Within r (fs.map (·.1))
 |.own _=>∃o,h.get? a=some o|.xd fs=>∃r,h.Ns1 a r /\ ∀f,L5 (fs.lookup f) (r f)|.fU R hi=>∃t u v,h.get? a=some { cls:=.type "range",data:=.fields #[.int R t,.int hi u,.int 1 v] }|.nA o u=>h.get? a=some o/\eC H h a u|.cI p q=>∃ps:Array Value,h.get? a=some (Rh ps)/\TriplesOk ps.toList/\(codeAmong p ps.toList=none \/ ∃c,codeAmong p ps.toList=some (.ref c)/\H c=some (.iH q))|.iH q=>h.CodeRec (.ref a) q|.met f x=>h.get? a=some (afz (.ref f) (.ref x))|.ext I=>I h/\(∃o,h.get? a=some o) /\ ∀h1 h2:Heap,I h1->(∀o,h1.get? a=some o->h2.get? a=some o)->I h2
def eF (H:Hp)(h:Heap):Prop:=∀a o,H a=some o->eC P w H h a o
end
section
variable {H:Hp}{o:HO}
theorem eC.lt (x:eC q v H z f o):f<z.objs.size:=by
 cases o with
 |lst c=>obtain⟨_,_,_,_,e⟩:=x;exact nC e
 |tup c=>obtain⟨_,_,_,p⟩:=x;exact p.t.lt
 |dK h=>obtain⟨_,_,_,_,o,_,_,e,_⟩:=x;exact nC e
 |dT h=>obtain⟨_,_,_,_,o,_,_,e,_⟩:=x;exact nC e
 |set S n=>obtain⟨o,_,_,_,e,_⟩:=x;exact nC e
 |ins C i fs=>obtain⟨_,_,_,e,_⟩:=x;exact nC e
 |own y=>obtain⟨_,e⟩:=x;exact nC e
 |xd fs=>obtain⟨_,⟨_,_,_,e,_⟩,_⟩:=x;exact nC e
 |fU r hi=>obtain⟨_,_,_,e⟩:=x;exact nC e
 |nA B u=>obtain⟨e,_⟩:=x;exact nC e
 |cI p w=>obtain⟨_,e,_⟩:=x;exact nC e
 |iH w=>obtain⟨_,_,_,_,b,e,_⟩:=x;cases b;exact nC e
 |met P y=>exact nC (show z.get? f=some _ from x)|ext E=>obtain⟨_,⟨_,e⟩,_⟩:=x;exact nC e
end
theorem Paired.L6 {e c:Type}{F G:e->c->Prop}:∀{l₁:List e} {l₂:List c},Paired F l₁ l₂->(∀a b,F a b->G a b)->Paired G l₁ l₂
 |_,_,.nil,_=>.nil|_,_,.cons r t,f=>.cons (f _ _ r) (Paired.L6 t f)
def eC.dA {H:Hp}{Q:Hp}{o:HO}(x:eC q v H z f o)(k:∀b u,(b=f\/H b=some (.own f))->z.get? b=some u->J.get? b=some u)(E:∀b,H b=some (.own f)->Q b=some (.own f))(B:∀b O,H b=some (.tup O)->Q b=some (.tup O))(A:∀b I,H b=some (.iH I)->Q b=some (.iH I)):eC q v Q J f o:=by
 induction o with
 |lst O=>obtain⟨P,R,n,r,e⟩:=x;exact⟨P,R,n,r,k _ _ (.inl rfl) e⟩
 |tup O=>obtain⟨P,R,r,i,e,c⟩:=x;exact⟨P,R,r,i,k _ _ (.inl rfl) e,c⟩
 |dK eE=>obtain⟨P,y,U,r,i,j,l,e,c⟩:=x;exact⟨P,y,U,r,i,j,l,k _ _ (.inl rfl) e,c⟩
 |dT eE =>
  obtain⟨P,y,O,r,i,j,l,e,c⟩:=x;exact⟨P,y,O,Paired.L6 r λp I P=>⟨P.1,B _ _ P.2.1,P.2.2⟩,i,j,l,k _ _ (.inl rfl) e,c⟩
 |set S n=>obtain⟨i,j,l,t,e,c⟩:=x;exact⟨i,j,l,t,k _ _ (.inl rfl) e,c⟩
 |ins C dx fs =>
  obtain⟨d,P,ne,e,Y,⟨Z,j,l,e2,c⟩,r⟩:=x;exact⟨E _ d,P,ne,k _ _ (.inl rfl) e,Y,⟨Z,j,l,k _ _ (.inr d) e2,c⟩,r⟩
 |own y=>obtain⟨i,e⟩:=x;exact⟨i,k _ _ (.inl rfl) e⟩
 |xd fs=>obtain⟨Y,⟨Z,j,l,e,c⟩,r⟩:=x;exact⟨Y,⟨Z,j,l,k _ _ (.inl rfl) e,c⟩,r⟩
 |fU lo hi=>obtain⟨t,u,h,e⟩:=x;exact⟨t,u,h,k _ _ (.inl rfl) e⟩
 |nA i u ih=>obtain⟨e,I⟩:=x;exact⟨k _ _ (.inl rfl) e,ih I⟩
 |cI p I=>obtain⟨ps,e,t,r⟩:=x;exact⟨ps,k _ _ (.inl rfl) e,t,r.imp id λ⟨c,s,e2⟩=>⟨c,s,A _ _ e2⟩⟩
 |iH I=>obtain⟨c,i,U,t,s,e,r⟩:=x;cases s;exact⟨_,i,U,t,rfl,k _ _ (.inl rfl) e,r⟩
 |met w y =>
  have e:z.get? f=some (afz (.ref w) (.ref y)):=x;show J.get? f=some (afz (.ref w) (.ref y));exact k f _ (.inl rfl) e
 |ext φ=>obtain⟨p,⟨o,e⟩,st⟩:=x;exact⟨st _ _ p λo I=>k _ _ (.inl rfl) I,⟨o,k _ _ (.inl rfl) e⟩,st⟩
theorem eF.lt {H:Hp}{o:HO}(x:eF q v H z)(e:H f=some o):f<z.objs.size:=(x f o e).lt
def eF.fresh {H:Hp}(x:eF q v H z)(e:z.objs.size<=f):H f=none:=by
 cases P:H f with
 |none=>rfl|some u=>exact absurd (uf (x.lt P) e) (B5 _)
def eF.kept {H:Hp}{h':Heap}(x:eF q v H z)(k:∀b u,z.get? b=some u->h'.get? b=some u):eF q v H h':=λa o e =>
 (x a o e).dA (λb u _ P=>k b u P) (λ_ P=>P) (λ_ _ P=>P) λ_ _ P=>P
def eF.laid {H:Hp}{o:HO}(x:eF q v H z)(k:∀b u,z.get? b=some u->J.get? b=some u)(i:z.objs.size<=f)(new:eC q v (upd H f o) J f o):eF q v (upd H f o) J:=λb u e=>by
 have P:=x.fresh i;by_cases hb:b=f
 . subst hb;rw[aT]at e;cases e;exact new
 . rw[aG hb]at e
   exact(x b u e).dA (λc w _ h=>k c w h) (λc h=>by rw[aG (aN h P)];exact h) (λc n h=>by rw[aG (aN h P)];exact h) λc n h=>by rw[aG (aN h P)];exact h
def Rd (H:Hp)(a:Addr)(u:HO):Prop:=H a=some u \/ ∃o,H a=some (.nA o u)
def Rd.ok {H:Hp}{u:HO}(r:Rd H f u)(x:eF q v H z):eC q v H z f u:=by
 rcases r with r|⟨o,r⟩
 . exact x f u r
 . obtain⟨_,P⟩:=x f _ r
   exact P
noncomputable def HK:Option HO->Prop
 |some (.lst _)=>True|some (.dK _)=>True|some (.dT _)=>True|some (.set _ _)=>True|some (.ins _ _ _)=>True|some (.ext _)=>True|_=>False
def eF.write {H:Hp}{x:Addr}{e:Addr}{C:HO}(ok:eF q v H z)(s:HK (H x))(A:e=x\/H e=some (.own x))(k:∀b u,b≠e->z.get? b=some u->J.get? b=some u)(B:∃u,J.get? e=some u)(new:eC q v (upd H x C) J x C):eF q v (upd H x C) J:=λb u h=>by
 have i:∀c y,H c=some (.own y)->c≠x:=λc y r w=>by subst w;rw[r]at s;exact s
 have o:∀c n,H c=some (.tup n)->c≠x:=λc n r w=>by subst w;rw[r]at s;exact s
 have l:∀c h,H c=some (.iH h)->c≠x:=λc n r w=>by subst w;rw[r]at s;exact s
 by_cases hb:b=x
 . subst hb;rw[aT]at h;cases h;exact new
 . rw[aG hb]at h
   by_cases p:b=e
   . have f:H b=some (.own x):=by
       rcases A with w|w
       . exact absurd (p.trans w) hb
       . rw[p];exact w
     rw[h]at f;cases f;obtain⟨P,j⟩:=B;exact⟨P,by rw[p];exact j⟩
   . refine(ok b u h).dA (λc P a r=>k c P ?_ r) (λc r=>by rw[aG (i c b r)];exact r) (λc n r=>by rw[aG (o c n r)];exact r) λc h r=>by rw[aG (l c h r)];exact r
     rcases a with rfl|a
     . exact p
     . rintro rfl
       rcases A with w|w
       . exact i c b a w
       . rw[a]at w;cases w;exact hb rfl
noncomputable def L8:HO->Bool
 |.cI _ _=>true|.iH _=>true|_=>false
structure Un (fs ex:List Addr)(H H':Hp)(h h':Heap):Prop where
 keep:∀b o,h.get? b=some o->H b=none->b ∉ fs->b ∉ ex->h'.get? b=some o
 slot:∀b o,h.get? b=some o->H b=none->b∈fs->b ∉ ex->∃sl,h'.get? b=some { o with slots:=sl }
 free:∀b o,h.get? b=some o->H b=none->b ∉ ex->H' b=none
 there:∀b o,h.get? b=some o->b ∉ ex->∃o',h'.get? b=some o'
 lu:∀b xs,H b=some (.tup xs)->H' b=some (.tup xs)
 j3:∀b o u,H b=some (.nA o u)->H' b=some (.nA o u)
 j4:∀b u,L8 u=true->H b=some u->H' b=some u
def Un.any {H:Hp}{h:Hp}(u:Un U I H h z J)(q:z.get? f=some c)(n:H f=none)(b:f ∉ I):∃sl,J.get? f=some { c with slots:=sl }:=by
 by_cases hb:f∈U
 . exact u.slot f c q n hb b
 . exact⟨c.slots,u.keep f c q n hb b⟩
def Un.kept {H:Hp}{h':Heap}(k:∀b u,z.get? b=some u->h'.get? b=some u):Un U I H H z h' :=
 ⟨λb a q _ _ _=>k b a q,λb a q _ _ _=>⟨a.slots,k b a q⟩,λ_ _ _ n _=>n,λb a q _=>⟨a,k b a q⟩,λ_ _ q=>q,λ_ _ _ q=>q,λ_ _ _ q=>q⟩
def Un.refl {H:Hp}:Un U I H H z z:=Un.kept λ_ _ q=>q
def Un.laid {H:Hp}{o:HO}(k:∀b u,z.get? b=some u->J.get? b=some u)(fs:z.objs.size<=f)(c:H f=none):Un U I H (upd H f o) z J where
 keep:=λb u q _ _ _=>k b u q
 slot:=λb u q _ _ _=>⟨u.slots,k b u q⟩
 free:=λb u q n _=>by rw[aG (p8 (uf (nC q) fs))];exact n
 there:=λb u q _=>⟨u,k b u q⟩
 lu:=λb xs q=>by rw[aG (aN q c)];exact q
 j3:=λb u xs q=>by rw[aG (aN q c)];exact q
 j4:=λb u _ q=>by rw[aG (aN q c)];exact q
def Un.write {H:Hp}{x:Addr}{e:Addr}{o:HO}(f:HK (H x))(i:e=x\/H e=some (.own x))(k:∀b u,b≠e->z.get? b=some u->J.get? b=some u)(j:∃u,J.get? e=some u):Un U I H (upd H x o) z J:=by
 have c:∀b,H b=none->b≠x:=λb n fs=>by subst fs;rw[n]at f;exact f
 have a:∀b,H b=none->b≠e:=λb n fs=>by
   subst fs;rcases i with r|r
   . exact c b n r
   . rw[n]at r;cases r
 have hm:∀b u,H b=some u->¬HK (some u)->b≠x:=λb u q nm fs=>by subst fs;rw[q]at f;exact nm f
 refine⟨λb u q n _ _=>k b u (a b n) q,λb u q n _ _=>⟨u.slots,k b u (a b n) q⟩,λb u q n _=>by rw[aG (c b n)];exact n,λb u q _=>?_,
   λb p q=>by rw[aG (hm b _ q λfs=>fs)];exact q,λb u p q=>by rw[aG (hm b _ q λfs=>fs)];exact q,λb v t q=>by rw[aG (hm b _ q λfs=>by cases v<;>first|exact fs|cases t)];exact q⟩
 by_cases h:b=e
 . subst h;exact j
 . exact⟨u,k b u h q⟩
noncomputable def kO (h:Heap)(H:Hp):List Addr:=(nJ h.objs.size).filter λa=>(H a).isSome
noncomputable def mC (h:Heap)(H:Hp):Heap:=PySem.W.hideAll h (kO h H)
def Cp (h:Heap)(H:Hp):(mC h H).objs.size=h.objs.size:=PySem.W.hideAll_size _ _
def Fv {H:Hp}(e:z.get? f=some c)(n:H f=none):(mC z H).get? f=some c :=
 PySem.W.hideAll_get _ e λhm=>by have q:(H f).isSome=true:=(xX.mp hm).2;rw[n]at q;simp at q
def JG {H:Hp}(e:(mC z H).get? f=some c):z.get? f=some c/\H f=none:=by
 have a:z.get? f=some c:=PySem.W.of_hideAll (kO z H) e;refine⟨a,?_⟩;cases q:H f with
 |none=>rfl
 |some x =>
  have hm:f∈kO z H:=xX.mpr ⟨ug.mpr (nC a),by simp[q]⟩;have h:(mC z H).get? f=none:=PySem.W.hideAll_none (kO z H) hm;rw[h]at e;cases e
noncomputable def JH (g h:Heap)(L:Addr):List (Addr×Obj):=(nJ h.objs.size).filterMap λa=>if a=L\/(g.get? a).isSome=true then none else(h.get? a).map λo=>(a,o)
noncomputable def rest (g h:Heap)(L d:Addr):List (Addr×Obj):=(JH g h L).filter λp=>decide (p.1≠d)
structure bab (K:n3)(mg:Str->Option Value)(base:Heap):Prop where
 lG:K.In base
 glob:base.Ns tc mg
 blt:∃mb,base.Ns afJ mb /\ ∀x:Str,x ≠ "__name__"->mb x=Qk x
 nolimit:base.NoLimit
 bm:∃bm ob,BMod base tc mg bm ob
structure d_ where
 ar:T6
 bd:Expr
 sc:Scope
 qual:Str
 fv:List Str
 ps:List Str
structure Lx where
 tb:List (Addr×Pos×Str)
 lm:Str->Option d_
structure Cx where
 prog:te
 w:World
 K:n3
 mg:Str->Option Value
 base:Heap
 A:og
 N:List Str
 s₀:lO
 H₀:Hp
 env:Env
 outer:List Env
 stack:List Env
 ex:List Addr
 fn:Str->Bool
 calm:Bool
 pn:List (Addr×Obj)
 xe:Value->lO->Prop
 lx:Lx
noncomputable def kP (l:List Env):List Addr:=l.filterMap (·.frame)
noncomputable abbrev Cx.fs (X:Cx):List Addr:=kP X.outer
def Cr (sc:Scope)(x:Str):Prop:=sc.names.lookup x=some .local\/sc.names.lookup x=some .cell\/sc.names.lookup x=some .free
def El (sc:Scope)(x:Str):Prop:=sc.names.lookup x=some .local\/sc.names.lookup x=some .cell
noncomputable def bae (env:Env)(h:Heap)(m:Str->Option Value)(x:Str)(u:Value):Prop :=
 (env.kindOf x=some .local/\m x=some u)\/((env.kindOf x=some .cell\/env.kindOf x=some .free) /\ ∃c,env.cells.lookup x=some c/\h.IsCell c (some u))
structure Cx.Ok (X:Cx):Prop where
 mod:bab X.K X.mg X.base
 kind:X.env.scope.kind = .function
 glob:X.env.globals=tc
 blt:X.env.builtins=afJ
 above:X.s₀.heap.objs.size<=X.env.locals
 inj:∀x y c,X.env.cells.lookup x=some c->X.env.cells.lookup y=some c->x=y
 has:∀x,(X.env.kindOf x=some .cell\/X.env.kindOf x=some .free)->∃c,X.env.cells.lookup x=some c
 yO:∀x c,X.fn x=true->X.env.cells.lookup x=some c->X.s₀.heap.objs.size<=c
 hd:X.calm=true->X.A.handled=none
 frames:X.A.frames=some X.stack
 vU:X.stack=X.outer\/(X.stack=X.env::X.outer/\X.env.frame=some X.env.locals)
 L9:∀b∈X.ex,b≠X.env.locals /\ ∀x c,X.env.cells.lookup x=some c->c≠b
 bs:∀b o,X.base.get? b=some o->X.s₀.heap.get? b=some o/\X.H₀ b=none
 nQ:X.base.objs.size<=X.s₀.heap.objs.size
 qm:∀b o,X.base.get? b=some o->b ∉ X.ex
 vV:∀b∈X.ex,b ∉ X.fs
 ik:X.s₀.heap.FunFrames X.base X.outer
 qJ:∀b∈X.fs,X.H₀ b=none
structure lb (X:Cx)(a8:List (Addr×Obj))(σ:List (Option V))(H:Hp)(s:lO):Prop where
 ok:X.Ok
 os:s.os=X.s₀.os
 bare:Pd s.gens
 base:Un X.fs X.ex X.H₀ H X.s₀.heap s.heap
 loc:∃m,s.heap.Ns X.env.locals m /\ ∀(i:Nat) (x:Str) (v:V),X.N[i]? = some x->σ[i]? = some (some v)->Cr X.env.scope x->∃u,lX v u/\bae X.env s.heap m x u
 cell:∀x c,X.env.cells.lookup x=some c->∃v,s.heap.IsCell c v
 free:H X.env.locals=none
 gM:∀x c,X.env.cells.lookup x=some c->H c=none
 pin:∀p∈X.pn++a8,s.heap.get? p.1=some p.2/\H p.1=none/\p.1≠X.env.locals/\p.1 ∉ X.fs /\ ∀v,p.2.data ≠ .cell v
 aY:eF X.prog X.w H s.heap
 len:σ.length=X.N.length
def Cx.Ok.Wo {X:Cx}(ok:X.Ok)(e:X.base.get? f=some c):f ∉ X.fs:=λa=>by have:=(ok.ik.mem a).1;rw[e]at this;cases this
theorem lb.bs {X:Cx}{c:List (Option V)}{H:Hp}(I:lb X a8 c H s):∀b o,X.base.get? b=some o->s.heap.get? b=some o/\H b=none:=λb o e =>
 ⟨I.base.keep b o (I.ok.bs b o e).1 (I.ok.bs b o e).2 (I.ok.Wo e) (I.ok.qm b o e),I.base.free b o (I.ok.bs b o e).1 (I.ok.bs b o e).2 (I.ok.qm b o e)⟩
def lb.bk {X:Cx}{c:List (Option V)}{H:Hp}(I:lb X a8 c H s):∀b o,X.base.get? b=some o->s.heap.get? b=some o:=λb o e=>(I.bs b o e).1
theorem lb.mod {X:Cx}{c:List (Option V)}{H:Hp}(I:lb X a8 c H s):bab X.K X.mg X.base:=I.ok.mod
def lb.nB {X:Cx}{c:List (Option V)}{H:Hp}(I:lb X a8 c H s):X.K.In s.heap:=I.ok.mod.lG.keeps I.bk
theorem lb.lt {X:Cx}{c:List (Option V)}{H:Hp}(I:lb X a8 c H s):X.env.locals<s.heap.objs.size:=by obtain⟨_,a,_⟩:=I.loc;exact a.lt
def lb.sz {X:Cx}{c:List (Option V)}{H:Hp}(I:lb X a8 c H s):X.s₀.heap.objs.size<=s.heap.objs.size:=pe I.ok.above (RI I.lt)
def lb.Wq {X:Cx}{i:List (Option V)}{H:Hp}(I:lb X a8 i H s)(h:s.heap.objs.size<=f):f ∉ X.fs:=λb=>by obtain⟨_,o,c,_⟩:=I.ok.ik.mem b;exact absurd (uf (nC c) (pe I.sz h)) (B5 _)
def lb.tZ {X:Cx}{n:List (Option V)}{H:Hp}(I:lb X a8 n H s):∀x c,X.env.cells.lookup x=some c->c≠X.env.locals:=λx c e z=>by obtain⟨v,o,a,hd⟩:=I.cell x c e;obtain⟨m,⟨j,i,h,f,b,_⟩,_⟩:=I.loc;rw[z,f]at a;cases a;rw[b]at hd;cases hd
theorem lb.ik {X:Cx}{n:List (Option V)}{H:Hp}(I:lb X a8 n H s):s.heap.FunFrames X.base X.outer:=by
 have all:∀(l:List Env),(∀b∈kP l,b∈X.fs)->X.s₀.heap.FunFrames X.base l->s.heap.FunFrames X.base l:=by
  intro l;induction l with
  |nil=>intro _ _;trivial
  |cons env r p =>
   intro f k;obtain⟨q,⟨L,o,hf,i,h,hd⟩,j⟩:=k;have c:L∈X.fs:=f L (by unfold kP;rw[Dw,hf];exact rj);obtain⟨u,e⟩:=I.base.slot L o h (I.ok.qJ L c) c λz=>I.ok.vV L z c;exact⟨q,⟨L,_,hf,i,e,hd⟩,p (λb a=>f b (by unfold kP;rw[Dw,hf];exact pP _ a)) j⟩
 exact all X.outer (λ_ a=>a) I.ok.ik
theorem lb.stack {X:Cx}{c:List (Option V)}{H:Hp}(I:lb X a8 c H s):s.heap.FunFrames X.base X.stack:=by
 rcases I.ok.vU with e|⟨e,hf⟩
 . rw[e];exact I.ik
 . rw[e]
   obtain⟨m,a,_⟩:=I.loc;refine .cons (by rw[I.ok.kind];decide) hf a ?_ I.ik;exact Heap.get?_none_of_le (pe I.ok.nQ I.ok.above)
def lb.qK {X:Cx}{c:List (Option V)}{H:Hp}(I:lb X a8 c H s):∀b∈kP X.stack,b∈X.env.locals::X.fs:=λb a=>by
 rcases I.ok.vU with e|⟨e,hf⟩
 . rw[e]at a;exact pP _ a
 . rw[e]at a
   unfold kP at a;rw[Dw,hf]at a;exact a
def lb.yP {X:Cx}{h:List (Option V)}{H:Hp}(I:lb X a8 h H s):∀b∈kP X.stack,H b=none:=λb a=>by
 rcases nv.mp (I.qK b a)with e|a
 . rw[e];exact I.free
 . obtain⟨_,o,c,_⟩:=I.ok.ik.mem a
   exact I.base.free b o c (I.ok.qJ b a) λz=>I.ok.vV b z a
def lb.step {X:Cx}{σ:List (Option V)}{H:Hp}{R:Hp}{g':Array afT}{d':Drawn}{ch:List Addr}(I:lb X a8 σ H s)(E:∀b∈ch,(b∈X.ex\/X.s₀.heap.objs.size<=b)/\b≠X.env.locals/\(∀x c,X.env.cells.lookup x=some c->c≠b) /\ ∀p∈X.pn++a8,p.1≠b)(B:∀b o,b≠X.env.locals->b ∉ X.fs->b ∉ ch->s.heap.get? b=some o->H b=none->z.get? b=some o)(slot:∀b o,b≠X.env.locals->b∈X.fs->b ∉ ch->s.heap.get? b=some o->H b=none->∃sl,z.get? b=some { o with slots:=sl })(A:∀b o,b ∉ ch->s.heap.get? b=some o->H b=none->R b=none)(C:∀b o,b ∉ ch->s.heap.get? b=some o->∃U,z.get? b=some U)(K:∀b Q,H b=some (.tup Q)->R b=some (.tup Q))(N:∀b o u,H b=some (.nA o u)->R b=some (.nA o u))(M:∀b u,L8 u=true->H b=some u->R b=some u)(ns:∀m,s.heap.Ns X.env.locals m->z.Ns X.env.locals m)(L:eF X.prog X.w R z)(J:Pd g'):
   lb X a8 σ R { s with heap:=z,gens:=g',drawn:=d',toks:=i }:=by
 have Uh:∀b o,X.s₀.heap.get? b=some o->b≠X.env.locals:=λb o e=>p8 (uf (nC e) I.ok.above);have Y:∀b o,X.s₀.heap.get? b=some o->b ∉ X.ex->b ∉ ch:=λb o e a h=>by
   rcases (E b h).1 with O|O
   . exact a O
   . exact absurd (uf (nC e) O) (B5 _)
 have cellK:∀x c,X.env.cells.lookup x=some c->∀v,s.heap.IsCell c v->z.IsCell c v:=λx c e v ⟨o,j,hd⟩=>by
   have y:c ∉ ch:=λO=>(E c O).2.2.1 x c e rfl;by_cases hc:c∈X.fs
   . obtain⟨sl,q⟩:=slot c o (I.tZ x c e) hc y j (I.gM x c e)
     exact⟨_,q,hd⟩
   . exact⟨o,B c o (I.tZ x c e) hc y j (I.gM x c e),hd⟩
 refine⟨I.ok,I.os,J,⟨λb o e n h a=>?_,λb o e n h a=>?_,λb o e n a=>?_,λb o e a=>?_,λb Q e=>K b Q (I.base.lu b Q e),λb o Q e=>N b o Q (I.base.j3 b o Q e),λb u t e=>M b u t (I.base.j4 b u t e)⟩,?_,λx c e=>?_,?_,λx c e=>?_,λp hp=>?_,L,I.len⟩
 . exact B b o (Uh b o e) h (Y b o e a) (I.base.keep b o e n h a) (I.base.free b o e n a)
 . obtain⟨sl,f⟩:=I.base.slot b o e n h a
   obtain⟨nR,Z⟩:=slot b _ (Uh b o e) h (Y b o e a) f (I.base.free b o e n a);exact⟨nR,Z⟩
 . obtain⟨U,f⟩:=I.base.there b o e a
   exact A b U (Y b o e a) f (I.base.free b o e n a)
 . obtain⟨U,f⟩:=I.base.there b o e a
   exact C b U (Y b o e a) f
 . obtain⟨m,hn,hl⟩:=I.loc
   refine⟨m,ns m hn,λt' x v f Z e3=>?_⟩;obtain⟨u,r,l⟩:=hl t' x v f Z e3;refine⟨u,r,?_⟩;rcases l with l|⟨k,c,e,O⟩
   . exact .inl l
   . exact .inr ⟨k,c,e,cellK x c e _ O⟩
 . obtain⟨v,O⟩:=I.cell x c e
   exact⟨v,cellK x c e v O⟩
 . obtain⟨m,⟨o,_,_,j,_⟩,_⟩:=I.loc
   exact A _ o (λO=>(E _ O).2.1 rfl) j I.free
 . obtain⟨v,o,j,hd⟩:=I.cell x c e
   exact A c o (λO=>(E c O).2.2.1 x c e rfl) j (I.gM x c e)
 . obtain⟨e,n,ne,nf,d⟩:=I.pin p hp
   have y:p.1 ∉ ch:=λO=>(E p.1 O).2.2.2 p hp rfl;exact⟨B p.1 p.2 ne nf y e n,A p.1 p.2 y e n,ne,nf,d⟩
def lb.un {X:Cx}{B:List (Option V)}{H:Hp}{p:Hp}{h':Heap}{t':Nat}(I:lb X a8 B H s)(u:Un X.fs [] H p s.heap h')(A:eF X.prog X.w p h'):lb X a8 B p { s with heap:=h',toks:=t' }:=by
 obtain⟨m,⟨o,l,q,c,r⟩,_⟩:=id I.loc;obtain⟨v,k⟩:=u.any c I.free (by simp);exact I.step (g':=s.gens) (d':=s.drawn) (ch:=[]) (λ_ z=>nomatch z) (λb o _ a _ e n=>u.keep b o e n a (by simp)) (λb o _ a _ e n=>u.slot b o e n a (by simp)) (λb o _ e n=>u.free b o e n (by simp)) (λb o _ e=>u.there b o e (by simp)) u.lu u.j3 u.j4 (λy hm=>by obtain⟨x,i,h,f,j⟩:=hm;rw[c]at f;cases f;exact⟨_,i,h,k,j⟩) A I.bare
def lb.call {X:Cx}{J:List (Option V)}{H:Hp}{E:Hp}{h':Heap}{g':Array afT}{t':Nat}{d':Drawn}{ch:List Addr}(I:lb X a8 J H s)(u:Un (kP X.stack) ch H E s.heap h')(C:eF X.prog X.w E h')(B:Pd g')(A:∀b∈ch,(b∈X.ex\/X.s₀.heap.objs.size<=b)/\b≠X.env.locals/\(∀x c,X.env.cells.lookup x=some c->c≠b) /\ ∀p∈X.pn++a8,p.1≠b):
  lb X a8 J E { s with heap:=h',gens:=g',drawn:=d',toks:=t' }:=by
 obtain⟨m,⟨o,v,y,h,r⟩,_⟩:=id I.loc;obtain⟨sl,f⟩:=u.any h I.free λz=>(A _ z).2.1 rfl;exact I.step (ch:=ch) A (λb o f j a e n=>u.keep b o e n (λz=>(nv.mp (I.qK b z)).elim f j) a) (λb o _ _ a e n=>u.any e n a) (λb o a e n=>u.free b o e n a) (λb o a e=>u.there b o e a) u.lu u.j3 u.j4 (λO hm=>by obtain⟨Q,l,k,i,q⟩:=hm;rw[h]at i;cases i;exact⟨_,l,k,f,q⟩) C B
def lb.turned {X:Cx}{J:List (Option V)}{H:Hp}{t':Nat}(I:lb X a8 J H s)(k:∀b o,b≠f->s.heap.get? b=some o->z.get? b=some o)(A:H f=none)(y:f≠X.env.locals)(C:f∈X.ex\/X.s₀.heap.objs.size<=f)(E:∀x c,X.env.cells.lookup x=some c->c≠f)(B:∀p∈X.pn++a8,p.1≠f):lb X a8 J H { s with heap:=z,toks:=t' }:=by
 have O:∀b u,H b=some u->b≠f:=λb u e it=>by rw[it,A]at e;cases e
 refine I.step (g':=s.gens) (d':=s.drawn) (ch:=[f]) (λb l=>?_) (λb o _ _ a e _=>k b o (λit=>a (by simp[it])) e) (λb o _ _ a e _=>⟨o.slots,k b o (λit=>a (by simp[it])) e⟩) (λ_ _ _ _ n=>n)
   (λb o a e=>⟨o,k b o (λit=>a (by simp[it])) e⟩) (λ_ _ e=>e) (λ_ _ _ e=>e) (λ_ _ _ e=>e) (λm hm=>?_) (λb u e=>?_) I.bare
 . have e:b=f:=by simpa using l
   subst e;exact⟨C,y,E,B⟩
 . obtain⟨o,i,j,h,r⟩:=hm
   exact⟨o,i,j,k _ o (qP y) h,r⟩
 . refine(I.aY b u e).dA (λc v a q=>k c v ?_ q) (λ_ q=>q) (λ_ _ q=>q) λ_ _ q=>q
   rcases a with it|it
   . rw[it];exact O b u e
   . exact O c _ it
def lb.tok {X:Cx}{c:List (Option V)}{H:Hp}(I:lb X a8 c H s)(t:Nat):lb X a8 c H { s with toks:=t }:=I.un (h':=s.heap) (t':=t) Un.refl I.aY
theorem lb.kept {X:Cx}{c:List (Option V)}{H:Hp}{h':Heap}{t':Nat}(I:lb X a8 c H s)(k:∀b u,s.heap.get? b=some u->h'.get? b=some u):lb X a8 c H { s with heap:=h',toks:=t' }:=I.un (Un.kept k) (I.aY.kept k)
theorem lb.laid {X:Cx}{h:List (Option V)}{H:Hp}{o:HO}{t':Nat}(I:lb X a8 h H s)(k:∀b u,s.heap.get? b=some u->z.get? b=some u)(c:s.heap.objs.size<=f)(new:eC X.prog X.w (upd H f o) z f o):
 lb X a8 h (upd H f o) { s with heap:=z,toks:=t' }:=I.un (Un.laid k c (I.aY.fresh c)) (I.aY.laid k c new)
theorem lb.write {X:Cx}{h:List (Option V)}{H:Hp}{x e:Addr}{o:HO}{t':Nat}(I:lb X a8 h H s)(f:HK (H x))(a:e=x\/H e=some (.own x))(k:∀b u,b≠e->s.heap.get? b=some u->z.get? b=some u)(c:∃u,z.get? e=some u)(new:eC X.prog X.w (upd H x o) z x o):lb X a8 h (upd H x o) { s with heap:=z,toks:=t' }:=I.un (Un.write f a k c) (I.aY.write f a k c new)
def lb.yQ {X:Cx}{c:List (Option V)}{H:Hp}(I:lb X a8 c H s)(h:∀p∈b,s.heap.get? p.1=some p.2/\H p.1=none/\p.1≠X.env.locals/\p.1 ∉ X.fs /\ ∀v,p.2.data ≠ .cell v):lb X b c H s :=
 ⟨I.ok,I.os,I.bare,I.base,I.loc,I.cell,I.free,I.gM,λp a=>(m3.mp a).elim (λz=>I.pin p (aeM _ z)) (h p),I.aY,I.len⟩
def vX (k:Z.Nodup)(a:Z[i]? = some x)(b:Z[o]? = some x):i=o:=by obtain⟨f,e⟩:=m5.mp a;obtain⟨h,c⟩:=m5.mp b;exact(afU k).mp (e.trans c.symm)
def t6 {X:Cx}{σ:List (Option V)}{H:Hp}{v:V}(I:lb X a8 σ H s)(J:X.N.Nodup)(C:X.N[i]? = some x)(B:El X.env.scope x)(M:lX v u)(h:∀s',lb X a8 (σ.set i (some v)) H s'->(∃a,Ma a s.heap s'.heap/\(a=X.env.locals\/X.env.cells.lookup x=some a))->y () s')(K:X.fn x=true\/X.env.scope.names.lookup x=some .local):wpAny r T (storeName X.env x u) y E s:=by
 obtain⟨m,hn,hl⟩:=id I.loc;have Wr:(X.env.scope.kind == .class||(X.env.scope.kind == .module&&X.env.locals != X.env.globals))=false:=by rw[I.ok.kind];rfl
 have ab:i < σ.length:=by rw[I.len];exact(m5.mp C).1
 have tZ:=I.tZ;have tracked:∀{a:Addr} {U:Heap},(∃o,s.heap.get? a=some o/\H a=none)->Ma a s.heap U->eF X.prog X.w H U:=fun {a U} ha f b ob e=>by
   obtain⟨_,_,qL⟩:=ha;refine(I.aY b ob e).dA (λc Y O q=>(f.2 c ?_).trans q) (λ_ q=>q) (λ_ _ q=>q) λ_ _ q=>q;rintro rfl;rcases O with rfl|O
   . rw[qL]at e;cases e
   . rw[qL]at O;cases O
 rcases B with hk|hk
 . refine wpAny_storeName_local hk hn (λU Zh f=>?_) Wr
   obtain⟨oL,_,_,Cv,_⟩:=id hn;refine h _ ⟨I.ok,I.os,I.bare,⟨λb o e n hb B=>?_,λb o e n hb B=>?_,I.base.free,λb o e B=>?_,I.base.lu,I.base.j3,I.base.j4⟩,⟨_,Zh,λj A v' l Q e3=>?_⟩,λA c e=>?_,I.free,I.gM,λp hp=>?_,tracked ⟨oL,Cv,I.free⟩ f,by simpa using I.len⟩ ⟨_,f,.inl rfl⟩
   . exact(f.2 b (p8 (uf (nC e) I.ok.above))).trans (I.base.keep b o e n hb B)
   . obtain⟨sl,l⟩:=I.base.slot b o e n hb B
     exact⟨sl,(f.2 b (p8 (uf (nC e) I.ok.above))).trans l⟩
   . obtain⟨o',l⟩:=I.base.there b o e B
     exact⟨o',(f.2 b (p8 (uf (nC e) I.ok.above))).trans l⟩
   . by_cases R:j=i
     . subst R
       rw[C]at l;cases l;rw[vT ab]at Q;cases Q;exact⟨u,M,.inl ⟨hk,by simp⟩⟩
     . rw[IZ (qP R)]at Q
       obtain⟨u',r',q⟩:=hl j A v' l Q e3;refine⟨u',r',?_⟩;rcases q with⟨k,e⟩|⟨k,c,e,z⟩
       . refine .inl ⟨k,?_⟩
         have:A≠x:=λe=>R (vX J l (e ▸ C));simp[this,e]
       . exact .inr ⟨k,c,e,z.sameBut f (tZ A c e)⟩
   . obtain⟨Y,z⟩:=I.cell A c e
     exact⟨Y,z.sameBut f (tZ A c e)⟩
   . obtain⟨e,n,ne,nf,d⟩:=I.pin p hp
     exact⟨(f.2 p.1 ne).trans e,n,ne,nf,d⟩
 . have t7:X.fn x=true:=by
     rcases K with z|z
     . exact z
     . rw[z]at hk;cases hk
   obtain⟨c,O⟩:=I.ok.has x (.inl hk);obtain⟨Y,z⟩:=I.cell x c O;refine wpAny_storeName_cell I.ok.kind hk O z (λU HN f=>?_);obtain⟨oc,Ui,Ws⟩:=id z;refine h { s with heap:=U } ⟨I.ok,I.os,I.bare,⟨λb o e n hb B=>?_,λb o e n hb B=>?_,I.base.free,λb o e B=>?_,I.base.lu,I.base.j3,I.base.j4⟩,⟨m,hn.sameBut f (qP (tZ x c O)),λj A v' l Q e3=>?_⟩,λA Z e=>?_,I.free,I.gM,λp hp=>?_,tracked ⟨oc,Ui,I.gM x c O⟩ f,by simpa using I.len⟩ ⟨c,f,.inr O⟩
   . exact(f.2 b (p8 (uf (nC e) (I.ok.yO x c t7 O)))).trans (I.base.keep b o e n hb B)
   . obtain⟨sl,l⟩:=I.base.slot b o e n hb B
     exact⟨sl,(f.2 b (p8 (uf (nC e) (I.ok.yO x c t7 O)))).trans l⟩
   . obtain⟨o',l⟩:=I.base.there b o e B
     exact⟨o',(f.2 b (p8 (uf (nC e) (I.ok.yO x c t7 O)))).trans l⟩
   . by_cases R:j=i
     . subst R
       rw[C]at l;cases l;rw[vT ab]at Q;cases Q;exact⟨u,M,.inr ⟨.inl hk,c,O,HN⟩⟩
     . rw[IZ (qP R)]at Q
       obtain⟨u',r',q⟩:=hl j A v' l Q e3;refine⟨u',r',?_⟩;rcases q with q|⟨k,Z,e,z'⟩
       . exact .inl q
       . refine .inr ⟨k,Z,e,z'.sameBut f ?_⟩
         rintro rfl;exact R (vX J l (I.ok.inj _ _ _ e O ▸ C))
   . by_cases Uj:Z=c
     . subst Uj;exact⟨_,HN⟩
     . obtain⟨w2,z2⟩:=I.cell A Z e
       exact⟨w2,z2.sameBut f Uj⟩
   . obtain⟨e,n,ne,nf,d⟩:=I.pin p hp
     refine⟨(f.2 p.1 ?_).trans e,n,ne,nf,d⟩;intro q;rw[q,Ui]at e;have q':oc=p.2:=Az e;exact d Y (by rw[<- q'];exact Ws)
def fV {X:Cx}{p:List (Option V)}{H:Hp}{v:V}(I:lb X a8 p H s)(c:X.N.Nodup)(e:X.N[i]? = some x)(f:El X.env.scope x)(M:lX v u)(h:∀n,lb X a8 (p.set i (some v)) H n->y () n)(b:X.fn x=true\/X.env.scope.names.lookup x=some .local):wpAny r T (storeName X.env x u) y E s :=
 t6 I c e f M (λn a _=>h n a) b
def lb.Rt {X:Cx}{q:List (Option V)}{H:Hp}{n:Hp}{ch:List Addr}(I:lb X a8 q H s)(i:j.os=s.os)(u:Un (kP X.stack) ch H n s.heap j.heap)(k:eF X.prog X.w n j.heap)(h:Pd j.gens)(r:∀b∈ch,(b∈X.ex\/X.s₀.heap.objs.size<=b)/\b≠X.env.locals/\(∀x c,X.env.cells.lookup x=some c->c≠b) /\ ∀p∈X.pn++a8,p.1≠b):lb X a8 q n j:=by
 obtain⟨f,g',d',t',a⟩:=j;have e:a=s.os:=i;subst e;exact I.call (g':=g') (t':=t') (d':=d') u k h r
abbrev XK:=Value->Option Addr->Hp->Prop
abbrev lU:=List (Option V)
abbrev VK:=V->Hp->Prop
abbrev TE:=lU->Hp->VK->Prop
abbrev TT:=lU->Hp->(Bool->Hp->Prop)->Prop
abbrev TA:=lU->Hp->(List V->Hp->Prop)->Prop
structure Ends where
 nx:lU->Hp->Prop
 rt:VK
 bk:lU->Hp->Prop:=λ_ _=>False
 ct:lU->Hp->Prop:=λ_ _=>False
abbrev TS:=Ends->lU->Hp->Prop
def EP (X:Cx)(a8:List (Addr×Obj))(h:lU)(Q:VK)(u:Value)(a:lO):Prop:=∃v c,lb X a8 h c a/\lX v u/\Q v c
def TP (X:Cx)(a8:List (Addr×Obj))(h:lU)(Q:Bool->Hp->Prop)(b:Bool)(a:lO):Prop:=∃c,lb X a8 h c a/\Q b c
def AP (X:Cx)(a8:List (Addr×Obj))(i:lU)(Q:List V->Hp->Prop)(n:List Value)(a:lO):Prop:=∃c h,lb X a8 i h a/\Vals c n/\Q c h
def SP (X:Cx)(a8:List (Addr×Obj))(D:Ends)(f:Flow)(a:lO):Prop :=
 match f with
 |.next=>∃c h,lb X a8 c h a/\D.nx c h|.brk=>∃c h,lb X a8 c h a/\D.bk c h|.cont=>∃c h,lb X a8 c h a/\D.ct c h|.ret u=>∃v c h,lb X a8 c h a/\lX v u/\D.rt v h
noncomputable def PE (X:Cx)(e:Expr)(t:TE):Prop :=
 ∀(a8:List (Addr×Obj)) (s:lO) (c:lU) (H:Hp) (Q:VK),lb X a8 c H s->t c H Q->wpAny (model X.prog X.w) X.A (eval e X.env) (EP X a8 c Q) X.xe s
noncomputable def PT (X:Cx)(e:Expr)(t:TT):Prop :=
 ∀(a8:List (Addr×Obj)) (s:lO) (c:lU) (H:Hp) (Q:Bool->Hp->Prop),lb X a8 c H s->t c H Q->wpAny (model X.prog X.w) X.A (isTrue e X.env (eval e X.env)) (TP X a8 c Q) X.xe s
noncomputable def PW (X:Cx)(e:Expr)(t:TT):Prop :=
 ∀(whole:Sem Value) (a8:List (Addr×Obj)) (s:lO) (c:lU) (H:Hp) (Q:Bool->Hp->Prop),lb X a8 c H s->t c H Q->wpAny (model X.prog X.w) X.A (isTrue e X.env whole) (TP X a8 c Q) X.xe s
def PW.pt {X:Cx}{t:TT}(h:PW X e t):PT X e t:=h _
noncomputable def PA (X:Cx)(h:List Expr)(t:TA):Prop :=
 ∀(pos:Pos) (a8:List (Addr×Obj)) (s:lO) (c:lU) (H:Hp) (Q:List V->Hp->Prop),lb X a8 c H s->t c H Q->wpAny (model X.prog X.w) X.A (spliced (tT pos (m2 h X.env))) (AP X a8 c Q) X.xe s
def qU (X:Cx)(a:Stmt)(t:TS):Prop :=
 ∀(a8:List (Addr×Obj)) (s:lO) (c:lU) (H:Hp) (D:Ends),lb X a8 c H s->t D c H->wpAny (model X.prog X.w) X.A (exec a X.env) (SP X a8 D) X.xe s
def ip (X:Cx)(a:List Stmt)(t:TS):Prop :=
 ∀(a8:List (Addr×Obj)) (s:lO) (c:lU) (H:Hp) (D:Ends),lb X a8 c H s->t D c H->wpAny (model X.prog X.w) X.A (execs a X.env) (SP X a8 D) X.xe s
def bf {b:Type}{t:Sem b}{Q c:b->lO->Prop}(h:wpAny r T t Q E s)(e:∀a s,Q a s->c a s):wpAny r T t c E s:=ZC h e λ_ _ x=>x
noncomputable def Wt (i:Nat):TE:=λc H Q=>∃v,c[i]? = some (some v)/\Q v H
noncomputable def tC (v:V):TE:=λ_ H Q=>Q v H
def Mb {X:Cx}(o:X.N[i]? = some x)(q:Cr X.env.scope x)(j:(x == ("__debug__":Str))=false)(k:(x == ("__classdict__":Str))=false):PE X (.Name x a) (Wt i):=by
 intro a8 s n H Q I h;obtain⟨v,e,h⟩:=h;obtain⟨m,f,b⟩:=I.loc;obtain⟨u,r,l⟩:=b i x v o e q;have fin:EP X a8 n Q u s:=⟨v,H,I,r,h⟩
 rcases l with⟨hk,hm⟩|⟨hk,c,hc,gq⟩
 . exact ZW (aeP I.ok.kind hk f hm fin) j
 . rcases hk with hk|hk
   . exact ZW (ae0 I.ok.kind hk hc gq fin) j
   . exact ZW (agT I.ok.kind hk hc gq fin k) j
def Mc {X:Cx}{i j a}:PE X (.Constant (.int i) j a) (tC (.int i)):=λ_ _ _ H _ I h=>wpAny_Constant_int ⟨.int i,H,I.tok _,⟨_,rfl⟩,h⟩
def Ru {X:Cx}{b j a}:PE X (.Constant (.bool b) j a) (tC (.bl b)):=λ_ _ _ H _ I h=>Constant_bool ⟨.bl b,H,I,rfl,h⟩
def Md {X:Cx}{j a}:PE X (.Constant .none j a) (tC .ay):=λ_ _ _ H _ I h=>Constant_none ⟨.ay,H,I,rfl,h⟩
def Me {X:Cx}{x j a}:PE X (.Constant (.str x) j a) (tC (.str x)):=λ_ _ _ H _ I h=>ag1 ⟨.str x,H,I.tok _,⟨_,rfl⟩,h⟩
def Gl (X:Cx)(x:Str):Prop:=X.env.kindOf x=some .globalImplicit
def oV {X:Cx}{i:lU}{H:Hp}(I:lb X a8 i H s)(b:Gl X x)(c:X.mg x=some u)(h:Q u s)(e:(x == ("__debug__":Str))=false):wpAny (model X.prog X.w) X.A (eval (.Name x a) X.env) Q E s :=
 aft I.ok.kind b (Calls.loadGlobal_global (by rw[I.ok.glob];exact I.mod.glob.keeps I.bk) c h) e
def jh {X:Cx}{n:lU}{H:Hp}(I:lb X a8 n H s)(f:Gl X x)(i:X.mg x=none)(k:Qk x=some u)(h:Q u s)(j:x ≠ "__name__")(l:(x == ("__debug__":Str))=false):wpAny (model X.prog X.w) X.A (eval (.Name x a) X.env) Q E s:=by
 obtain⟨c,e,b⟩:=I.mod.blt;exact aft I.ok.kind f (Calls.loadGlobal_builtin (by rw[I.ok.glob];exact I.mod.glob.keeps I.bk) i (by rw[I.ok.blt];exact e.keeps I.bk) ((b x j).trans k) h) l
def sL {X:Cx}{v:V}(b:Gl X x)(c:X.mg x=some u)(r:lX v u)(e:(x == ("__debug__":Str))=false):PE X (.Name x a) (tC v):=
 λ_ _ _ H _ I h=>oV I b c ⟨v,H,I,r,h⟩ e
noncomputable def tB (t:TE):TT:=λh H Q=>t h H λx i=>∃c,x = .bl c/\Q c i
noncomputable def Wu (t u:TT):TT:=λh H Q=>t h H λc i=>if c=true then u h i Q else Q false i
noncomputable def Zi (t u:TT):TT:=λh H Q=>t h H λc i=>if c=true then Q true i else u h i Q
noncomputable def Wv (t:TT):TT:=λh H Q=>t h H λc i=>Q (!c) i
def JI {X:Cx}{i:TT}(f:PT X e i):PW X (.BoolOp .And [e] pos) i:=by
 intro b a8 s n H Q I h;refine isTrue_and (bf (f a8 s n H Q I h) λc s1 a=>?_);cases c with
 |true=>exact isTrue_and_nil a|false=>exact a
def Mf {X:Cx}{i:TT}(f:PT X e i):PW X (.BoolOp .Or [e] pos) i:=by
 intro b a8 s n H Q I h;refine isTrue_or (bf (f a8 s n H Q I h) λc s1 a=>?_);cases c with
 |false=>exact isTrue_or_nil a|true=>exact a
def Mg {X:Cx}{n:TT}{p:TT}(k:PT X e n)(l:PW X (.BoolOp .And (K::B) pos) p):PW X (.BoolOp .And (e::K::B) pos) (Wu n p):=by
 intro i a8 s q H Q I h;refine isTrue_and (bf (k a8 s q H _ I h) λc s1 j=>?_);obtain⟨r,a,f⟩:=j;cases c with
 |true=>exact l i a8 s1 q r Q a f|false=>exact⟨r,a,f⟩
def Rv {X:Cx}{n:TT}{p:TT}(k:PT X e n)(l:PW X (.BoolOp .Or (K::B) pos) p):PW X (.BoolOp .Or (e::K::B) pos) (Zi n p):=by
 intro i a8 s q H Q I h;refine isTrue_or (bf (k a8 s q H _ I h) λc s1 j=>?_);obtain⟨r,a,f⟩:=j;cases c with
 |true=>exact⟨r,a,f⟩|false=>exact l i a8 s1 q r Q a f
def Mh {X:Cx}{i:TT}(a:PT X e i):PT X (.UnaryOp .Not e pos) (Wv i):=by intro a8 s n H Q I h;exact isTrue_not (a a8 s n H (λc p=>Q (!c) p) I h)
noncomputable def Rw (n tb:TE):TE:=λh H Q=>n h H λx i=>∃c,x = .bl c/\if c=true then tb h i Q else Q (.bl false) i
noncomputable def Ww (n tb:TE):TE:=λh H Q=>n h H λx i=>∃c,x = .bl c/\if c=true then Q (.bl true) i else tb h i Q
def Mi {X:Cx}{op}{t:TE}(h:PE X e t):PE X (.BoolOp op [e] pos) t:=λa8 s c H Q I hw=>BoolOp_one (h a8 s c H Q I hw)
def Mj {X:Cx}{n:TE}{tb:TE}(k:PE X e n)(l:PE X (.BoolOp .And (K::B) pos) tb):PE X (.BoolOp .And (e::K::B) pos) (Rw n tb):=by
 intro a8 s p H Q I h;refine BoolOp_and (bf (k a8 s p H _ I h) λv s1 j=>?_);obtain⟨x,q,f,i,a⟩:=j;obtain⟨c,rfl,a⟩:=a;cases i;refine XN ?_;cases c with
 |true=>exact l a8 s1 p q Q f a|false=>exact⟨.bl false,q,f,rfl,a⟩
def Rx {X:Cx}{n:TE}{tb:TE}(k:PE X e n)(l:PE X (.BoolOp .Or (K::B) pos) tb):PE X (.BoolOp .Or (e::K::B) pos) (Ww n tb):=by
 intro a8 s p H Q I h;refine BoolOp_or (bf (k a8 s p H _ I h) λv s1 j=>?_);obtain⟨x,q,f,i,a⟩:=j;obtain⟨c,rfl,a⟩:=a;cases i;refine XN ?_;cases c with
 |false=>exact l a8 s1 p q Q f a|true=>exact⟨.bl true,q,f,rfl,a⟩
noncomputable def Zj (t:TT)(n tb:TE):TE:=λh H Q=>t h H λc i=>if c=true then n h i Q else tb h i Q
def Fw {X:Cx}{b:Expr}{p:TE}{tb:TE}{q:TT}(j:PT X e q)(l:PE X K p)(k:PE X b tb):PE X (.IfExp e K b pos) (Zj q p tb):=by
 intro a8 s n H Q I h;refine wpAny_IfExp (bf (j a8 s n H _ I h) λd s1 i=>?_);obtain⟨r,c,f⟩:=i;cases d with
 |true=>exact l a8 s1 n r Q c f|false=>exact k a8 s1 n r Q c f
def dF (K:n3)(H:Hp)(a:Addr)(h:List V):Prop :=
 Rd H a (.lst h) \/
  ∃(o:Obj) (c:Array Value) (n:Nat),K.lookup a=some o/\o.cls = .type "list" /\ o.dict=none/\o.data = .seq c n/\c.size<=mK/\Vals h c.toList
def fu (K:n3)(H:Hp)(a:Addr)(h:List V):Prop :=
 Rd H a (.tup h) \/
  ∃(o:Obj) (c:Array Value) (n:Nat),K.lookup a=some o/\o.cls = .type "tuple" /\ o.dict=none/\o.data = .seq c n/\c.size<=mK/\Vals h c.toList
noncomputable def Wy:Value->Option V
 |.none=>some .ay|.bool b=>some (.bl b)|.int i _=>some (.int i)|.str x _=>some (.str x)|.bytes b _=>some (.Co b)|.float b _=>some (.ij b)|.ref a=>some (.ref a)|.type n=>some (.ty n)|_=>none
def lX.abs {x:V}(r:lX x u):Wy u=some x:=by
 cases x with
 |ay=>cases r;rfl|bl _=>cases r;rfl|int _=>obtain⟨t,rfl⟩:=r;rfl
 |str _=>obtain⟨t,rfl⟩:=r;rfl
 |Co _=>obtain⟨t,rfl⟩:=r;rfl
 |ij _=>obtain⟨t,rfl⟩:=r;rfl
 |ref _=>cases r;rfl|ty _=>cases r;rfl
def lX.inj {x y:V}(r:lX x u)(q:lX y u):x=y:=Az (r.abs.symm.trans q.abs)
theorem Vals.inj {i c:List V}{n:List Value}(h:Vals i n)(p:Vals c n):i=c:=by
 induction h generalizing c with
 |nil=>cases p;rfl
 |cons r _ q=>cases p with
  |cons u v=>rw[r.inj u,q v]
def dF.of {H:Hp}{c:List V}(h:H f=some (.lst c)):dF C H f c:=.inl (.inl h)
def lb.list {X:Cx}{p:lU}{H:Hp}{i:List V}(I:lb X a8 p H s)(h:dF X.K H f i):∃c:List Value,Vals i c/\PlainL s.heap f c.toArray/\i.length<=mK:=by
 rcases h with h|⟨o,c,n,hk,hc,hd,hs,hz,r⟩
 . obtain⟨z,c,n,r,e⟩:=h.ok I.aY
   exact⟨c,r,⟨_,n,e,rfl,rfl,rfl⟩,z⟩
 . refine⟨c.toList,r,⟨o,n,I.nB f o hk,hc,hd,by simpa using hs⟩,?_⟩
   have e:=r.length;simp only[adX]at e;omega
def lb.Mk {X:Cx}{q:lU}{H:Hp}{i:List V}(I:lb X a8 q H s)(h:fu X.K H f i):∃c:List Value,Vals i c/\fI s.heap f c.toArray/\i.length<=mK:=by
 rcases h with h|⟨o,c,n,hk,hc,hd,hs,hz,r⟩
 . obtain⟨z,c,r,p⟩:=h.ok I.aY
   exact⟨c,r,p,z⟩
 . refine⟨c.toList,r,⟨o,I.nB f o hk,hc,⟨n,by simpa using hs⟩,hd⟩,?_⟩
   have e:=r.length;simp only[adX]at e;omega
def lb.tuple {X:Cx}{n:lU}{H:Hp}{i:List V}(I:lb X a8 n H s)(h:fu X.K H f i):∃c:List Value,Vals i c/\IsTup s.heap f c.toArray/\i.length<=mK :=
 let⟨c,r,p,z⟩:=I.Mk h
 ⟨c,r,p.t,z⟩
def lb.mD {X:Cx}{u:lU}{H:Hp}{p:List V}{q:List V}(I:lb X a8 u H s)(h:dF X.K H f p)(v:dF X.K H f q):p=q:=by
 obtain⟨i,r,⟨o,n,e,_,_,d⟩,_⟩:=I.list h;obtain⟨its',a,⟨k,j,b,_,_,c⟩,_⟩:=I.list v;rw[e]at b;cases b;rw[d]at c;injection c with d1 _
 have:i=its':=by simpa using congrArg Array.toList d1
 subst this;exact r.inj a
def lb.nS {X:Cx}{u:lU}{H:Hp}{p:List V}{q:List V}(I:lb X a8 u H s)(h:fu X.K H f p)(v:fu X.K H f q):p=q:=by
 obtain⟨i,r,⟨o,e,_,n,d⟩,_⟩:=I.tuple h;obtain⟨its',a,⟨k,b,_,j,c⟩,_⟩:=I.tuple v;rw[e]at b;cases b;rw[d]at c;injection c with d1 _
 have:i=its':=by simpa using congrArg Array.toList d1
 subst this;exact r.inj a
noncomputable abbrev Cx.ly (X:Cx)(E:Value->lO->Prop):Cx:={ X with xe:=E }
noncomputable abbrev Cx.vY (X:Cx):Cx:=X.ly λ_ _=>False
theorem Cx.Ok.ly {X:Cx}(ok:X.Ok)(E:Value->lO->Prop):(X.ly E).Ok :=
 ⟨ok.mod,ok.kind,ok.glob,ok.blt,ok.above,ok.inj,ok.has,ok.yO,ok.hd,ok.frames,ok.vU,ok.L9,ok.bs,ok.nQ,ok.qm,ok.vV,ok.ik,ok.qJ⟩
def Cx.Ok.ji {X:Cx}(ok:(X.ly E).Ok):X.Ok :=
 ⟨ok.mod,ok.kind,ok.glob,ok.blt,ok.above,ok.inj,ok.has,ok.yO,ok.hd,ok.frames,ok.vU,ok.L9,ok.bs,ok.nQ,ok.qm,ok.vV,ok.ik,ok.qJ⟩
theorem lb.ly {X:Cx}{c:lU}{H:Hp}(I:lb X a8 c H s)(E:Value->lO->Prop):lb (X.ly E) a8 c H s:=⟨I.ok.ly E,I.os,I.bare,I.base,I.loc,I.cell,I.free,I.gM,I.pin,I.aY,I.len⟩
theorem lb.ji {X:Cx}{c:lU}{H:Hp}(I:lb (X.ly E) a8 c H s):lb X a8 c H s:=⟨I.ok.ji,I.os,I.bare,I.base,I.loc,I.cell,I.free,I.gM,I.pin,I.aY,I.len⟩
section
variable {X:Cx}
theorem SP.ji {D:Ends}{f:Flow}{c:lO}(h:SP (X.ly E) a8 D f c):SP X a8 D f c:=by
 cases f with
 |next=>obtain⟨a,b,I,q⟩:=h;exact⟨a,b,I.ji,q⟩
 |brk=>obtain⟨a,b,I,q⟩:=h;exact⟨a,b,I.ji,q⟩
 |cont=>obtain⟨a,b,I,q⟩:=h;exact⟨a,b,I.ji,q⟩
 |ret u=>obtain⟨v,a,b,I,r,q⟩:=h;exact⟨v,a,b,I.ji,r,q⟩
end
theorem ip.vY {X:Cx}{t:TS}(h:ip X.vY R t):ip X R t:=λa8 s c H D I hw =>
 ZC (h a8 s c H D (I.ly _) hw) (λ_ _ q=>q.ji) λ_ _ z=>zi z
noncomputable def AX:TS:=λD c H=>D.nx c H
noncomputable def Wz (t u:TS):TS:=λD c H=>t { D with nx:=u D } c H
def JJ {X:Cx}:ip X [] AX:=λ_ _ c H _ I h=>aeQ ⟨c,H,I,h⟩
def Fx {X:Cx}{t:TS}{u:TS}(j:qU X d t)(i:ip X R u):ip X (d::R) (Wz t u):=by
 intro a8 s n H D I h;refine wpAny_execs_cons (bf (j a8 s n H { D with nx:=u D } I h) λf s1 q=>?_);cases f with
 |next =>
  obtain⟨a,c,b,q⟩:=q;exact i a8 s1 a c D b q
 |ret v=>exact q|brk=>exact q|cont=>exact q
def JK {X:Cx}{t:TS}(a:qU X d t):ip X [d] t:=by
 intro a8 s c H D I h;refine wpAny_execs_cons (bf (a a8 s c H D I h) λf s1 q=>?_);cases f with
 |next=>exact aeQ q|ret v=>exact q|brk=>exact q|cont=>exact q
def JL {X:Cx}:qU X (.Pass pos) AX:=λ_ _ c H _ I h=>wpAny_Pass ⟨c,H,I,h⟩
def lb.quiet {X:Cx}{c:lU}{H:Hp}(I:lb X a8 c H s):interactive X.env=false:=by simp[interactive,I.ok.kind]
def Ml {X:Cx}{x j pos a}:qU X (.Expr (.Constant (.str x) j pos) a) AX:=λ_ s c H _ I h=>wpAny_Expr (ag1 (show SP X _ _ .next { s with toks:=s.toks+1 } from⟨c,H,I.tok _,h⟩)) I.quiet
noncomputable def Ry (h:TE):TS:=λD c H=>h c H λ_ i=>D.nx c i
def JM {X:Cx}{n:TE}(i:PE X e n)(f:Pr e none pos.line X.env=pure false):qU X (.Expr e pos) (Ry n):=by intro a8 s p H D I h;exact wpAny_Expr_any (bf (i a8 s p H _ I h) λv s1 ⟨x,q,a,c,b⟩=>⟨p,q,a,b⟩) I.quiet f
noncomputable def WA (c:TE):TS:=λD h H=>c h H D.rt
def Mm {X:Cx}{i:TE}(f:PE X e i):qU X (.Return (some e) pos) (WA i):=by intro a8 s n H D I h;exact wpAny_Return_some (bf (f a8 s n H _ I h) λv s1 ⟨x,p,b,a,c⟩=>⟨x,n,p,b,a,c⟩)
noncomputable def WB (c:TT)(t u:TS):TS:=λD h H=>c h H λb i=>if b=true then t D h i else u D h i
def Rz {X:Cx}{t:TS}{u:TS}{b:List Stmt}{j:TT}(k:PT X e j)(l:ip X R t)(o:ip X b u):qU X (.If e R b pos) (WB j t u):=by
 intro a8 s n H D I h;refine wpAny_If (bf (k a8 s n H _ I h) λd s1 i=>?_);obtain⟨p,c,f⟩:=i;cases d with
 |true=>exact l a8 s1 n p D c f|false=>exact o a8 s1 n p D c f
abbrev TG:=V->lU->Hp->(lU->Hp->Prop)->Prop
abbrev t8:=List V->lU->Hp->(lU->Hp->Prop)->Prop
def PG (X:Cx)(b:Expr)(t:TG):Prop :=
 ∀(a8:List (Addr×Obj)) (s:lO) (h:lU) (H:Hp) (v:V) (u:Value) (Q:lU->Hp->Prop),lb X a8 h H s->lX v u->t v h H Q ->
  wpAny (model X.prog X.w) X.A (Dd b X.env u) (λ_ a=>∃c i,lb X a8 c i a/\Q c i) X.xe s
def pN (X:Cx)(b:List Expr)(t:t8):Prop :=
 ∀(a8:List (Addr×Obj)) (s:lO) (h:lU) (H:Hp) (i:List V) (n:List Value) (Q:lU->Hp->Prop),lb X a8 h H s->Vals i n->t i h H Q ->
  wpAny (model X.prog X.w) X.A (aet ((yh b X.env).map (·.2)) n) (λ_ a=>∃c p,lb X a8 c p a/\Q c p) X.xe s
abbrev Fy:=V->V->V->Hp->(Hp->Prop)->Prop
def Fz (X:Cx)(t:Fy):Prop :=
 ∀(a8:List (Addr×Obj)) (s:lO) (c:lU) (H:Hp) (o i v:V) (h iv u:Value) (Q:Hp->Prop),lb X a8 c H s->lX o h->lX i iv->lX v u->t o i v H Q ->
  wpAny (model X.prog X.w) X.A (ahi h iv u) (λ_ a=>∃n,lb X a8 c n a/\Q n) X.xe s
abbrev HQ:=V->V->Hp->VK->Prop
def HR (X:Cx)(op:Xu)(t:HQ):Prop :=
 ∀(a8:List (Addr×Obj)) (s:lO) (c:lU) (H:Hp) (x y:V) (v u:Value) (Q:VK),lb X a8 c H s->lX x v->lX y u->t x y H Q ->
  wpAny (model X.prog X.w) X.A (inplaceOp op v u) (EP X a8 c Q) X.xe s
noncomputable def HS (i:Nat):TG:=λv c H Q=>Q (c.set i (some v)) H
def JN {X:Cx}(f:X.N.Nodup)(e:X.N[i]? = some x)(j:El X.env.scope x)(c:X.fn x=true\/X.env.scope.names.lookup x=some .local):PG X (.Name x pos) (HS i):=by intro a8 s n H v u Q I r h;exact wpAny_assign_Name (fV I f e j r (λb a=>⟨_,H,a,h⟩) c)
noncomputable def WC:t8:=λa c H Q=>a = []/\Q c H
noncomputable def RA (t:TG)(u:t8):t8:=λa h H Q=>∃v r,a=v::r/\t v h H λb c=>u r b c Q
def JO {X:Cx}:pN X [] WC:=by intro a8 s c H a i Q I r h;obtain⟨e,h⟩:=h;subst e;cases r;exact afA ⟨c,H,I,h⟩
def FC {X:Cx}{t:TG}{u:t8}(o:PG X e t)(q:pN X B u)(l:(yh (e::B) X.env).map (·.2)=Dd e X.env::(yh B X.env).map (·.2)):pN X (e::B) (RA t u):=by
 intro a8 s n H k y Q I r h;obtain⟨v,j,a,h⟩:=h;subst a;cases r with
 |cons r p =>
  rw[l];refine Zx (bf (o a8 s n H _ _ _ I r h) λ_ s1 b=>?_);obtain⟨f,x,i,c⟩:=b;exact q a8 s1 f x _ _ Q i p c
noncomputable def WD (K:n3)(n:Nat)(t:t8):TG:=λv h H Q=>∃a c,v = .ref a/\fu K H a c/\c.length=n/\t c h H Q
def Mn {X:Cx}{t:t8}(A:X.calm=true)(h:pN X B t)(C:(yh B X.env).length=o)(k:(yh B X.env).findIdx? (·.1)=none):PG X (.Tuple B i pos) (WD X.K o t):=by
 intro a8 s p H v u Q I r hw;obtain⟨a,E,f,l,J,hw⟩:=hw;subst f;cases r;obtain⟨O,c,j,z⟩:=I.tuple l;refine assign_Tuple_tuple (I.ok.hd A) j (by simp[C,<- J,c.length]) k λq x=>?_;have y:lb X a8 p H { s with heap:=q }:=I.kept (t':=s.toks) λb n e=>x b n (p8 (nC e)) e;exact h a8 _ p H E _ Q y (by simpa using c) hw
noncomputable def WE (e c:TE)(t:Fy):TG:=λv h H Q=>e h H λo n=>c h n λi b=>t o i v b λa=>Q h a
def Mp {X:Cx}{A B:TE}{t:Fy}(i:PE X e A)(E:PE X K B)(J:Fz X t)(C:∀v,Dd (.Subscript e K pos) X.env v=(do
   let n <- Ct [v] (eval e X.env);let iv <- Ct [v,n] (eval K X.env)
   ags pos
   Ct [v,n,iv] (ahi n iv v)
   release [v,n,iv] [])):PG X (.Subscript e K pos) (WE A B t):=by
 intro a8 s p H v u Q I r h;rw[C];refine la (vn (bf (i a8 s p H _ I h) λn s1 a=>?_));obtain⟨x,O,z,k,f⟩:=a;refine la (vn (bf (E a8 s1 p O _ z f) λiv R a=>?_));obtain⟨y,b,c,q,l⟩:=a;refine la (aeu (la (vn (bf (J a8 R p b x y v n iv u _ c k q r l) λ_ Y a=>?_))));obtain⟨o,j,U⟩:=a;exact wpAny_release ⟨p,o,j,U⟩
noncomputable def FD (a:TE)(g:TG):TS:=λD c H=>a c H λx h=>g x c h D.nx
def Mq {X:Cx}{i:TE}{g:TG}(k:PE X e i)(j:PG X K g)(l:TL [K] e pos.line X.env=pure false)(hw:Qh [K] e X.env=pure none)(o:(yh [K] X.env).map (·.2)= [Dd K X.env]):qU X (.Assign [K] e pos) (FD i g):=by
 intro a8 s n H D I h;refine wpAny_Assign_stores (bf (k a8 s n H _ I h) λv s1 f=>?_) l hw;obtain⟨x,p,b,a,c⟩:=f;rw[o];exact bf (j a8 s1 n p x v _ b a c) λ_ r q=>q
def Mr {X:Cx}{l:TE}(r:X.N.Nodup)(u:X.N[i]? = some x)(A:El X.env.scope x)(o:PE X e l)(z:Pr e (some (.Name x a)) pos.line X.env=pure false)(q:X.fn x=true\/X.env.scope.names.lookup x=some .local):
  qU X (.Assign [.Name x a] e pos) (FD l (HS i)):=by
 intro a8 s n H D I h;refine wpAny_Assign_Name (bf (o a8 s n H _ I h) λv s1 f=>?_) z;obtain⟨y,p,b,k,c⟩:=f;exact fV b r u A k (λB j=>⟨_,p,j,c⟩) q
noncomputable def WG (i j:Nat)(b:TA):TS:=λD c H=>b c H λa h=>∃v w,a = [v,w]/\D.nx ((c.set i (some v)).set j (some w)) h
def Ms {X:Cx}{y:Str}{j:TA}{pt:Pos}{kt k2 pt2}(O:X.calm=true)(E:X.N.Nodup)(M:X.N[i]? = some x)(Q:X.N[o]? = some y)(P:i≠o)(J:X.env.scope.names.lookup x=some .local)(C:X.env.scope.names.lookup y=some .local)(L:PA X [e,K] j)(hw:Qh [.Tuple [.Name x a,.Name y H] kt pt] (.Tuple [e,K] k2 pt2) X.env=pure (some [x,y]))(S:TL [.Tuple [.Name x a,.Name y H] kt pt] (.Tuple [e,K] k2 pt2) pos.line X.env=pure false):
  qU X (.Assign [.Tuple [.Name x a,.Name y H] kt pt] (.Tuple [e,K] k2 pt2) pos) (WG i o j):=by
 intro a8 s R Y D I h;rw[exec_Assign_arm];refine la (aeu ?_);rw[S];refine la (lr ?_);rw[if_neg (by decide)];refine la (Tuple_ (bf (L _ a8 s R Y _ I h) λZ s1 u=>?_));obtain⟨vs,U,I1,r1,f⟩:=u;obtain⟨v,w,r,f⟩:=f;subst r;obtain⟨c,n,rfl,l,vZ⟩:∃c n,Z = [c,n]/\lX v c/\lX w n:=by
  cases r1 with
  |cons p q =>
   cases q with
   |cons p' q' =>
    cases q';exact⟨_,_,rfl,p,p'⟩
 refine x3 ?_ (by show 2<=mK;decide);have z:lb X a8 R U { s1 with heap:=s1.heap.push { cls:=.type "tuple",data:=.seq [c,n].toArray } }:=I1.kept (t':=s1.toks) λK b B=>nz _ B;rw[hw];refine la (lr ?_);show wpAny (model X.prog X.w) X.A (do rule "assign.swapped-stores";let items <- unpackItems (.ref s1.heap.objs.size) 2 none;aet [λv=>OF X.env y v,λv=>OF X.env x v] items.reverse;pure ag2) _ _ _;refine la (yo (la (unpackItems_tuple (items:=#[c,n]) (I.ok.hd O) (IsTup.new s1.heap _) λh' kQ=>?_)));have I3:=z.kept (h':=h') (t':=s1.toks) λK b B=>kQ K b (p8 (nC B)) B;show wpAny _ _ (aet [λv=>OF X.env y v,λv=>OF X.env x v] [n,c] >>= λ_=>pure ag2) _ _ _;refine la (Zx (aec (fV I3 E Q (.inl C) vZ (λs2 I4=>?_) (.inr C))));refine Zx (aec (fV I4 E M (.inl J) l (λs3 k=>afA (lr ?_)) (.inr J)));rw[afu _ _ (qP P)]at k;exact⟨_,U,k,f⟩
noncomputable def WH (i:Nat)(c:TE)(b:HQ):TS:=λD h H=>∃x,h[i]? = some (some x)/\c h H λy n=>b x y n λz a=>D.nx (h.set i (some z)) a
def Mt {X:Cx}{K:TE}{E:HQ}(O:X.N.Nodup)(J:X.N[i]? = some x)(C:El X.env.scope x)(L:PE X e K)(P:HR X op E)(M:X.fn x=true\/X.env.scope.names.lookup x=some .local):
   qU X (.AugAssign (.Name x a) op e pos) (WH i K E):=by
 intro a8 s n H D I h;obtain⟨v,f,h⟩:=h;obtain⟨m,b,p⟩:=I.loc;have Q:Cr X.env.scope x:=by rcases C with k|k;exact .inl k;exact .inr (.inl k)
 obtain⟨u,r,l⟩:=p i x v J f Q;refine wpAny_AugAssign_Name ?_;have go:wpAny (model X.prog X.w) X.A (eval e X.env) (λw j=>wpAny (model X.prog X.w) X.A (inplaceOp op u w) (λr s₃=>wpAny (model X.prog X.w) X.A (storeName X.env x r) (λ_=>SP X a8 D .next) X.xe s₃) X.xe j) X.xe s:=by refine bf (L a8 s n H _ I h) λw s1 B=>?_;obtain⟨y,R,U,Y,q1⟩:=B;refine bf (P a8 s1 n R v y u w _ U r Y q1) λz s2 B=>?_;obtain⟨zv,o,q,Z,q2⟩:=B;exact fV q O J C Z (λs3 I3=>⟨_,o,I3,q2⟩) M
 rcases l with⟨hk,hm⟩|⟨hk,c,hc,gq⟩
 . exact aeP I.ok.kind hk b hm go
 . rcases hk with hk|hk
   . exact ae0 I.ok.kind hk hc gq go
   . rcases C with k|k
     . have:X.env.scope.names.lookup x=some .free:=hk
       rw[k]at this;cases this
     . have:X.env.scope.names.lookup x=some .free:=hk
       rw[k]at this;cases this
noncomputable def Mu (f:Int->Int->Int):HQ:=λx y H Q=>∃i j,x = .int i/\y = .int j/\Q (.int (f i j)) H
def Mw {X:Cx}:HR X .Add (Mu λi j=>i+j):=by intro a8 s n H x y v u Q I b e h;obtain⟨i,j,a,c,q⟩:=h;subst a;subst c;obtain⟨t,rfl⟩:=b;obtain⟨f,rfl⟩:=e;exact iadd_int ⟨.int _,H,I.tok _,⟨_,rfl⟩,q⟩
def Mx {X:Cx}:HR X .Sub (Mu λi j=>i-j):=by intro a8 s n H x y v u Q I b e h;obtain⟨i,j,a,c,q⟩:=h;subst a;subst c;obtain⟨t,rfl⟩:=b;obtain⟨f,rfl⟩:=e;exact isub_int ⟨.int _,H,I.tok _,⟨_,rfl⟩,q⟩
noncomputable def My (c:TT)(tb:TS):TS:=λD h H=>∃W:Nat->lU->Hp->Prop,(∃m,W m h H) /\ ∀m h H,W m h H ->
 c h H λb n=>if b=true then ∃N:lU->Hp->Prop,(∀i p,N i p->∃q,q < m/\W q i p)/\tb { D with nx:=N,ct:=N,bk:=D.nx } h n else D.nx h n
def FF {X:Cx}{C:TT}{tb:TS}(B:ZF (model X.prog X.w) X.A X.env X.xe)(E:PT X e C)(J:ip X R tb):qU X (.While e R [] pos) (My C tb):=by
 intro a8 s U H D I h;obtain⟨W,⟨Y,Z⟩,turn⟩:=h;refine wpAny_While (codeAny_whileLoop (λn z=>∃p O,lb X a8 p O z/\W n p O) ?_ Y ⟨U,H,I,Z⟩);rintro n s1 ⟨j,Q,I1,w1⟩;refine Vu B (bf (E a8 s1 j Q _ I1 (turn n j Q w1)) λb s2 aS=>?_);obtain⟨u,x,i⟩:=aS;cases b with
 |true =>
  obtain⟨N,y,i⟩:=i;rw[if_pos rfl];refine Vu B (bf (J a8 s2 j u _ x i) λf s3 k=>?_);cases f with
  |next =>
   obtain⟨c,a,l,q⟩:=k;obtain⟨r,hm,o⟩:=y c a q;exact⟨r,hm,c,a,l,o⟩
  |cont =>
   obtain⟨c,a,l,q⟩:=k;obtain⟨r,hm,o⟩:=y c a q;exact⟨r,hm,c,a,l,o⟩
  |brk=>exact k|ret v=>exact k
 |false =>
  rw[if_neg L3];exact aeQ ⟨j,u,x,i⟩
structure It where
 go:Nat->Hp->Prop
 Cw:Nat->Hp->V->Hp->Prop
 stop:Nat->Hp->Prop
noncomputable def fW (X:Cx)(a8:List (Addr×Obj))(H:Hp)(b:Addr):Prop :=
 H b=none/\b≠X.env.locals/\b ∉ X.fs/\(b∈X.ex\/X.s₀.heap.objs.size<=b)/\(∀x c,X.env.cells.lookup x=some c->c≠b) /\ ∀p∈X.pn++a8,p.1≠b
def lb.nT {X:Cx}{i:lU}{H H':Hp}{b:Addr}(I:lb X a8 i H s)(f:s.heap.objs.size<=b)(h:H' b=none):fW X a8 H' b:=by
 refine⟨h,aeR (uf I.lt f),I.Wq f,.inr (pe I.sz f),λx c e z=>?_,λp a z=>?_⟩
 . obtain⟨v,q⟩:=I.cell x c e
   exact absurd (uf q.lt (by rw[z];exact f)) (B5 _)
 . exact absurd (uf (nC (I.pin p a).1) (by rw[z];exact f)) (B5 _)
structure Turn (P:te)(w:World)(K:n3)(tg:Expr)(J:It)(fp:List Addr)(it:Addr)(tn:Nat->Heap->Prop):Prop where
 mem:it∈fp
 obj:∀i h,tn i h->∀b∈fp,∃o,h.get? b=some o /\ ∀v,o.data ≠ .cell v
 keep:∀i h h',tn i h->(∀b∈fp,∀o,h.get? b=some o->h'.get? b=some o)->tn i h'
 item:∀(X:Cx),X.prog=P->X.w=w->X.K=K->X.calm=true->∀(i:Nat) (a8:List (Addr×Obj)) (s:lO) (σ:lU) (H:Hp) (E:Value->lO->Prop),lb X a8 σ H s->(∀b∈fp,fW X a8 H b)->tn i s.heap->J.go i H ->
  wpAny (model P w) X.A (Dv (.ref it)) (λr s1=>∃u,r=some u /\
   wpAny (model P w) X.A (af_ tg (.ref it) u) (λ_ s2=>∃x H',lb X a8 σ H' s2/\lX x u/\J.Cw i H x H'/\tn (i+1) s2.heap /\ ∀b∈fp,H' b=none) E s1) E s
 done:∀(X:Cx),X.prog=P->X.w=w->X.K=K->X.calm=true->∀(i:Nat) (a8:List (Addr×Obj)) (s:lO) (σ:lU) (H:Hp) (E:Value->lO->Prop),lb X a8 σ H s->(∀b∈fp,fW X a8 H b)->tn i s.heap->J.stop i H ->
  wpAny (model P w) X.A (Dv (.ref it)) (λr s1=>r=none/\lb X a8 σ H s1) E s
 self:∀(A:og) (i:Nat) (s:lO) (Q:Value->lO->Prop) (E:Value->lO->Prop),tn i s.heap->Q (.ref it) s->wpAny (model P w) A (SJ (.ref it)) Q E s
abbrev TI:=lU->Hp->(It->Hp->Prop)->Prop
def Mz (X:Cx)(a8:List (Addr×Obj))(p:lU)(tg:Expr)(R:It->Hp->Prop)(c:Value)(a:lO):Prop :=
 ∃(it:Addr) (i:List Addr) (n:Nat->Heap->Prop) (J:It) (h:Hp),c = .ref it/\lb X a8 p h a/\Turn X.prog X.w X.K tg J i it n/\n 0 a.heap/\(∀b∈i,fW X a8 h b)/\R J h
def PI (X:Cx)(tg a:Expr)(b:TI):Prop :=
 ∀(a8:List (Addr×Obj)) (s:lO) (c:lU) (H:Hp) (R:It->Hp->Prop),lb X a8 c H s->b c H R ->
  wpAny (model X.prog X.w) X.A (eval a X.env) (λv s1=>wpAny (model X.prog X.w) X.A (SJ v) (Mz X a8 c tg R) X.xe s1) X.xe s
def AY (i : s.heap.get? f = some c)(A : c.cls = .type n)(tg : c.data = .fields p)(M : ["enumerate", "zip", "dict_itemiterator", "dict_reverseitemiterator", "odict_iterator", "itertools.zip_longest", "itertools.pairwise"].contains n = false)(a : y () s): wpAny r T (af_ e (.ref f) u) y E s := by
 unfold af_;cases e <;> first
   |exact lr a
   | (cases u <;> first
       |exact lr a
       | (refine la (wpAny_load i ?_)
          rw[A, tg];show wpAny r T (if (["enumerate", "zip", "dict_itemiterator", "dict_reverseitemiterator", "odict_iterator", "itertools.zip_longest", "itertools.pairwise"].contains n && p[0]? == some (zk _))= true then _ else _) y E s;rw[if_neg (by intro h; rw[M, ah7]at h; cases h)];exact lr a))
noncomputable def HU (K:n3)(a:Addr):It :=
 ⟨λi H=>∃c x,dF K H a c/\c[i]? = some x,λi H x b=>b=H /\ ∀c,dF K H a c->c[i]? = some x,λi H=>∃c,dF K H a c/\c.length<=i⟩
noncomputable def MB (K:n3)(a:Addr):It :=
 ⟨λi H=>∃c x,fu K H a c/\c[i]? = some x,λi H x b=>b=H /\ ∀c,fu K H a c->c[i]? = some x,λi H=>∃c,fu K H a c/\c.length<=i⟩
noncomputable def Cy (b:Int)(n:Nat):It:=⟨λi _=>i<n,λi H x a=>a=H/\x = .int (b+i),λi _=>n<=i⟩
def Cz (a it:Addr):Turn q v C e (HU C a) [it] it (λi h=>h.IsListIter it a i) where
 mem:=by simp
 obj:=λi h st b f=>by
  have w:b=it:=by simpa using f
  subst w;obtain⟨o,w,c,d⟩:=st;exact⟨o,w,λP z=>by rw[d]at z;cases z⟩
 keep:=λi h l st k=>st.at λo w=>k it (by simp) o w
 item:=by intro X K hw hK hc i a8 s σ H E I hf st hg;subst K hw hK;obtain⟨xs,x,j,hx⟩:=hg;obtain⟨aw,r,p,hz⟩:=I.list j;obtain⟨u,hu,ru⟩:=r.get hx;obtain⟨f0,f1,f2,y,f4,f5⟩:=hf it (by simp);refine agf st p.isList (x:=u) (by simpa using hu) λl t_ sb=>?_;have I1:lb X a8 σ H { s with heap:=l }:=I.turned (t':=s.toks) (λb o f w=>(sb.2 b f).trans w) f0 f1 y f4 f5;obtain⟨o,w,c,d⟩:=id t_;exact⟨u,rfl,AY (s:={ s with heap:=l }) w c d (by decide) ⟨x,H,I1,ru,⟨rfl,λys hy=>by rw[I.mD hy j];exact hx⟩,t_,λb f=>(hf b f).1⟩⟩
 done:=by intro X K hw hK hc i a8 s σ H E I hf st hg;subst K hw hK;obtain⟨xs,j,hx⟩:=hg;obtain⟨aw,r,p,hz⟩:=I.list j;obtain⟨f0,f1,f2,y,f4,f5⟩:=hf it (by simp);have hl:=r.length;exact agt (I.ok.hd hc) st p.isList (by simp;omega) λl eb=>⟨rfl,I.turned (t':=s.toks) (λb o f w=>eb b o f w) f0 f1 y f4 f5⟩
 self:=λ_ _ _ _ _ st h=>wpAny_pyIter_listiter st h
def AZ (a it:Addr):Turn q v C e (MB C a) [it] it (λi h=>h.IsTupleIter it a i) where
 mem:=by simp
 obj:=λi h st b f=>by
  have w:b=it:=by simpa using f
  subst w;obtain⟨o,w,c,d⟩:=st;exact⟨o,w,λP z=>by rw[d]at z;cases z⟩
 keep:=λi h l st k=>st.at λo w=>k it (by simp) o w
 item:=by intro X K hw hK hc i a8 s σ H E I hf st hg;subst K hw hK;obtain⟨xs,x,j,hx⟩:=hg;obtain⟨aw,r,p,hz⟩:=I.tuple j;obtain⟨u,hu,ru⟩:=r.get hx;obtain⟨f0,f1,f2,y,f4,f5⟩:=hf it (by simp);refine wpAny_pyNext_tuple_item st (show s.heap.IsTuple a aw.toArray from p) (x:=u) (by simpa using hu) λl t_ sb=>?_;have I1:lb X a8 σ H { s with heap:=l }:=I.turned (t':=s.toks) (λb o f w=>(sb.2 b f).trans w) f0 f1 y f4 f5;obtain⟨o,w,c,d⟩:=id t_;exact⟨u,rfl,AY (s:={ s with heap:=l }) w c d (by decide) ⟨x,H,I1,ru,⟨rfl,λys hy=>by rw[I.nS hy j];exact hx⟩,t_,λb f=>(hf b f).1⟩⟩
 done:=by intro X K hw hK hc i a8 s σ H E I hf st hg;subst K hw hK;obtain⟨xs,j,hx⟩:=hg;obtain⟨aw,r,p,hz⟩:=I.tuple j;obtain⟨f0,f1,f2,y,f4,f5⟩:=hf it (by simp);have hl:=r.length;exact wpAny_pyNext_tuple_end (I.ok.hd hc) st (show s.heap.IsTuple a aw.toArray from p) (by simp;omega) λl eb=>⟨rfl,I.turned (t':=s.toks) (λb o f w=>eb b o f w) f0 f1 y f4 f5⟩
 self:=λ_ _ _ _ _ st h=>wpAny_pyIter_tupleiter st h
def A0 {w:World}(it:Addr)(A:Int)(n:Nat):Turn q w C e (Cy A n) [it] it (λi h=>IsRangeIter h it (A+(i:Nat)*1) ((n:Int)-(i:Nat)) 1) where
 mem:=by simp
 obj:=λi h st b a=>by
  have P:b=it:=by simpa using a
  subst P;exact⟨_,st,λv z=>by have z':Data.fields _=aff v:=z;cases z'⟩
 keep:=λi h c st k=>k it (by simp) _ st
 item:=by intro X f hw u r i a8 s σ H E I hf st l;subst f hw u;obtain⟨f0,f1,f2,j,f4,K⟩:=hf it (by simp);have W:=Walks.range (prog:=X.prog) (w:=X.w) (I.ok.hd r) it A 1 n;refine W.item i s _ _ l st λv c x hv y kk=>?_;obtain⟨t,rfl⟩:=hv;have I1:lb X a8 σ H { s with heap:=c,toks:=x }:=I.turned (λb o a P=>kk b o (by simpa using a) P) f0 f1 j f4 K;refine⟨_,rfl,AY (s:={ s with heap:=c,toks:=x }) (n:="range_iterator") y rfl rfl (by decide) ⟨.int (A+i),H,I1,⟨t,?_⟩,⟨rfl,rfl⟩,y,λb a=>(hf b a).1⟩⟩;rw[Int.mul_one]
 done:=by intro X f hw u r i a8 s σ H E I hf st l;subst f hw u;obtain⟨f0,f1,f2,j,f4,K⟩:=hf it (by simp);exact wpAny_pyNext_range_end (I.ok.hd r) st (by have:n<=i:=l;omega) λc eb=>⟨rfl,I.turned (t':=s.toks) (λb o a P=>eb b o a P) f0 f1 j f4 K⟩
 self:=λ_ _ _ _ _ st h=>wpAny_pyIter_rangeiter st h
noncomputable def RB (K:n3)(b:TE):TI:=λh H R=>b h H λx c=>∃a,x = .ref a/\(∃i,dF K c a i)/\R (HU K a) c
noncomputable def WI (K:n3)(b:TE):TI:=λh H R=>b h H λx c=>∃a,x = .ref a/\(∃i,fu K c a i)/\R (MB K a) c
def yR {X:Cx}{A:TE}(B:PE X e A):PI X K e (RB X.K A):=by
 intro a8 s n H R I h;refine bf (B a8 s n H _ I h) λv s1 f=>?_;obtain⟨x,C,c,r,j⟩:=f;obtain⟨a,l,⟨E,k⟩,q⟩:=j;subst l;cases r;obtain⟨z,u,p,y⟩:=c.list k;refine ael p.isList ?_;refine⟨s1.heap.objs.size,[s1.heap.objs.size],_,_,C,rfl,c.kept (t':=s1.toks) λb o l=>nz _ l,Cz a _,⟨_,pR _ rfl,rfl,rfl⟩,λb i=>?_,q⟩;have l:b=s1.heap.objs.size:=by simpa using i
 subst l;exact c.nT (mn _) (c.aY.fresh (mn _))
def MC {X:Cx}{A:TE}(B:PE X e A):PI X K e (WI X.K A):=by
 intro a8 s n H R I h;refine bf (B a8 s n H _ I h) λv s1 f=>?_;obtain⟨x,C,c,r,j⟩:=f;obtain⟨a,l,⟨E,k⟩,q⟩:=j;subst l;cases r;obtain⟨u,y,p,z⟩:=c.tuple k;refine wpAny_pyIter_tuple (show s1.heap.IsTuple a u.toArray from p) ?_;refine⟨s1.heap.objs.size,[s1.heap.objs.size],_,_,C,rfl,c.kept (t':=s1.toks) λb o l=>nz _ l,AZ a _,⟨_,pR _ rfl,rfl,rfl⟩,λb i=>?_,q⟩;have l:b=s1.heap.objs.size:=by simpa using i
 subst l;exact c.nT (mn _) (c.aY.fresh (mn _))
def v9 {X:Cx}{x:lU}{H:Hp}{R:It->Hp->Prop}{n:Int}{t u v:Tok}(I:lb X a8 x H s)(l:-(2 ^ 62)<=M)(r:M<2 ^ 62)(k:-(2 ^ 62)<=n)(j:n<2 ^ 62)(q:R (Cy M (n-M).toNat) H):wpAny (model X.prog X.w) X.A (SJ (.ref s.heap.objs.size)) (Mz X a8 x e R) E { s with heap:=s.heap.push { cls:=.type "range",data:=.fields #[.int M t,.int n u,.int 1 v] },toks:=i }:=by
 refine wpAny_pyIter_range (IsRange.new ..) (small_one l r k j) ?_;have a:lb X a8 x H { s with heap:=s.heap.push { cls:=.type "range",data:=.fields #[.int M t,.int n u,.int 1 v] },toks:=i }:=I.kept λb o p=>nz _ p;refine⟨(s.heap.push { cls:=.type "range",data:=.fields #[.int M t,.int n u,.int 1 v] }).objs.size,[(s.heap.push { cls:=.type "range",data:=.fields #[.int M t,.int n u,.int 1 v] }).objs.size],_,_,H,rfl,
   a.kept (t':=i) λb o p=>nz _ p,A0 _ M (n-M).toNat,?_,λb c=>?_,q⟩
 . have h:M+((0:Nat):Int)*1=M:=by simp
   have f:(((n-M).toNat:Nat):Int)-((0:Nat):Int)=Builtin.Range.rangeSize M n 1:=by rw[rangeSize_one];split<;>omega
   show IsRangeIter _ _ (M+((0:Nat):Int)*1) ((((n-M).toNat:Nat):Int)-((0:Nat):Int)) 1;rw[h,f];exact pR _ rfl
 . have p:b=(s.heap.push { cls:=.type "range",data:=.fields #[.int M t,.int n u,.int 1 v] }).objs.size:=by simpa using c
   subst p;exact a.nT (mn _) (a.aY.fresh (mn _))
noncomputable def RC (b:TA):TI:=λc H R=>b c H λa h=>∃j:Int,a = [.int j] /\ -(2 ^ 62)<=j/\j<2 ^ 62/\R (Cy 0 j.toNat) h
noncomputable def RE (b:TA):TI:=λc H R=>b c H λa h=>∃i j:Int,a = [.int i,.int j]/\(-(2 ^ 62)<=i/\i<2 ^ 62 /\ -(2 ^ 62)<=j/\j<2 ^ 62)/\R (Cy i (j-i).toNat) h
def CA {X:Cx}{u:TA}(v:Gl X "range")(x:X.mg "range" = none)(y:PA X [e] u)(z:m2 [e] X.env = [(false,eval e X.env)]):PI X K (.Call (.Name "range" a) [e] [] H) (RC u):=by
 intro a8 s n p R I h;refine Call_ (jh I v x boot_range (ZP (bf (y H a8 s n p _ I h) λC s1 c=>?_) z rfl) (by decide) (by decide));obtain⟨l,E,k,f,b⟩:=c;obtain⟨j,o,b,i,q⟩:=b;subst o;cases f with
 |cons r B =>
  cases B;obtain⟨t,rfl⟩:=r;exact call_range_1 (v9 k (by omega) (by omega) b i (by simpa using q))
def CB {X:Cx}{tg:Expr}{B:TA}(C:Gl X "range")(E:X.mg "range" = none)(J:PA X [e,K] B)(b:m2 [e,K] X.env = [(false,eval e X.env),(false,eval K X.env)])(A:m2 [K] X.env = [(false,eval K X.env)]):
  PI X tg (.Call (.Name "range" a) [e,K] [] H) (RE B):=by
 intro a8 s O p R I h;refine Call_ (jh I C E boot_range (ZP (bf (J H a8 s O p _ I h) λU s1 f=>?_) (by rw[b,A]) (by rw[A];rfl)) (by decide) (by decide));obtain⟨y,Y,u,l,c⟩:=f;obtain⟨i,j,z,⟨c,o,v,k⟩,q⟩:=c;subst z;cases l with
 |cons r n =>
  cases n with
  |cons Q n =>
   cases n;obtain⟨t,rfl⟩:=r;obtain⟨x,rfl⟩:=Q;exact call_range_2 (v9 u c o v k q)
noncomputable def WJ (c:TI)(g:TG)(tb:TS):TS:=λD h H=>c h H λJ r=>∃W:Nat->Nat->lU->Hp->Prop,(∃m,W 0 m h r) /\ ∀i m h H,W i m h H ->
 (J.stop i H/\D.nx h H)\/(J.go i H /\ ∃N:lU->Hp->Prop,(∀n p,N n p->∃q,q < m/\W (i+1) q n p) /\ ∀x p,J.Cw i H x p->g x h p λa b=>tb { D with nx:=N,ct:=N,bk:=D.nx } a b)
noncomputable def nU (c:List Addr)(h:Heap):List (Addr×Obj):=c.filterMap λb=>(h.get? b).map λo=>(b,o)
def jO (a:f∈U)(e:z.get? f=some c):(f,c)∈nU U z:=Ql.mpr ⟨f,a,by rw[e];rfl⟩
def CC {p:Addr×Obj}(f:p∈nU U z):p.1∈U/\z.get? p.1=some p.2:=by
 obtain⟨b,c,e⟩:=Ql.mp f;cases q:z.get? b with
 |none=>rw[q]at e;cases e
 |some o =>
  rw[q]at e;have a:(b,o)=p:=Az e;subst a;exact⟨c,q⟩
def lb.pinned {X:Cx}{n:lU}{H:Hp}(I:lb X a8 n H s)(h:∀b∈U,fW X a8 H b)(i:∀b∈U,∃o,s.heap.get? b=some o /\ ∀v,o.data ≠ .cell v):lb X (a8++nU U s.heap) n H s :=
 I.yQ λp f=>(m3.mp f).elim (λz=>I.pin p (Ib _ z)) λz=>by obtain⟨c,e⟩:=CC z;obtain⟨q,r,u,_⟩:=h p.1 c;obtain⟨o,a,d⟩:=i p.1 c;rw[e]at a;cases a;exact⟨e,q,r,u,d⟩
def lb.mF {X:Cx}{c:lU}{H:Hp}(I:lb X (a8++b) c H s):lb X a8 c H s:=I.yQ λp a=>I.pin p (Ib _ (aeM _ a))
def MD {X:Cx}{M:TI}{g:TG}{tb:TS}(E:ZF (model X.prog X.w) X.A X.env X.xe)(L:X.calm=true)(P:PI X K e M)(O:PG X K g)(B:ip X R tb)(Q:∀x,A8 e X.env x=pure x):qU X (.For K e R [] a) (WJ M g tb):=by
 intro a8 s σ H D I h;refine wpAny_For (bf (P a8 s σ H _ I h) λv s1 h1=>bf h1 λMA s2 h2=>?_) Q;obtain⟨it,z,tn,J,H2,body,I2,T,ME,f2,W,⟨m0,w0⟩,turn⟩:=h2;subst body;have Z:∀{U:Hp},(∀b∈z,U b=none)->∀b∈z,fW X a8 U b:=λhn b B=>⟨hn b B,(f2 b B).2⟩
 refine codeAny_forLoop_any (λn s'=>∃i p U,lb X a8 p U s'/\tn i s'.heap/\(∀b∈z,U b=none)/\W i n p U) ?_ m0 ⟨0,σ,H2,I2,ME,λb B=>(f2 b B).1,w0⟩;rintro n s3 ⟨i,y,Y,I3,Uk,Ul,w3⟩;rcases turn i n y Y w3 with⟨stop,qn⟩|⟨go,N,hN,step⟩
 . refine Vu E (bf (T.done X rfl rfl rfl L i a8 s3 y Y X.xe I3 (Z Ul) Uk stop) λr s4 l=>?_)
   obtain⟨hr,I4⟩:=l;subst hr;exact aeQ ⟨y,Y,I4,qn⟩
 . refine Vu E (bf (T.item X rfl rfl rfl L i a8 s3 y Y X.xe I3 (Z Ul) Uk go) λr s4 l=>?_)
   obtain⟨u,hr,h4⟩:=l;subst hr;refine Vu E (bf h4 λ_ s5 l=>?_);obtain⟨x,H5,I5,r5,y5,MF,MG⟩:=l;have ab:=I5.pinned (Z MG) (T.obj _ _ MF);refine Vu E (bf (O _ s5 y H5 x u _ ab r5 (step x H5 y5)) λ_ s6 l=>?_);obtain⟨σ6,H6,I6,q6⟩:=l;refine Vu E (bf (B _ s6 σ6 H6 _ I6 q6) λf s7 k=>?_);have again:∀{j:lU} {c:Hp},lb X (a8++nU z s5.heap) j c s7->N j c->∃m,m<n /\ ∃i p U,lb X a8 p U s7/\tn i s7.heap/\(∀b∈z,U b=none)/\W i m p U:=fun {j c} C q=>by obtain⟨m',hm,w7⟩:=hN j c q;refine⟨m',hm,i+1,j,c,C.mF,T.keep _ _ _ MF λb B o body=>(C.pin (b,o) (Ib _ (Ib _ (jO B body)))).1,λb B=>?_,w7⟩;obtain⟨o,body,d⟩:=T.obj _ _ MF b B;exact(C.pin (b,o) (Ib _ (Ib _ (jO B body)))).2.1
   cases f with
   |next=>obtain⟨j,c,C,q⟩:=k;exact again C q
   |cont=>obtain⟨j,c,C,q⟩:=k;exact again C q
   |brk=>obtain⟨j,c,C,k⟩:=k;exact⟨j,c,C.mF,k⟩
   |ret v=>obtain⟨x7,j,c,C,r7,k⟩:=k;exact⟨x7,j,c,C.mF,r7,k⟩
abbrev R2:=V->V->Hp->VK->Prop
def bS (X:Cx)(f:Value->Value->Sem Value)(r:R2):Prop :=
 ∀(a8:List (Addr×Obj)) (s:lO) (c:lU) (H:Hp) (x y:V) (v u:Value) (Q:VK),lb X a8 c H s->lX x v->lX y u->r x y H Q ->
  wpAny (model X.prog X.w) X.A (f v u) (EP X a8 c Q) X.xe s
def CD (X:Cx)(f:Value->Sem Value)(r:V->Hp->VK->Prop):Prop :=
 ∀(a8:List (Addr×Obj)) (s:lO) (c:lU) (H:Hp) (x:V) (v:Value) (Q:VK),lb X a8 c H s->lX x v->r x H Q ->
  wpAny (model X.prog X.w) X.A (f v) (EP X a8 c Q) X.xe s
def dX (X:Cx)(f:Value)(r:List V->Hp->VK->Prop):Prop :=
 ∀(a8:List (Addr×Obj)) (s:lO) (c:lU) (H:Hp) (h:List V) (i:List Value) (Q:VK),lb X a8 c H s->Vals h i->r h H Q ->
  wpAny (model X.prog X.w) X.A (call f i) (EP X a8 c Q) X.xe s
def WK (X:Cx)(r:V->Hp->(Bool->Hp->Prop)->Prop):Prop :=
 ∀(a8:List (Addr×Obj)) (s:lO) (c:lU) (H:Hp) (x:V) (v:Value) (Q:Bool->Hp->Prop),lb X a8 c H s->lX x v->r x H Q ->
  wpAny (model X.prog X.w) X.A (truthy v) (TP X a8 c Q) X.xe s
noncomputable def CF (r:R2)(b tb:TE):TE:=λc H Q=>b c H λx h=>tb c h λy a=>r x y a Q
noncomputable def Zl (r:V->Hp->VK->Prop)(a:TE):TE:=λc H Q=>a c H λx h=>r x h Q
noncomputable def rI (C:Int->Int->Prop)(g:Int->Int->V):R2:=λx y H Q=>∃i j,x = .int i/\y = .int j/\C i j/\Q (g i j) H
noncomputable def pO (g:Int->Int->V):R2:=λx y H Q=>∃i j,x = .int i/\y = .int j/\Q (g i j) H
noncomputable def rU (g:Int->V):V->Hp->VK->Prop:=λx H Q=>∃i,x = .int i/\Q (g i) H
def FH {f:Cx}{E:TE}{tb:TE}(r:PE f e E)(z:PE f K tb){n:lU}{H:Hp}{R:V->V->Hp->Prop}(I:lb f a8 n H s)(h:E n H λx C=>tb n C λy p=>R x y p)(q:∀v u B x y p,lb f a8 n p B->lX x v->lX y u->R x y p->wpAny (model f.prog f.w) f.A (X v u) Q f.xe B):
  wpAny (model f.prog f.w) f.A (eval e f.env) (λv s₁=>wpAny (model f.prog f.w) f.A (eval K f.env) (λu s₂=>wpAny (model f.prog f.w) f.A (X v u) Q f.xe s₂) f.xe s₁) f.xe s:=by
 refine bf (r a8 s n H _ I h) λv s1 c=>?_;obtain⟨x,C,j,a,k⟩:=c;refine bf (z a8 s1 n C _ j k) λu B c=>?_;obtain⟨y,p,o,l,i⟩:=c;exact q v u B x y p o a l i
def RF {X:Cx}{n:TE}{tb:TE}{r:R2}(l:bS X (th op) r)(j:PE X e n)(k:PE X K tb):PE X (.BinOp e op K pos) (CF r n tb):=by intro a8 s p H Q I h;exact wpAny_BinOp (FH j k I h λv u B x y a f c i q=>l a8 B p a x y v u Q f c i q)
def RG {X:Cx}{n:TE}{op:UnaryOp}{r:V->Hp->VK->Prop}(f:CD X (unaryOp op) r)(i:PE X e n):PE X (.UnaryOp op e pos) (Zl r n):=by intro a8 s p H Q I h;exact UnaryOp_ (bf (i a8 s p H _ I h) λv s1 ⟨x,q,c,b,a⟩=>f a8 s1 p q x v Q c b a)
def HW {f:Cx}{C:Int->Int->Prop}(k:∀(i j:Int) (t u:Tok) (s:lO) (Q:Value->lO->Prop) (E:Value->lO->Prop),C i j->Q (.int (g i j) s.toks) { s with toks:=s.toks+1 }->wpAny (model f.prog f.w) f.A (X (.int i t) (.int j u)) Q E s):
  bS f X (rI C λi j=>.int (g i j)):=by
 intro a8 s n H x y v u Q I b e h;obtain⟨i,j,rfl,rfl,c,q⟩:=h;obtain⟨t,rfl⟩:=b;obtain⟨a,rfl⟩:=e;exact k i j t a s _ _ c ⟨.int (g i j),H,I.tok _,⟨_,rfl⟩,q⟩
def MH {f:Cx}(e:∀(i j:Int) (t u:Tok) (s:lO) (Q:Value->lO->Prop) (E:Value->lO->Prop),Q (.int (g i j) s.toks) { s with toks:=s.toks+1 }->wpAny (model f.prog f.w) f.A (X (.int i t) (.int j u)) Q E s):
  bS f X (pO λi j=>.int (g i j)):=by
 intro a8 s n H x y v u Q I b c h;obtain⟨i,j,rfl,rfl,q⟩:=h;obtain⟨t,rfl⟩:=b;obtain⟨a,rfl⟩:=c;exact e i j t a s _ _ ⟨.int (g i j),H,I.tok _,⟨_,rfl⟩,q⟩
def A1 {f:Cx}{g:Int->Int->Bool}(e:∀(i j:Int) (t u:Tok) (s:lO) (Q:Value->lO->Prop) (E:Value->lO->Prop),Q (.bool (g i j)) s->wpAny (model f.prog f.w) f.A (X (.int i t) (.int j u)) Q E s):
  bS f X (pO λi j=>.bl (g i j)):=by
 intro a8 s n H x y v u Q I b c h;obtain⟨i,j,rfl,rfl,q⟩:=h;obtain⟨t,rfl⟩:=b;obtain⟨a,rfl⟩:=c;exact e i j t a s _ _ ⟨.bl (g i j),H,I,rfl,q⟩
def WL (i j:Int):Prop:=0<j/\j<1073741824
def WM (i j:Int):Prop:=0<=j/\j<=1000000/\i.natAbs<2 ^ 64
def FJ (i j:Int):Prop:=(-(2 ^ 64)<i/\i<2 ^ 64)\/(-(2 ^ 64)<j/\j<2 ^ 64)
def FJ.ok {j:Int}(h:FJ M j):IntMulOk M j:=by
 rcases h with⟨h1,h2⟩|⟨h1,h2⟩
 . exact .of_left (intBits_le_64 h1 h2)
 . exact .of_right (intBits_le_64 h1 h2)
def MI {X:Cx}:bS X (th .Add) (pO λi j=>.int (i+j)):=MH λ_ _ _ _ _ _ _ q=>add_int q
def MJ {X:Cx}:bS X (th .Sub) (pO λi j=>.int (i-j)):=MH λ_ _ _ _ _ _ _ q=>sub_int q
def MK {X:Cx}:bS X (th .Mult) (rI FJ λi j=>.int (i*j)):=HW λ_ _ _ _ _ _ _ a q=>mul_int q a.ok
def JP {X:Cx}:bS X (th .FloorDiv) (rI WL λi j=>.int (i / j)):=HW λi j _ _ _ _ _ a q=>by have b:(0:Int)<j:=a.1;have c:j<1073741824:=a.2;exact floordiv_int (by omega) (by rw[Int.fdiv_eq_ediv_of_nonneg i (by omega)];exact q) (.inl (PyProof.noPylong_small (by omega)))
def ML {X:Cx}:bS X (th .Mod) (rI (λ_ j=>0<j) λi j=>.int (i % j)):=HW λi j _ _ _ _ _ a q=>by have b:(0:Int)<j:=a;exact mod_int' (by omega) (by rw[Int.fmod_eq_emod_of_nonneg i (by omega)];exact q)
def MM {X:Cx}:bS X (th .Pow) (rI WM λi j=>.int (i ^ j.toNat)):=HW λ_ _ _ _ _ _ _ a q=>pow_int_small a.1 a.2.1 a.2.2 q
def Zm {X:Cx}{f:Value->Sem Value}{g:Int->Int}(e:∀(i:Int) (t:Tok) (s:lO) (Q:Value->lO->Prop) (E:Value->lO->Prop),Q (.int (g i) s.toks) { s with toks:=s.toks+1 }->wpAny (model X.prog X.w) X.A (f (.int i t)) Q E s):
  CD X f (rU λi=>.int (g i)):=by
 intro a8 s c H x v Q I a h;obtain⟨i,rfl,q⟩:=h;obtain⟨t,rfl⟩:=a;exact e i t s _ _ ⟨.int (g i),H,I.tok _,⟨_,rfl⟩,q⟩
def MN {X:Cx}:CD X (unaryOp .USub) (rU λi=>.int (-i)):=Zm λ_ _ _ _ _ q=>neg_int q
def CG {X:Cx}{c:lU}{H:Hp}{Q:VK}{k f:Bool}(I:lb X a8 c H s)(q:Q (.bl k) H)(e:k=f):EP X a8 c Q (.bool f) s:=by subst e;exact⟨.bl k,H,I,rfl,q⟩
def RH {X:Cx}:bS X (tA .Lt) (pO λi j=>.bl (decide (i<j))):=A1 λ_ _ _ _ _ _ _ q=>lt_int q
def RJ {X:Cx}:bS X (tA .LtE) (pO λi j=>.bl (decide (i<=j))):=A1 λ_ _ _ _ _ _ _ q=>le_int q
def RK {X:Cx}:bS X (tA .Gt) (pO λi j=>.bl (decide (j<i))):=A1 λ_ _ _ _ _ _ _ q=>gt_int q
def RL {X:Cx}:bS X (tA .GtE) (pO λi j=>.bl (decide (j<=i))):=A1 λ_ _ _ _ _ _ _ q=>ge_int q
def MO {X:Cx}:bS X (tA .Is) (λx y H Q=>y = .ay/\Q (.bl (decide (x = .ay))) H):=by
 intro a8 s c H x y v u Q I a b h;obtain⟨rfl,q⟩:=h;cases b;refine is_none_gen (CG I q ?_);cases x<;>first
  | (cases a;rfl)
  | (obtain⟨t,rfl⟩:=a;rfl)
def JQ {X:Cx}:bS X (tA .IsNot) (λx y H Q=>y = .ay/\Q (.bl (!decide (x = .ay))) H):=by
 intro a8 s c H x y v u Q I a b h;obtain⟨rfl,q⟩:=h;cases b;refine isnot_none_gen (CG I q ?_);cases x<;>first
  | (cases a;rfl)
  | (obtain⟨t,rfl⟩:=a;rfl)
def JR {X:Cx}{n:TE}{tb:TE}{r:R2}(o:bS X (tA h) r)(j:PE X e n)(l:PE X K tb)(k:aev h K=false):PE X (.Compare e [h] [K] pos) (CF r n tb):=by intro a8 s p H Q I a;exact wpAny_Compare1 (FH j l I a λv u B x y op f c i q=>o a8 B p op x y v u Q f c i q) k
noncomputable def vj (t:TE):TT:=λc H Q=>t c H λx a=>∃k,x = .bl k/\Q k a
def JS {X:Cx}{p:TE}{tb:TE}{r:R2}(E:bS X (tA h) r)(A:PE X e p)(C:PE X K tb)(B:aev h K=false):PT X (.Compare e [h] [K] pos) (vj (CF r p tb)):=by
 intro a8 s n H Q I a;refine wpAny_isTrue_Compare1 (bf (A a8 s n H _ I a) λv s1 ⟨x,J,O,R,o⟩=>bf (C a8 s1 n J _ O o) λu U ⟨y,f,j,Y,Z⟩=>
  bf (E a8 U n f x y v u _ j R Y Z) λc s3 ⟨z,l,q,i,k,op,q3⟩=>?_) B
 subst op;cases i;exact XN ⟨l,q,q3⟩
def FK (K:n3)(x:V)(H:Hp)(k:Bool):Prop :=
 match x with
 |.ay=>k=false|.bl e=>k=e|.int i=>k=(i != 0)|.str y=>y.length<=mK/\k=((y.length:Int) != 0)|.Co y=>y.size<=mK/\k=((y.size:Int) != 0)|.ref p=>(∃c,dF K H p c/\k = !c.isEmpty)\/(∃c,fu K H p c/\k = !c.isEmpty) \/ ∃h,H p=some (.dK h)/\k = !h.isEmpty|_=>False
def A2 {f:Type}{e:List (f×V)}{c:List (f×Value)}(r:KV e c):(!c.isEmpty)= !e.isEmpty:=by cases r<;>rfl
def qM {c:List V}(r:Vals c Y):(!Y.toArray.isEmpty)= !c.isEmpty:=by cases r<;>simp
def lH:(mK:Nat)<2 ^ 63:=by rw[HX];decide
def CH {X:Cx}:WK X (λx H Q=>∃k,FK X.K x H k/\Q k H):=by
 intro a8 s J H x v Q I c h;obtain⟨k,e,q⟩:=h;have z:=lH;have hs:mK=16777216:=HX;cases x with
 |ay =>
  cases c;have a:k=false:=e;subst a;exact truthy_none ⟨H,I,q⟩
 |bl b =>
  cases c;have a:k=b:=e;subst a;exact XN ⟨H,I,q⟩
 |int i =>
  obtain⟨t,rfl⟩:=c;have a:k=(i != 0):=e;subst a;exact PySem.P.truthy_int ⟨H,I,q⟩
 |str y =>
  obtain⟨t,rfl⟩:=c;obtain⟨o,a⟩:y.length<=mK/\k=((y.length:Int) != 0):=e;subst a;exact PySem.P.truthy_str (by omega) ⟨H,I.tok _,q⟩
 |Co y =>
  obtain⟨t,rfl⟩:=c;obtain⟨o,a⟩:y.size<=mK/\k=((y.size:Int) != 0):=e;subst a;exact PySem.W.truthy_bytes (by omega) ⟨H,I.tok _,q⟩
 |ref p =>
  cases c;have a:(∃B,dF X.K H p B/\k = !B.isEmpty)\/(∃B,fu X.K H p B/\k = !B.isEmpty) \/ ∃C,H p=some (.dK C)/\k = !C.isEmpty:=e;rcases a with⟨B,hx,a⟩|⟨B,hx,a⟩|⟨C,hx,a⟩
  . subst a
    obtain⟨u,r,f,j⟩:=I.list hx;have n:=r.length;exact wpAny_truthy_list f.isList (by simp only[ox];omega) ⟨H,I.tok _,by rw[qM r];exact q⟩
  . subst a
    obtain⟨u,r,f,j⟩:=I.tuple hx;have n:=r.length;exact truthy_tuple f (by simp only[ox];omega) ⟨H,I.tok _,by rw[qM r];exact q⟩
  . subst a
    obtain⟨j,l,E,r,m⟩:C.length<=mK/\(p == Qm)=false /\ ∃E,KV C E/\s.heap.DictOf (eX X.prog X.w) p E:=I.aY p _ hx;have n:C.length=E.length:=Paired.length r;exact wpAny_truthy_dict l m (by omega) ⟨H,I.tok _,by rw[A2 r];exact q⟩
 |_=>exact(show False from e).elim
def FL {X:Cx}{q:TE}(f:PE X e q)(i:∀whole,isTrue e X.env whole=(do let n <- whole;ags e.pos;Ct [n] (truthy n))):
  PT X e (λp H Q=>q p H λx r=>∃k,FK X.K x r k/\Q k r):=by
 intro a8 s p H Q I h;exact isTrue_plain (bf (f a8 s p H _ I h) λn s1 ⟨x,u,c,b,a⟩=>CH a8 s1 p u x n Q c b a) (i _)
def A3 {X:Cx}:bS X (th .Add) (λx y H Q=>∃i j,x = .str i/\y = .str j/\i.length+j.length<=mK/\Q (.str (i++j)) H):=by intro a8 s n H x y v u Q I c e h;obtain⟨i,j,rfl,rfl,b,q⟩:=h;obtain⟨t,rfl⟩:=c;obtain⟨a,rfl⟩:=e;exact add_str (λa f=>⟨.str (i++j),H,I.tok _,⟨_,rfl⟩,q⟩) b
def Wn {x:V}(r:Vals [x] Y):∃u,Y = [u]/\lX x u:=by
 cases r with
 |cons c h=>cases h;exact⟨_,rfl,c⟩
def baj {x y:V}(r:Vals [x,y] Y):∃u c,Y = [u,c]/\lX x u/\lX y c:=by
 cases r with
 |cons h i =>
  cases i with
  |cons n p=>cases p;exact⟨_,_,rfl,h,n⟩
def CI {X:Cx}(f:X.calm=true):dX X (.builtin "min") (λp H Q=>∃i j,p = [.int i,.int j]/\Q (.int (if j<i then j else i)) H):=by
 intro a8 s v H p x Q I r h;obtain⟨i,j,rfl,q⟩:=h;obtain⟨u,b,rfl,⟨t,rfl⟩,⟨a,rfl⟩⟩:=baj r;refine min_two_ints (I.ok.hd f) λc e k=>⟨_,H,I.kept k,?_,q⟩
 by_cases n:j<i
 . rw[if_pos n,if_pos n];exact⟨_,rfl⟩
 . rw[if_neg n,if_neg n];exact⟨_,rfl⟩
def ua {X:Cx}:dX X (.type "int") (λc H Q=>(∃i,c = [.int i]/\Q (.int i) H) \/ ∃k,c = [.bl k]/\Q (.int (if k then 1 else 0)) H):=by
 intro a8 s n H c p Q I r h;rcases h with⟨i,rfl,q⟩|⟨k,rfl,q⟩
 . obtain⟨u,rfl,t,rfl⟩:=Wn r
   exact call_int_int ⟨.int i,H,I,⟨_,rfl⟩,q⟩
 . obtain⟨u,rfl,a⟩:=Wn r
   cases a;exact call_int_bool ⟨.int (if k then 1 else 0),H,I.tok _,⟨_,rfl⟩,q⟩
structure dD (k:Nat)(A:og):Prop where
 hd:A.handled=none
 dp:A.depth+3*k+5<recursionLimit
 un:A.units+16*k+200<cLine
 gd:A.guards=some []
theorem dD.deeper (r:dD (i+1) T)(env:Env):dD i (T.deeper env):=
 ⟨r.hd,by have:=r.dp;show T.depth+1+3*i+5<_;omega,by have:=r.un;show T.units+3+16*i+200<_;omega,by first|exact r.gd| (simp[Around.deeper];exact r.gd)⟩
theorem dD.depth (r:dD i T):T.depth<recursionLimit:=by have:=r.dp;omega
theorem dD.units (r:dD i T):T.units+64<cLine:=by have:=r.un;omega
noncomputable def MP:TA:=λ_ H Q=>Q [] H
noncomputable def RM (b:TE)(tr:TA):TA:=λc H Q=>b c H λx h=>tr c h λi a=>Q (x::i) a
def nW {X:Cx}:PA X [] MP:=λ_ _ _ _ H Q I h=>ahm ⟨[],H,I,.nil,h⟩
def lI {X:Cx}{n:TE}{t:TA}(o:PE X e n)(q:PA X B t)(r:m2 (e::B) X.env=(false,eval e X.env)::m2 B X.env):PA X (e::B) (RM n t):=by intro pos a8 s p H Q I h;rw[r];show wpAny _ _ (spliced ((false,eval e X.env)::tT pos (m2 B X.env))) _ _ s;refine afg (bf (o a8 s p H _ I h) λu s1 b=>?_);obtain⟨x,v,l,i,f⟩:=b;exact bf (q pos a8 s1 p v _ l f) λC E ⟨y,a,c,k,j⟩=>⟨x::y,a,c,.cons i k,j⟩
noncomputable def WN (t:TA):TE:=λi H Q=>t i H λc h=>c.length<=mK /\ ∀p,h p=none->Q (.ref p) (upd h p (.tup c))
noncomputable def WO (t:TA):TE:=λi H Q=>t i H λc h=>c.length<=mK /\ ∀p,h p=none->Q (.ref p) (upd h p (.lst c))
def MS {X:Cx}{t:TA}{f}(h:PA X B t):PE X (.Tuple B f pos) (WN t):=by intro a8 s n H Q I c;refine wpAny_Tuple_spliced (bf (h pos a8 s n H _ I c) λp s1 ⟨v,i,a,r,z,q⟩=>⟨by rw[<- r.length];exact z,?_⟩);have hf:i s1.heap.objs.size=none:=a.aY.fresh (mn _);refine⟨.ref s1.heap.objs.size,upd i s1.heap.objs.size (.tup v),a.laid (t':=s1.toks) (λb u e=>nz _ e) (mn _) ?_,rfl,q _ hf⟩;exact⟨z,p,r,⟨_,pR _ rfl,rfl,⟨_,rfl⟩,rfl⟩⟩
def CJ {X:Cx}{t:TA}(h:PA X B t):PE X (.List B pos) (WO t):=by intro a8 s n H Q I c;refine wpAny_List_spliced (bf (h pos a8 s n H _ I c) λp s1 ⟨v,i,a,r,z,q⟩=>⟨by rw[<- r.length];exact z,?_⟩);have hf:i s1.heap.objs.size=none:=a.aY.fresh (mn _);refine⟨.ref s1.heap.objs.size,upd i s1.heap.objs.size (.lst v),a.laid (t':=s1.toks) (λb u e=>nz _ e) (mn _) ?_,rfl,q _ hf⟩;exact⟨z,p,0,r,pR _ rfl⟩
abbrev Sp:=List V->Hp->VK->XK->Prop
abbrev nX:=List Env->Hp->lO->XK->Value->lO->Prop
structure qp (P:te)(w:World)(K:n3)(mg:Str->Option Value)(base:Heap)(A:og)(outer:List Env)(s:lO)(H:Hp):Prop where
 frames:A.frames=some outer
 mod:bab K mg base
 bs:∀b o,base.get? b=some o->s.heap.get? b=some o/\H b=none
 nQ:base.objs.size<=s.heap.objs.size
 ik:s.heap.FunFrames base outer
 qJ:∀b∈kP outer,H b=none
 aY:eF P w H s.heap
 bare:Pd s.gens
def CE (a:List Env)(P:te)(w:World)(H:Hp)(s:lO)(Q:VK)(u:Value)(b:lO):Prop :=
 ∃v c,b.os=s.os/\Pd b.gens/\Un (kP a) [] H c s.heap b.heap/\eF P w c b.heap/\lX v u/\Q v c
def CR (c:nX)(a:List Env)(P:te)(w:World)(H:Hp)(s:lO)(Q:VK)(E:XK)(r:Result)(b:lO):Prop :=
 match r with
 |.ok (.ret u)=>CE a P w H s Q u b|.ok _=>False|.error e=>c a H s E e b
structure eh (P:te)(w:World)(K:n3)(mg:Str->Option Value)(base:Heap)(CX:nX)(k:Nat)(f:Addr)(fd:wq)(ps:List Str)(sp:Sp):Prop where
 len:∀vs H Q E,sp vs H Q E->vs.length=ps.length
 run:∀(A:og) (outer:List Env) (s:lO) (H:Hp) (args:Args) (us:List Value) (vs:List V) (Q:VK) (E:XK),dD k A->qp P w K mg base A outer s H->ahj s fd args (ps.zip us)->Vals vs us->sp vs H Q E ->
  HP (model P w) A (.call (.ref f) args) (CR CX outer P w H s Q E) s
def eh.imp {p:nX}{r u:Sp}(F:eh q v C A z p i f w Z r)(h:∀n H Q E,u n H Q E->r n H Q E):eh q v C A z p i f w Z u :=
 ⟨λn H Q E K=>F.len n H Q E (h _ _ _ _ K),λP outer s H args x n Q E c y a b e=>F.run P outer s H args x n Q E c y a b (h _ _ _ _ e)⟩
def lb.FN {X:Cx}{c:lU}{H:Hp}(I:lb X a8 c H s):qp X.prog X.w X.K X.mg X.base X.A X.stack s H :=
 ⟨I.ok.frames,I.ok.mod,I.bs,pe I.ok.nQ I.sz,I.stack,I.yP,I.aY,I.bare⟩
def lb.after {X:Cx}{i:lU}{H:Hp}{Q:VK}(I:lb X a8 i H s)(h:CE X.stack X.prog X.w H s Q u j):EP X a8 i Q u j:=by obtain⟨v,e,os,bare,un,f,r,q⟩:=h;obtain⟨c,g,d,t,a⟩:=j;obtain rfl:a=s.os:=os;exact⟨v,e,I.call (h':=c) (g':=g) (d':=d) (t':=t) (ch:=[]) un f bare (λb z=>absurd z (by simp)),r,q⟩
noncomputable def vk (c:Sp)(b:List V)(E:XK)(t:TA):TE:=λh H Q=>t h H λa i=>c (a++b) i Q E
noncomputable def HT (K:n3)(b:wq)(a:List Str)(ds:List Value):Prop :=
 ∀(s:lO) (c:List Value),K.In s.heap->(c++ds).length=a.length->ahj s b ⟨c,[]⟩ (a.zip (c++ds))
def HT.all (h:∀c:List Value,c.length=Z.length->WU w ⟨c,[]⟩=pure (Z.zip c)):HT C w Z []:=λs c _ a=>by rw[wz]at a ⊢;exact .of_eq (h c a)
def Passes (h:nX)(X:Cx)(E:XK):Prop:=∀(a8:List (Addr×Obj)) (i:lU) (H:Hp) (s:lO) (e:Value) (c:lO),lb X a8 i H s->h X.stack H s E e c->X.xe e c
def v_ {X:Cx}{y:nX}{B:Sp}{n:List V}{E:XK}{x:lU}{H:Hp}{Q:VK}{us:List Value}{p:List V}(F:eh X.prog X.w X.K X.mg X.base y i f w Z B)(j:dD i X.A)(l:HT X.K w Z Y)(q:Vals n Y)(v:Passes y X E)(I:lb X a8 x H s)(r:Vals p us)(h:B (p++n) H Q E):wpAny (model X.prog X.w) X.A (call (.ref f) us) (EP X a8 x Q) X.xe s:=by
 have b:Vals (p++n) (us++Y):=r.append q;have c:(us++Y).length=Z.length:=by rw[<- b.length];exact F.len _ _ _ _ h
 refine agC (Wg (F.run X.A X.stack s H ⟨us,[]⟩ (us++Y) (p++n) Q E j I.FN (l s us I.nB c) b h) λr k a=>?_);cases r with
 |error e=>exact v a8 x H s e k I a
 |ok fl =>
  cases fl with
  |ret u=>exact I.after a|next=>exact zi a|brk=>exact zi a|cont=>exact zi a
def JT {X:Cx}{n:nX}{p:Sp}{C:List V}{E:XK}{t:TA}(F:eh X.prog X.w X.K X.mg X.base n i f w Z p)(u:dD i X.A)(c:Gl X x)(l:X.mg x=some (.ref f))(J:Oo X.K (.ref f)=true)(v:HT X.K w Z Y)(fd:Vals C Y)(L:Passes n X E)(y:PA X (e::B) t)(z:(x == ("__debug__":Str))=false)(j:m2 (e::B) X.env=(false,eval e X.env)::m2 B X.env)(k:(tT pos (m2 B X.env)).any (·.1)=false):
  PE X (.Call (.Name x a) (e::B) [] pos) (vk p C E t):=by
 intro a8 s O H Q I h;refine P4 (oV I c l ?_ z);refine afh (h₀:=X.base) I.ok.mod.lG J (bf (y pos a8 s O H _ I h) λR s1 ⟨b,U,ps,r,q⟩=>⟨ps.nB,?_⟩) j k;exact v_ F u v fd L ps r q
def FP {X:Cx}{n:nX}{p:Sp}{u:List V}{E:XK}(F:eh X.prog X.w X.K X.mg X.base n i f w Z p)(c:dD i X.A)(fd:Gl X x)(b:X.mg x=some (.ref f))(q:Oo X.K (.ref f)=true)(k:HT X.K w Z Y)(l:Vals u Y)(r:Passes n X E)(j:(x == ("__debug__":Str))=false):PE X (.Call (.Name x a) [] [] pos) (vk p u E MP):=by
 intro a8 s v H Q I h;refine P4 (oV I fd b ?_ j);exact PySem.W.callWith_K0 I.nB q (v_ (us:=[]) F c k l r I .nil h)
structure jW (N P:List Str)(sc:Scope):Prop where
 kind:sc.kind = .function
 co:sc.isCoroutine=false
 gen:sc.isGenerator=false
 nd:N.Nodup
 pre:N.take P.length=P
 par:∀x∈P,sc.names.lookup x=some .local\/sc.names.lookup x=some .cell
 MT:∀y∈sc.names,y.2 ≠ .free
theorem ub {a:Str->Option zT}{x:Str}:∀{binds:List (Str×Value)} {m:Str->Option Value},(∀v,(x,v) ∉ binds)->bindL a binds m x=m x
 | [],_,_=>rfl
 | (n,v)::r,m,h=>by
  unfold bindL;rw[ub λw hw=>h w (pP _ hw)];split
  . have:x≠n:=by rintro rfl;exact h v rj
    simp[this]
  . rfl
theorem uc {a:Str->Option zT}{x:Str}:∀{binds:List (Str×Value)} {m:Str->Option Value},(∀v,(x,v) ∉ binds)->bindC a binds m x=m x
 | [],_,_=>rfl
 | (n,v)::r,m,h=>by
  unfold bindC;rw[uc λw hw=>h w (pP _ hw)];split
  . rfl
  . have:x≠n:=by rintro rfl;exact h v rj
    simp[this]
theorem ud {b:Str->Option zT}{x:Str}{v:Value}:∀{P:List Str} {c:List Value} {i:Nat} {m:Str->Option Value},P.Nodup->P[i]? = some x->c[i]? = some v->b x=some .local ->
  bindL b (P.zip c) m x=some v
 | [],_,_,_,_,h,_,_=>by simp at h|_::_,[],_,_,_,_,h,_=>by simp at h|p::P,w::c,0,m,nd,h1,h2,n=>by simp at h1 h2;subst h1;subst h2;show bindL b ((p,w)::P.zip c) m p=_;unfold bindL;rw[ub λv a=>(Dx.mp nd).1 (W9 a).1,if_pos n];simp|p::P,w::c,i+1,m,nd,h1,h2,n=>by show bindL b ((p,w)::P.zip c) m x=_;unfold bindL;exact ud (i:=i) (Dx.mp nd).2 (by simpa using h1) (by simpa using h2) n
theorem ue {b:Str->Option zT}{x:Str}{v:Value}:∀{P:List Str} {c:List Value} {i:Nat} {m:Str->Option Value},P.Nodup->P[i]? = some x->c[i]? = some v->b x≠some .local ->
  bindC b (P.zip c) m x=some v
 | [],_,_,_,_,h,_,_=>by simp at h|_::_,[],_,_,_,_,h,_=>by simp at h|p::P,w::c,0,m,nd,h1,h2,n=>by simp at h1 h2;subst h1;subst h2;show bindC b ((p,w)::P.zip c) m p=_;unfold bindC;rw[uc λv a=>(Dx.mp nd).1 (W9 a).1,if_neg n];simp|p::P,w::c,i+1,m,nd,h1,h2,n=>by show bindC b ((p,w)::P.zip c) m x=_;unfold bindC;exact ue (i:=i) (Dx.mp nd).2 (by simpa using h1) (by simpa using h2) n
noncomputable def rb (N:List Str)(c:List V):lU:=c.map some++m6 (N.length-c.length) none
noncomputable def mG (lx:Lx)(CX:nX)(P:te)(w:World)(K:n3)(mg:Str->Option Value)(base:Heap)(N:List Str)(h:Str)(scope:Scope)(f:Addr)(i:Value)(A:og)(outer:List Env)(s:lO)(H:Hp)(E:XK):Cx where
 prog:=P
 w:=w
 K:=K
 mg:=mg
 base:=base
 A:=A.deeper (MW h scope s.heap.objs.size f i)
 N:=N
 s₀:=s
 H₀:=H
 env:=MW h scope s.heap.objs.size f i
 outer:=outer
 stack:=MW h scope s.heap.objs.size f i::outer
 ex:=[]
 calm:=true
 fn:=λ_=>true
 pn:=[]
 lx:=lx
 xe:=λe b=>wpAny (model P w) (A.deeper (MW h scope s.heap.objs.size f i)) (leaving (MW h scope s.heap.objs.size f i) e) (λ_ a=>CX outer H s E e a) (λc a=>CX outer H s E c a) b
def wb {n:Nat}(h:O.names.lookup x=some .cell):∃c,(v7 n O.names []).lookup x=some c:=by have q:=agg O.names n [] (.inl h);exact ad3.mp q
def CM {lx:Lx}{CX:nX}{J:List Str}{B:List Env}{H:Hp}{E:XK}{R:List V}(S:jW Z J O)(M:T.handled=none)(I:qp q v C A z T B s H)(mg:R.length=J.length)(r:Vals R Y)(base:InCallC s s.heap.objs.size (bindL (MW x O s.heap.objs.size f u).kindOf (J.zip Y) λ_=>none) (v7 (s.heap.objs.size+1) O.names []) (bindC (MW x O s.heap.objs.size f u).kindOf (J.zip Y) λ_=>none) j):
   lb (mG lx CX q v C A z Z x O f u T B s H E) [] (rb Z R) H j:=by
 have eY:J.length<=Z.length:=by have:=congrArg afb S.pre;rw[yN]at this;omega
 obtain⟨h1,tk,rfl,hk⟩:=base.done;have U:∀b:Addr,b ∉ (mG lx CX q v C A z Z x O f u T B s H E).ex:=λb P=>absurd (show b∈([]:List Addr) from P) (by simp);refine⟨⟨I.mod,S.kind,rfl,rfl,mn _,λy P c h1 N=>?_,λy l=>?_,λy c _ h=>?_,λ_=>M,agD I.frames,.inr ⟨rfl,rfl⟩,λb P=>absurd P (U b),I.bs,I.nQ,λb _ _=>U b,λb P=>absurd P (U b),I.ik,I.qJ⟩,
   rfl,I.bare,Un.kept hk,⟨_,base.toInCall.ns,λi y K h1 N h3=>?_⟩,λy c h=>⟨_,base.cell y c h⟩,I.aY.fresh (mn _),λy c h=>?_,λp o=>absurd (show p∈([]:List (Addr×Obj)) from o) (by simp),I.aY.kept hk,?_⟩
 . exact name_of_addr base.apart (yg h1) (yg N)
 . have l:O.names.lookup y=some .cell\/O.names.lookup y=some .free:=l
   rcases l with l|l
   . exact wb l
   . exact absurd rfl (S.MT _ (yg l))
 . exact RI (base.above y c (yg h))
 . have hi:i<R.length:=by
     unfold rb at N;by_cases hi:i<R.length
     . exact hi
     . rw[wm (by simpa using hi)]at N
       rw[af6]at N;split at N<;>cases N
   have ha:R[i]? = some K:=by
     unfold rb at N;rw[ra (by simpa using hi),nP]at N;cases e:R[i]? with
     |none=>rw[e]at N;cases N|some a=>rw[e]at N;cases N;rfl
   obtain⟨w,hu,rv⟩:=r.get ha;have o:J[i]? = some y:=by rw[<- S.pre,UC (by omega)];exact h1
   have Uo:J.Nodup:=by rw[<- S.pre];exact S.nd.sublist (afB _ _)
   refine⟨w,rv,?_⟩;rcases S.par y (p7 o)with k|k
   . exact .inl ⟨k,ud Uo o hu k⟩
   . obtain⟨c,e⟩:=wb (n:=s.heap.objs.size+1) k
     refine .inr ⟨.inl k,c,e,?_⟩;have Q:=base.cell y c e;rw[ue Uo o hu (by show O.names.lookup y≠_;rw[k];decide)]at Q;exact Q
 . exact I.aY.fresh (RI (base.above y c (yg h)))
 . unfold rb
   show _=Z.length;rw[nN,n7,List.length_replicate];omega
def RN {lx:Lx}{CX:nX}{w:World}{B:Str}{mg:T6}{U kV M X L ct oc:Value}{T Y:Option Addr}{wc:Array (Option Value)}{k:List Str}{sp:Sp}(lk:C.lookup f=some ⟨oc,Y,.func (Ie x B mg R O U kV M X T L ct),wc⟩)(jG:aed C L B=true)(S:jW Z k O)(len:∀vs H Q E,sp vs H Q E->vs.length=k.length)(base:∀(body:og) (outer:List Env) (s:lO) (H:Hp) (vs:List V) (Q:VK) (E:XK),dD i (body.deeper (MW B O s.heap.objs.size f L))->sp vs H Q E ->
    ∃t,ip (mG lx CX q w C A z Z B O f L body outer s H E) R t/\t { nx:=λ_ H'=>Q .ay H',rt:=Q } (rb Z vs) H):
  eh q w C A z CX (i+1) f (Ie x B mg R O U kV M X T L ct) k sp:=by
 refine⟨len,λbody outer s H args us vs Q E j c hb r l=>?_⟩;have hl:=len _ _ _ _ l;have P:C.In s.heap:=c.mod.lG.keeps λb o e=>(c.bs b o e).1;have lim:s.heap.NoLimit:=c.mod.nolimit.keeps λb o e=>(c.bs b o e).1;have vm:∀y∈k.zip us,O.names.lookup y.1=some .local\/(O.names.lookup y.1=some .cell/\((v7 (s.heap.objs.size+1) O.names []).lookup y.1).isSome=true):=λ⟨n,v⟩ hy=>by
  rcases S.par n (W9 hy).1 with p|p
  . exact .inl p
  . exact .inr ⟨p,agg _ _ _ (.inl p)⟩
 refine codeAny_call_function j.depth (P _ _ lk) rfl S.co S.gen rfl (PySem.W.codeRec_of P jG) (hb _ _ _ _ ?_);refine wpAny_newFunctionEnv_cells S.kind vm λenv he s1 name=>?_;subst he;refine⟨lim.keeps name.toInCall.keep,codeAny_func ?_⟩;obtain⟨t,ht,hq⟩:=base body outer s H vs Q E (j.deeper _) l;have I:lb (mG lx CX q w C A z Z B O f L body outer s H E) [] (rb Z vs) H s1:=CM S j.hd c hl r name;refine ZC (ht [] s1 (rb Z vs) H _ I hq) (λfl s' a=>?_) λe s' a=>a;have fin:∀{h:lU} {H':Hp} {v:V} {u:Value},lb (mG lx CX q w C A z Z B O f L body outer s H E) [] h H' s'->lX v u->Q v H'->CE outer q w H s Q u s' :=
  fun {h H' v u} J K p=>⟨v,H',J.os,J.bare,J.base,J.aY,K,p⟩
 cases fl with
 |ret u =>
  obtain⟨v,h,H',J,K,p⟩:=a;exact fin J K p
 |next =>
  obtain⟨h,H',J,p⟩:=a;exact fin (v:=V.ay) (u:=zb) J rfl p
 |brk =>
  obtain⟨_,_,_,p⟩:=a;exact zi p
 |cont =>
  obtain⟨_,_,_,p⟩:=a;exact zi p
noncomputable def Up (r:List V->Hp->VK->Prop)(t:TA):TE:=λc H Q=>t c H λa h=>r a h Q
def FQ {X:Cx}{t:TA}{r:List V->Hp->VK->Prop}(k:dX X (.builtin n) r)(i:Gl X x)(o:X.mg x=none)(y:Qk x=some (.builtin n))(q:PA X (e::B) t)(v:x ≠ "__name__":=by decide)(u:(x == ("__debug__":Str))=false:=by decide)(l:m2 (e::B) X.env=(false,eval e X.env)::m2 B X.env:=by rfl)(j:(tT pos (m2 B X.env)).any (·.1)=false:=by rfl):PE X (.Call (.Name x a) (e::B) [] pos) (Up r t):=by
 intro a8 s C H Q I h;refine P4 (jh I i o y ?_ v u);exact aeT (bf (q pos a8 s C H _ I h) λE s1 ⟨p,J,c,b,f⟩=>k a8 s1 C J p E Q c b f) l j
def CN {X:Cx}{t:TA}{r:List V->Hp->VK->Prop}(k:dX X (.type n) r)(i:Gl X x)(o:X.mg x=none)(y:Qk x=some (.type n))(q:PA X (e::B) t)(v:x ≠ "__name__":=by decide)(u:(x == ("__debug__":Str))=false:=by decide)(l:m2 (e::B) X.env=(false,eval e X.env)::m2 B X.env:=by rfl)(j:(tT pos (m2 B X.env)).any (·.1)=false:=by rfl):PE X (.Call (.Name x a) (e::B) [] pos) (Up r t):=by
 intro a8 s C H Q I h;refine P4 (jh I i o y ?_ v u);exact ZP (bf (q pos a8 s C H _ I h) λE s1 ⟨p,J,c,b,f⟩=>k a8 s1 C J p E Q c b f) l j
end
variable {X:Cx}{H:Hp}{y:lU}
section
open PyProof.Rows
variable {Z O:List V}{u w:Value}{U z:TE}{R:Option Expr}{J I:String}{C:Pos}{A n:V}{t p:Option Int}{r:Array Value}{m:V->Option Int->Option Int->Hp->VK->Prop}{l:R2}
section
open PySem.SeqAt
open PySem.AutoSeq1 (wpAny_loadPart')
open PySem.MeetsSeq PySem.MeetsSeq2 PySem.MeetsSeq3
end
def JU {b:Addr}{r:List Value}(z:IsTup s.heap f Y.toArray)(C:IsTup s.heap b r.toArray)(u:Y ≠ [])(y:r = []->Q (.ref f) s)(B:r ≠ []->Q (.ref s.heap.objs.size) { s with heap:=s.heap.push { cls:=.type "tuple",data:=.seq (Y++r).toArray } })(x:Y.length+r.length<=mK):wpAny (model q v) T (th .Add (.ref f) (.ref b)) Q E s:=by
 obtain⟨⟨cls,l,data,j⟩,a,o,n,hd⟩:=id z;obtain⟨⟨prog,k,data2,i⟩,c,t,h,p⟩:=id C;simp only at o hd t p;subst o hd t p;have e:Y.toArray++r.toArray=(Y++r).toArray:=by simp
 by_cases hw:r = []
 . exact afW ⟨_,a,rfl⟩ ⟨_,c,rfl⟩ afX agN aeo aek (ad4 _ _)
    (tuple_addW1 f b Y.toArray r.toArray n h l k j i (by simpa using u) (by simp[hw])) ⟨a,c,y hw⟩
 . refine afW ⟨_,a,rfl⟩ ⟨_,c,rfl⟩ afX agN aeo aek (ad4 _ _)
    (tuple_addW2 f b Y.toArray r.toArray n h l k j i (by simpa using u) (by simpa using hw) (by rw[ox,ox];exact x)) ⟨a,c,?_⟩
   rw[e];exact B hw
noncomputable def bz (n d:Nat):Option Int->Nat
 |none=>d|some v=>if v<0 then(v+(n:Int)).toNat else min v.toNat n
def j6 (n d:Nat):bz n d none=d:=rfl
def yS (n d k:Nat):bz n d (some (k:Int))=min k n:=by show(if(k:Int)<0 then((k:Int)+(n:Int)).toNat else min (k:Int).toNat n)=min k n;rw[if_neg (by omega),L7]
def MV (n d:Nat)(a:d<=n)(o:Option Int):bz n d o<=n:=by
 cases o with
 |none=>exact a
 |some v =>
  show(if v<0 then(v+(n:Int)).toNat else min v.toNat n)<=n;by_cases c:v<0
  . rw[if_pos c];omega
  . rw[if_neg c];exact Nat.min_le_right _ _
def yT (v:Int)(n d:Nat):(if v<0 then max (v+(n:Int)) 0 else min v (n:Int))=((bz n d (some v):Nat):Int):=by
 show(if v<0 then max (v+(n:Int)) 0 else min v (n:Int))=(((if v<0 then(v+(n:Int)).toNat else min v.toNat n):Nat):Int);by_cases c:v<0
 . simp only[if_pos c];omega
 . simp only[if_neg c];omega
def A5 (c b:Option Int)(n:Nat):Sx c b 1 (n:Int)=(((bz n 0 c:Nat):Int),((bz n n b:Nat):Int)):=by
 have a:¬((1:Int)<0):=by omega
 unfold Sx;simp only[a,if_false];refine Prod.ext ?_ ?_
 . cases c with
   |none=>rfl|some v=>exact yT v n 0
 . cases b with
   |none=>rfl|some v=>exact yT v n n
def A6 (i j:Nat):Xb (i:Int) (j:Int) 1=j-i:=by
 unfold Xb;have a:(1:Int)>0:=by omega
 simp only[a,if_true,Int.ediv_one];split<;>omega
def iq {Q:Option Int->lO->Prop}(p:Ay u t)(h:Q t s):wpAny (model q v) T (Builtin.Slice.slicePartIndex u) Q E s:=by
 cases p with
 |none=>exact slicePart_none h|int i o=>exact slicePart_int h
def j7 {Q:Int×Int×Nat->lO->Prop}(o:s.heap.IsSliceOf f u w .none)(k:Ay u t)(l:Ay w p)(h:Q (((bz i 0 t:Nat):Int),1,bz i i p-bz i 0 t) s):wpAny (model q v) T (ac0 (.ref f) (pure (i:Int))) Q E s:=by
 obtain⟨os,b,c,a⟩:=id o;unfold ac0 afK;refine la (la (Ci b a (x:=u) rfl (la (Ci b a (x:=w) rfl (la (Ci b a (x:=.none) rfl (lr ?_)))))));refine la (slicePart_none ?_);show wpAny _ _ (if((1:Int)== 0)=true then _ else _) _ _ s;rw[if_neg (by decide)];refine la (iq k (la (iq l (la (lr ?_)))));show wpAny _ _ (match Sx t p 1 (i:Int)with| (t,p)=>pure (t,(1:Int),Xb t p 1)) _ _ s;rw[A5 t p i];show wpAny _ _ (pure (((bz i 0 t:Nat):Int),(1:Int),Xb ((bz i 0 t:Nat):Int) ((bz i i p:Nat):Int) 1)) _ _ s;rw[A6];exact lr h
def FR (c:Array Value)(i k:Nat):((nJ k).filterMap λ(m:Nat)=>c[((i:Int)+(m:Int)*1).toNat]?).toArray=((c.toList.drop i).take k).toArray:=by
 have e:(λ(m:Nat)=>c[((i:Int)+(m:Int)*1).toNat]?)=λm=>c[i+m]?:=by
  funext m;have:((i:Int)+(m:Int)*1).toNat=i+m:=by omega
  rw[this]
 rw[e];have:=pick_run c i k;rw[ag4]at this;have a:((λx=>c[x]?) ∘ λx=>i+x)=λm=>c[i+m]?:=rfl;rw[a]at this;rw[this]
def pK {y:Addr}(z:IsTup s.heap f r)(x:s.heap.IsSliceOf y u w .none)(C:Ay u t)(B:Ay w p)(hw:¬(bz r.size 0 t=0/\bz r.size r.size p=r.size))(h:Q (.ref s.heap.objs.size) { s with heap:=s.heap.push { cls:=.type "tuple",data:=.seq ((r.toList.drop (bz r.size 0 t)).take (bz r.size r.size p-bz r.size 0 t)).toArray } })(H:r.size<=mK):wpAny (model q v) T (OI (.ref f) (.ref y)) Q E s:=by
 have a:sizeOk (.seq ((r.toList.drop (bz r.size 0 t)).take (bz r.size r.size p-bz r.size 0 t)).toArray):=by show((r.toList.drop (bz r.size 0 t)).take (bz r.size r.size p-bz r.size 0 t)).toArray.size<=mK;rw[ox,yN,adf,adX];omega
 have l:bz r.size r.size p<=r.size:=MV _ _ (mn _) p;obtain⟨os,n,b,j⟩:=id x;have e:s.TypeIs (.ref y) "slice":=⟨os,n,b⟩
 unfold OI;try with_reducible refine vn ?_
 first|refine la (lr ?_)|skip
 refine la (adw z.typeIs (by decide) ?_);refine la (Nd (name:=F6 "__getitem__") z.typeIs L2
  (zy L2 z.typeIs ae1 ?_ (afi _ _)))
 show wpAny _ _ (ac1 (.ref f) >>= _) _ _ s;refine la (agO z ?_);refine la (U0 e ?_);rw[if_pos (by decide)];refine la (j7 x C B ?_);have c:¬((((bz r.size 0 t:Nat):Int)== 0&&(1:Int)== 1&&(bz r.size r.size p-bz r.size 0 t)== r.size)=true):=by intro o;rw[l8,l8]at o;have k:((bz r.size 0 t:Nat):Int)=0:=eq_of_beq o.1.1;have i:bz r.size r.size p-bz r.size 0 t=r.size:=eq_of_beq o.2;exact hw ⟨by omega,by omega⟩
 show wpAny _ _ (if(((bz r.size 0 t:Nat):Int)== 0&&(1:Int)== 1&&(bz r.size r.size p-bz r.size 0 t)== r.size)=true then _ else _) _ _ s;rw[if_neg c,FR];first
  |exact la (m:=Uv _) (x3 (lr ⟨_,rfl,lr h⟩) a)
  |exact la (m:=Uv _) (x3 (la (lr (lr ⟨_,rfl,lr h⟩))) a)
  |exact la (la (m:=Uv _) (x3 (lr (lr ⟨_,rfl,lr h⟩)) a))
  |exact la (la (m:=Uv _) (x3 (lr ⟨_,rfl,lr h⟩) a))
abbrev TO:=lU->Hp->(Option Int->Hp->Prop)->Prop
noncomputable def PO (X:Cx)(e:Option Expr)(t:TO):Prop :=
 ∀(h:List (Addr×Obj)) (s:lO) (c:lU) (H:Hp) (Q:Option Int->Hp->Prop),lb X h c H s->t c H Q ->
  wpAny (model X.prog X.w) X.A (evalPart e X.env) (λu a=>∃o i,lb X h c i a/\Ay u o/\Q o i) X.xe s
noncomputable def JV:TO:=λ_ H Q=>Q none H
noncomputable def RO (t:TE):TO:=λc H Q=>t c H λx h=>∃i,x = .int i/\Q (some i) h
def JW:PO X none JV:=by intro c s i H Q I h;rw[evalPart_none];exact lr ⟨none,H,I,.none,h⟩
def JX (h:PE X e U):PO X (some e) (RO U):=by intro n s p H Q I hw;rw[evalPart_some];refine bf (h n s p H _ I hw) λu s1 a=>?_;obtain⟨x,r,f,c,b⟩:=a;obtain⟨i,rfl,q⟩:=b;obtain⟨t,rfl⟩:=c;exact⟨some i,r,f,.int i t,q⟩
def pT (X:Cx)(r:V->Option Int->Option Int->Hp->VK->Prop):Prop :=
 ∀(c:List (Addr×Obj)) (s:lO) (h:lU) (H:Hp) (x:V) (v i n:Value) (p hi:Option Int) (sl:Addr) (Q:VK),lb X c h H s->lX x v->s.heap.IsSliceOf sl i n .none->Ay i p->Ay n hi->r x p hi H Q ->
  ∃T id,typeLookup (.type T) "__getitem__" = pure (some (.builtin id))/\s.TypeIs v T/\wpAny (model X.prog X.w) X.A (OI v (.ref sl)) (EP X c h Q) X.xe s
def pT.or {j:V->Option Int->Option Int->Hp->VK->Prop}(h:pT X m)(u:pT X j):pT X (λx n hi H Q=>m x n hi H Q\/j x n hi H Q):=by
 intro p s r H x v c a n hi i Q I b e f pu q;rcases q with q|q
 . exact h p s r H x v c a n hi i Q I b e f pu q
 . exact u p s r H x v c a n hi i Q I b e f pu q
noncomputable def Zn (r:V->Option Int->Option Int->Hp->VK->Prop)(h:TE)(i n:TO):TE:=λc H Q=>h c H λx p=>i c p λl b=>n c b λu a=>r x l u a Q
def FU {hi:Option Expr}{Y:TO}{Z:TO}(r:pT X m)(B:PE X e U)(E:PO X R Y)(hu:PO X hi Z):PE X (.Subscript e (.Slice R hi none C) a) (Zn m U Y Z):=by intro p s J H Q I h;refine Subscript_ (bf (B p s J H _ I h) λv s1 f=>?_);obtain⟨x,H1,I1,r1,y⟩:=f;refine wpAny_Slice (bf (E p s1 J H1 _ I1 y) λc s2 ⟨l,k,o,pl,q2⟩=>bf (hu p s2 J k _ o q2) λO n f=>?_);obtain⟨u,i,I3,pu,q3⟩:=f;rw[evalPart_none];refine lr ?_;have I4:lb X p J i { n with heap:=n.heap.push { cls:=.type "slice",data:=.fields #[c,O,.none] } }:=I3.kept (t':=n.toks) λb ob q=>nz _ q;obtain⟨T,id,j,z,hg⟩:=r p { n with heap:=n.heap.push { cls:=.type "slice",data:=.fields #[c,O,.none] } } J i x v c O l u n.heap.objs.size Q I4 r1 (ag5 ..) pl pu q3;show wpAny (model X.prog X.w) X.A (agP e (.Slice R hi none C) v (.ref n.heap.objs.size)) (EP X p J Q) X.xe { n with heap:=n.heap.push { cls:=.type "slice",data:=.fields #[c,O,.none] } };exact tail_any (ops:=[.ref n.heap.objs.size,v]) z j hg (by with_unfolding_all rfl)
noncomputable def nY (c:List V)(h hi:Option Int):List V:=(c.drop (bz c.length 0 h)).take (bz c.length c.length hi-bz c.length 0 h)
def pU (c:List V)(h hi:Option Int):(nY c h hi).length<=c.length:=by unfold nY;rw[yN,adf];omega
noncomputable def MX (K:n3):V->Option Int->Option Int->Hp->VK->Prop:=λx h b H Q=>∃a c,x = .ref a/\fu K H a c /\
 ¬(bz c.length 0 h=0/\bz c.length c.length b=c.length) /\ ∀p,H p=none->Q (.ref p) (upd H p (.tup (nY c h b)))
def MY:pT X (MX X.K):=by
 intro C s E H x v J O B c z Q I j i l pu h;obtain⟨a,p,rfl,k,hw,q⟩:=h;cases j;obtain⟨u,r,f,e⟩:=I.tuple k;have n:u.toArray.size=p.length:=by rw[ox];exact r.length.symm
 refine⟨"tuple",_,L2.lookup,f.typeIs,?_⟩;refine pK f i l pu (by rw[n];exact hw) ?_ (by rw[n];exact e);rw[n];refine⟨.ref s.heap.objs.size,_,I.laid (t':=s.toks) (o:=.tup (nY p B c)) (λb y q=>nz _ q) (mn _) ?_,rfl,q _ (I.aY.fresh (mn _))⟩;exact⟨pe (pU p B c) e,_,(r.drop (bz p.length 0 B)).take (bz p.length p.length c-bz p.length 0 B),fI.new _ _⟩
noncomputable def RP (K:n3):R2:=λx y H Q=>∃a b h c,x = .ref a/\y = .ref b/\fu K H a h/\fu K H b c/\h ≠ []/\h.length+c.length<=mK /\
 (c = []->Q (.ref a) H)/\(c ≠ []->∀p,H p=none->Q (.ref p) (upd H p (.tup (h++c))))
def Vals.sM (r:Vals Z Y):Y = []↔ Z = []:=by
 cases r with
 |nil=>simp|cons _ _=>simp
def JY:bS X (th .Add) (RP X.K):=by intro O s R H x y v u Q I r n h;obtain⟨a,b,p,B,rfl,rfl,k,i,C,f,j,E⟩:=h;cases r;cases n;obtain⟨U,e,l,_⟩:=I.tuple k;obtain⟨Y,c,J,_⟩:=I.tuple i;refine JU l J (λz=>C (e.sM.mp z)) (λz=>⟨.ref a,H,I,rfl,j (c.sM.mp z)⟩) (λz=>?_) (by rw[<- e.length,<- c.length];exact f);refine⟨.ref s.heap.objs.size,_,I.laid (t':=s.toks) (o:=.tup (p++B)) (λb Z q=>nz _ q) (mn _) ?_,rfl,E (λw=>z (c.sM.mpr w)) _ (I.aY.fresh (mn _))⟩;exact⟨by rw[nN];exact f,_,e.append c,fI.new _ _⟩
noncomputable def lJ (n:Nat)(i:Int):Option Nat:=if 0<=i then(if i<n then some i.toNat else none)else if -(n:Int)<=i then some (i+n).toNat else none
noncomputable def cL {c:Type}(h:List c)(i:Int):Option c:=(lJ h.length i).bind λj=>h[j]?
def yU (h:lJ i M=some j):seqIndex? M i=some j/\j<i /\ -(i:Int)<=M/\M<i:=by
 unfold lJ at h;by_cases c:0<=M
 . rw[if_pos c]at h
   by_cases h1:M<i
   . rw[if_pos h1]at h
     have e:M.toNat=j:=Az h;exact⟨by rw[ahw c h1,e],by omega,by omega,h1⟩
   . rw[if_neg h1]at h;cases h
 . rw[if_neg c]at h
   by_cases h1:-(i:Int)<=M
   . rw[if_pos h1]at h
     have e:(M+i).toNat=j:=Az h;exact⟨by rw[seqIndex_neg (by omega) h1,e],by omega,h1,by omega⟩
   . rw[if_neg h1]at h;cases h
def sO {k:Type}{i:List k}{v:k}(h:cL i M=some v):∃j,seqIndex? M i.length=some j/\i[j]? = some v/\j<i.length /\ -(i.length:Int)<=M/\M<i.length:=by
 unfold cL at h;cases e:lJ i.length M with
 |none=>rw[e]at h;cases h
 |some j =>
  rw[e]at h;obtain⟨a,b,c,f⟩:=yU e;exact⟨j,a,h,b,c,f⟩
def hG {b:Type}{c:List b}{v:b}(h:c[j]? = some v):cL c (j:Int)=some v:=by
 have a:j<c.length:=(m5.mp h).1;have e:lJ c.length (j:Int)=some j:=by unfold lJ;rw[if_pos (by omega),if_pos (by omega)];simp
 unfold cL;rw[e];exact h
def FV {b:Type}(c:List b)(v:b):cL (c ++ [v]) (-1)=some v:=by
 have a:(c ++ [v]).length=c.length+1:=by simp
 have e:lJ (c ++ [v]).length (-1)=some c.length:=by unfold lJ;rw[a,if_neg (by decide),if_pos (by omega)];congr 1;omega
 unfold cL;rw[e];show(c ++ [v])[c.length]? = some v;simp
def oW (b:Expr):Prop:=∀o i,subscripted b false o i=operate [o,i] (OI o i)
def nD (X:Cx)(r:R2):Prop :=
 ∀(value slice:Expr) (c:List (Addr×Obj)) (s:lO) (h:lU) (H:Hp) (x y:V) (v u:Value) (Q:VK),lb X c h H s->lX x v->lX y u->r x y H Q ->
  subscripted slice false v u=operate [v,u] (OI v u)->wpAny (model X.prog X.w) X.A (agP value slice v u) (EP X c h Q) X.xe s
def MZ (X:Cx)(id:String)(r:V->List V->Hp->VK->Prop):Prop :=
 ∀(c:List (Addr×Obj)) (s:lO) (h:lU) (H:Hp) (x:V) (i:List V) (v:Value) (n:List Value) (Q:VK),lb X c h H s->lX x v->Vals i n->r x i H Q ->
  wpAny (model X.prog X.w) X.A (call (.builtin id) (v::n)) (EP X c h Q) X.xe s
def nD.or {e:R2}(h:nD X l)(p:nD X e):nD X (λx y H Q=>l x y H Q\/e x y H Q):=by
 intro value slice i s n H x y v u Q I a c q b;rcases q with q|q
 . exact h value slice i s n H x y v u Q I a c q b
 . exact p value slice i s n H x y v u Q I a c q b
def HY (k:nD X l)(j:PE X e U)(r:PE X K z)(o:oW K):PE X (.Subscript e K a) (CF l U z):=by intro n s p H Q I h;exact Subscript_ (FH j r I h λv u B x y b f c i q=>k e K n B p b x y v u Q f c i q (o _ _))
noncomputable def M0 (K:n3):R2:=λx y H Q=>∃p c i v,x = .ref p/\y = .int i/\dF K H p c/\cL c i=some v/\Q v H
noncomputable def M1 (K:n3):R2:=λx y H Q=>∃p c i v,x = .ref p/\y = .int i/\fu K H p c/\cL c i=some v/\Q v H
noncomputable def M3:R2:=λx y H Q=>∃z i c,x = .str z/\y = .int i/\z.length<=mK/\cL z.cps.toList i=some c/\Q (.str ⟨#[c]⟩) H
def JZ:nD X (M0 X.K):=by
 intro value slice n s B H x y v u Q I E J h e;obtain⟨p,xs,i,z,rfl,rfl,hq,O,q⟩:=h;cases E;obtain⟨t,rfl⟩:=J;obtain⟨R,r,c,hz⟩:=I.list hq;obtain⟨j,a,o,h3,U,Y⟩:=sO O;obtain⟨w,f,Z⟩:=r.get o;have l:=r.length;have hn:=lH;have fin:EP X n B Q w s:=⟨z,H,I,Z,q⟩
 by_cases C:0<=i
 . have b:i.toNat=j:=by
    rw[ahw C Y]at a;exact Az a
   exact item_listR c.isList C (by omega) (by rw[b];simpa using f) fin e
 . have b:(i+(R.toArray.size:Int)).toNat=j:=by
    rw[seqIndex_neg (by omega) U]at a;rw[ox,<- l];exact Az a
   exact adt (x:=w) c.isList.typeIs slot_list_getitem.lookup
    (wpAny_getItem_list_neg (Q:=λr k=>r=w/\EP X n B Q r k) c.isList (by omega) (by rw[ox]<;>omega) (by omega) (by rw[b];simpa using f) ⟨rfl,fin⟩) e
def M4:nD X (M1 X.K):=by
 intro value slice n s B H x y v u Q I o C h e;obtain⟨p,R,i,z,rfl,rfl,l,E,q⟩:=h;cases o;obtain⟨t,rfl⟩:=C;obtain⟨U,r,a,hz⟩:=I.tuple l;obtain⟨j,k,f,Y,Z,h5⟩:=sO E;obtain⟨w,J,O⟩:=r.get f;have c:=r.length;have hn:=lH;have fin:EP X n B Q w s:=⟨z,H,I,O,q⟩
 exact adt (x:=w) a.typeIs L2.lookup
  (getItem_tuple (j:=j) (Q:=λr b=>r=w/\EP X n B Q r b) a (by omega) (by omega) (by rw[ox,<- c];exact k) (by simpa using J) ⟨rfl,fin⟩) e
def M5:nD X M3:=by
 intro value slice C s E H x y v u Q I l n h f;obtain⟨z,i,c,rfl,rfl,hz,p,q⟩:=h;obtain⟨t,rfl⟩:=l;obtain⟨J,rfl⟩:=n;obtain⟨j,a,k,O,r,B⟩:=sO p;have e:z.cps.toList.length=z.length:=by simp[Str.length]
 rw[e]at a r B;have R:=lH;exact tail_any (typeIs_str s z t) slot_str_getitem.lookup (getItem_str (c:=c) (by have b:decide (i < -(2 ^ 63:Int))=false:=decide_eq_false (by omega);have o:decide (i>=2 ^ 63)=false:=decide_eq_false (by omega);rw[b,o,aew]) (by rw[a];simpa using k) ⟨.str ⟨#[c]⟩,H,I.tok _,⟨_,rfl⟩,q⟩) f
noncomputable def Zo (K:n3):R2:=λx y H Q=>M0 K x y H Q\/M1 K x y H Q\/M3 x y H Q
def CP:nD X (Zo X.K):=JZ.or (M4.or M5)
def A7 (c:List Value)(n j:Nat)(u:Value):Du (·.setIfInBounds j u) { cls:=.type "list",data:=.seq c.toArray n }={ cls:=.type "list",data:=.seq (c.set j u).toArray n }:=by simp[Du]
theorem lb.lst (I:lb X b y H s)(h:H f=some (.lst Z)):
  ∃(c:List Value) (n:Nat),Vals Z c/\s.heap.get? f=some { cls:=.type "list",data:=.seq c.toArray n }/\Z.length<=mK:=by
 obtain⟨z,c,n,r,e⟩:=I.aY f _ h;exact⟨c,n,r,e,z⟩
def lb.M6 {its':List Value}{c:Obj->Obj}(I:lb X b y H s)(h:H f=some (.lst Z))(k:s.heap.get? f=some { cls:=.type "list",data:=.seq Y.toArray i })(n:c { cls:=.type "list",data:=.seq Y.toArray i }={ cls:=.type "list",data:=.seq its'.toArray o })(r:Vals O its')(hz:O.length<=mK)(t:Nat):
  lb X b y (upd H f (.lst O)) { s with heap:=s.heap.update f c,toks:=t }:=by
 have e:(s.heap.update f c).get? f=some { cls:=.type "list",data:=.seq its'.toArray o }:=by rw[Nv c k (by rw[n]<;>rfl),n]
 refine I.write (x:=f) (e:=f) (by rw[h];trivial) (.inl rfl) (λp u a q=>(Zk _ _ (qP a)).trans q) ⟨_,e⟩ ?_;exact⟨hz,its',o,r,e⟩
noncomputable def RQ:V->V->V->Hp->(Hp->Prop)->Prop:=λo i v H Q=>∃p c k j,o = .ref p/\i = .int k/\H p=some (.lst c)/\lJ c.length k=some j/\Q (upd H p (.lst (c.set j v)))
def set_list:Fz X RQ:=by
 intro C s E H o i v Y iv u Q I J ri O h;obtain⟨p,R,k,j,rfl,rfl,z,U,q⟩:=h;cases J;obtain⟨t,rfl⟩:=ri;obtain⟨x,n,r,b,hz⟩:=I.lst z;obtain⟨a,h2,f,l⟩:=yU U;have c:=r.length;have Z:=lH
 have y:lb X C E (upd H p (.lst (R.set j v))) { s with heap:=s.heap.update p (Du (·.setIfInBounds j u)) }:=
   I.M6 z b (A7 x n j u) (r.set O j) (by rw[aga];exact hz) s.toks
 by_cases B:0<=k
 . have e:k.toNat=j:=by
    rw[ahw B l]at a;exact Az a
   exact PySem.W.ki_setAt b B (by omega) (by rw[ox,<- c];exact l) (by rw[e];exact⟨_,y,q⟩)
 . have e:(k+(x.toArray.size:Int)).toNat=j:=by
    rw[seqIndex_neg (by omega) f]at a;rw[ox,<- c];exact Az a
   exact PySem.W.ki_setBack b (by omega) (by rw[ox,<- c];exact f) (by omega) (by rw[e];exact⟨_,y,q⟩)
def we (e c:Option Int)(n:Nat):(W2 e c none n).1=((bz n 0 e:Nat):Int)/\(W2 e c none n).2.1=((bz n n c:Nat):Int)/\(W2 e c none n).2.2=1:=by
 refine⟨?_,?_,rfl⟩
 . cases e with
   |none=>simp[W2,bz]
   |some i =>
    simp only[W2,bz,ahF,show(1:Int)>0 by decide,if_true];by_cases h:i<0
    . simp only[h,if_true]<;>omega
    . simp only[h,if_false]<;>omega
 . cases c with
   |none=>simp[W2,bz]
   |some i =>
    simp only[W2,bz,ahF,show(1:Int)>0 by decide,if_true];by_cases h:i<0
    . simp only[h,if_true]<;>omega
    . simp only[h,if_false]<;>omega
def va (e:List Value)(f h:Option Int):slicePick e.toArray f h none=((e.drop (bz e.length 0 f)).take (bz e.length e.length h-bz e.length 0 f)).toArray:=by obtain⟨a,b,c⟩:=we f h e.toArray.size;unfold slicePick;rw[a,b,c];simp only[sliceRange_one,pick_run,ox]<;>rfl
noncomputable def M7 (K:n3):V->Option Int->Option Int->Hp->VK->Prop:=λx h b H Q=>∃a c,x = .ref a/\dF K H a c /\ ∀p,H p=none->Q (.ref p) (upd H p (.lst (nY c h b)))
def J0:pT X (M7 X.K):=by intro C s E H x v J z B c y Q I j i l pu h;obtain⟨a,n,rfl,k,q⟩:=h;cases j;obtain⟨O,r,e,f⟩:=I.list k;have p:=r.length;refine⟨"list",_,slot_list_getitem.lookup,e.isList.typeIs,?_⟩;refine wpAny_getItem_list_slice e.isList i l pu .none (by simp) ?_ (by rw[ox]<;>omega);rw[va,<- p];refine⟨.ref s.heap.objs.size,_,I.laid (t':=s.toks) (o:=.lst (nY n B c)) (λb u q=>nz _ q) (mn _) ?_,rfl,q _ (I.aY.fresh (mn _))⟩;exact⟨pe (pU n B c) f,_,0,(r.drop (bz n.length 0 B)).take (bz n.length n.length c-bz n.length 0 B),pR _ rfl⟩
noncomputable def jP:V->Bool
 |.ay=>true|.bl _=>true|.int _=>true|.str _=>true|_=>false
noncomputable def uh:V->V->Bool
 |.ay,d=>match d with|.ay=>true|_=>false
 |.bl e,d=>match d with|.bl K=>e == K|.int K=>(if e then 1 else 0)== K|_=>false
 |.int e,d=>match d with|.bl K=>e == (if K then 1 else 0)|.int K=>e == K|_=>false
 |.str e,d=>match d with|.str K=>e == K|_=>false
 |_,_=>false
def M8 (f:lX A u)(e:lX n w)(i:jP A=true)(h:jP n=true):SeqAt.EqAt T s u w (uh A n):=by
 cases A with
 |ay =>
  cases f;cases n with
  |ay=>cases e;exact SeqAt.EqAt.same _|bl b=>cases e;exact SeqAt.EqAt.none_bool b|int b=>obtain⟨t,rfl⟩:=e;exact SeqAt.EqAt.none_int b t
  |str b=>obtain⟨t,rfl⟩:=e;exact SeqAt.EqAt.none_str b t
  |_=>exact absurd (show false=true from h) L3
 |bl a =>
  cases f;cases n with
  |ay=>cases e;exact SeqAt.EqAt.bool_none a|bl b=>cases e;exact SeqAt.EqAt.bool_bool a b|int b=>obtain⟨t,rfl⟩:=e;exact SeqAt.EqAt.bool_int a b t
  |str b=>obtain⟨t,rfl⟩:=e;exact SeqAt.EqAt.bool_str a b t
  |_=>exact absurd (show false=true from h) L3
 |int a =>
  obtain⟨c,rfl⟩:=f;cases n with
  |ay=>cases e;exact SeqAt.EqAt.int_none a c|bl b=>cases e;exact SeqAt.EqAt.int_bool a c b|int b=>obtain⟨t,rfl⟩:=e;exact SeqAt.EqAt.int_int a c b t
  |str b=>obtain⟨t,rfl⟩:=e;exact agY a c b t
  |_=>exact absurd (show false=true from h) L3
 |str a =>
  obtain⟨c,rfl⟩:=f;cases n with
  |ay=>cases e;exact SeqAt.EqAt.str_none a c|bl b=>cases e;exact SeqAt.EqAt.str_bool a c b|int b=>obtain⟨t,rfl⟩:=e;exact agZ a c b t
  |str b=>obtain⟨t,rfl⟩:=e;exact SeqAt.EqAt.str_str a c b t
  |_=>exact absurd (show false=true from h) L3
 |_=>exact absurd (show false=true from i) L3
noncomputable def HZ (x:V)(u:Value):Bool:=match u with
 |.none=>uh .ay x|.bool e=>uh (.bl e) x|.int i _=>uh (.int i) x|.str z _=>uh (.str z) x|_=>false
def CQ (r:lX n u)(f:jP n=true):HZ A u=uh n A:=by
 cases n with
 |ay=>cases r;rfl|bl b=>cases r;rfl|int i=>obtain⟨t,rfl⟩:=r;rfl
 |str z=>obtain⟨t,rfl⟩:=r;rfl
 |_=>exact absurd (show false=true from f) L3
theorem wg {A:og}{s:lO}{x:V}{v:Value}(c:lX x v)(e:jP x=true):∀{h:List V} {i:List Value},Vals h i->h.all jP=true->∀u∈i,SeqAt.EqAt A s u v (HZ x u)
 |_,_,.nil,_=>λu hu=>by cases hu
 |y::h,u::i,.cons r t,f=>λa hu=>by
  rw[aex,l8]at f;rcases nv.mp hu with rfl|hu
  . rw[CQ r f.1];exact M8 r c f.1 e
  . exact wg c e t f.2 a hu
def wj:dX X (.builtin "len") (λx H Q=>∃p v,x = [.ref p]/\(dF X.K H p v\/fu X.K H p v)/\Q (.int v.length) H):=by
 intro y s B H x C Q I r h;obtain⟨p,v,rfl,a,q⟩:=h;obtain⟨u,rfl,f⟩:=Wn r;cases f;have j:=lH;rcases a with a|a
 . obtain⟨i,b,c,e⟩:=I.list a
   have n:=b.length;exact Calls.call_len_list c.isList (by simp only[ox]<;>omega) ⟨.int v.length,H,I.tok _,⟨s.toks+1,by rw[ox,n]⟩,q⟩
 . obtain⟨i,b,c,e⟩:=I.tuple a
   have n:=b.length;exact len_tuple c (by simp only[ox]<;>omega) ⟨.int v.length,H,I.tok _,⟨s.toks+1,by rw[ox,n]⟩,q⟩
def nF:dX X (.type "tuple") (λB H Q=>∃p n,B = [.ref p]/\((dF X.K H p n /\ ∀l,H l=none->Q (.ref l) (upd H l (.tup n)))\/(fu X.K H p n/\Q (.ref p) H))):=by
 intro C s E H B O Q I r h;obtain⟨p,n,rfl,h⟩:=h;obtain⟨u,rfl,x⟩:=Wn r;cases x;rcases h with⟨hq,q⟩|⟨hq,q⟩
 . obtain⟨f,c,i,j⟩:=I.list hq
   have J:=c.length;refine call_tuple_list i.isList (λa y=>?_) (by simp only[ox]<;>omega);have k:lb X C E H { s with heap:=a }:=I.kept (t':=s.toks) y;have v:lb X C E (upd H a.objs.size (.tup n)) { s with heap:=a.push { cls:=.type "tuple",data:=.seq f.toArray } }:=
    k.laid (t':=s.toks) (λb o e=>nz _ e) (mn _) (show eC X.prog X.w _ _ _ (.tup n) from⟨j,f,c,fI.new _ _⟩)
   exact⟨.ref a.objs.size,_,v,rfl,q _ (k.aY.fresh (mn _))⟩
 . obtain⟨f,c,i,j⟩:=I.tuple hq
   exact call_tuple_same i ⟨.ref p,H,I,rfl,q⟩
def Uq (K:n3)(T:String)(x:V)(H:Hp):Prop:=match x with
 |.str _=>T = "str"|.int _=>T = "int"
 |.ref p=>(T = "list" /\ ∃h,dF K H p h)\/(T = "tuple" /\ ∃o,K.lookup p=some o/\o.cls = .type "tuple" /\ o.dict=none) \/
  (T = "dict" /\ ((∃c,H p=some (.dK c)) \/ ∃c,H p=some (.dT c)))\/(T = "set" /\ ∃S n,H p=some (.set S n))
 |_=>False
def CS (I:lb X b y H s)(r:lX A u)(j:Uq X.K J A H):
  s.TypeIs u J /\ ∀a,u = .ref a->∃v,s.heap.get? a=some v/\v.dict=none:=by
 cases A with
 |str z =>
  obtain⟨t,rfl⟩:=r;cases (show J = "str" from j);exact⟨typeIs_str s z t,λ_ e=>nomatch e⟩
 |int i =>
  obtain⟨t,rfl⟩:=r;cases (show J = "int" from j);exact⟨afL s i t,λ_ e=>nomatch e⟩
 |ref p =>
  cases r;rcases j with⟨rfl,xs,hq⟩|⟨rfl,o,hk,hc,hd⟩|⟨rfl,hk⟩|⟨rfl,S,n,hk⟩
  . obtain⟨h,_,f,_⟩:=I.list hq
    refine⟨f.isList.typeIs,λa e=>?_⟩;cases e;obtain⟨o,n,e,c,hd,_⟩:=f;exact⟨o,e,hd⟩
  . refine⟨⟨o,I.nB p o hk,hc⟩,λa e=>?_⟩
    cases e;exact⟨o,I.nB _ o hk,hd⟩
  . have z:∃o,s.heap.get? p=some o/\o.ExactDict:=by
     rcases hk with⟨eE,hk⟩|⟨eE,hk⟩
     . obtain⟨_,_,_,_,o,_,_,e,ex,_⟩:=I.aY p _ hk
       exact⟨o,e,ex⟩
     . obtain⟨_,_,_,_,o,_,_,e,ex,_⟩:=I.aY p _ hk
       exact⟨o,e,ex⟩
    obtain⟨o,e,ex⟩:=z;refine⟨⟨o,e,ex.1⟩,λa q=>?_⟩;cases q;exact⟨o,e,ex.2.1⟩
  . obtain⟨o,_,_,_,e,ex,_⟩:=I.aY p _ hk
    refine⟨⟨o,e,ex.1⟩,λa q=>?_⟩;cases q;exact⟨o,e,ex.2.1⟩
 |_=>exact zi j
noncomputable def Zp (K:n3)(T:String)(r:V->List V->Hp->VK->Prop)(c:TE)(t:TA):TE:=λh H Q=>c h H λx i=>Uq K T x i/\t h i λn a=>r x n a Q
def RS {t:TA}{r:V->List V->Hp->VK->Prop}(L:PlainAttrs J)(slot:Slot J x I)(E:typeOf (.builtin I)=pure (.type "method_descriptor"))(A:MZ X I r)(P:PE X K U)(Y:PA X (e::B) t)(M:aey K x X.env (eval K X.env)=eval K X.env)(to:((tT C (m2 (e::B) X.env)).all (λname=>!name.1)&&(backToKw C (ahx [] X.env)).all (λname=>name.1.isSome)
   && decide ((e::B).length+([]:List Um).length+(if([]:List Um).isEmpty then 0 else 1)<30))=true)(O:(a.endLine == C.line)=true)(N:m2 (e::B) X.env=(false,eval e X.env)::m2 B X.env)(apos:(tT C (m2 B X.env)).any (·.1)=false):
  PE X (.Call (.Attribute K x a) (e::B) [] C) (Zp X.K J r U t):=by
 intro n s p H Q o h;refine agh M to O rfl (bf (P n s p H _ o h) λv s1 i=>?_);obtain⟨name,Z,c,b,ty,k⟩:=i;obtain⟨q,l⟩:=CS c b ty;refine⟨J,I,L,slot,E,q,l,?_⟩;have R:=Y C n s1 p Z _ c k;rw[N]at R ⊢
 refine aep (by show(false||(tT C (m2 B X.env)).any (·.1))=false;rw[apos]<;>rfl) (agE ?_)
 exact bf R λus s2 ⟨z,f,j,y,u⟩=>A n s2 p f name z v us Q j b y u
def Zq (X:Cx)(id:String)(r:V->List V->Hp->VK->Prop):Prop :=
 ∀(c:List (Addr×Obj)) (s:lO) (h:lU) (H:Hp) (x:V) (i:List V) (v:Value) (n:List Value) (Q:VK),lb X c h H s->lX x v->Vals i n->r x i H Q ->
  wpAny (model X.prog X.w) X.A (call (.builtin id) (v::n)) (EP X c h Q) X.xe s
def Vals.one (h:Vals [A] Y):∃u,Y = [u]/\lX A u:=by
 cases h with
 |cons r t=>cases t;exact⟨_,rfl,r⟩
theorem Vals.rep {c:List V}{i:List Value}(h:Vals c i):∀k:Nat,Vals (m6 k c).flatten (m6 k i).flatten
 | 0=>.nil|k+1=>by rw[VQ,VQ,F1,F1];exact Vals.append h (Vals.rep h k)
theorem bam (b:List Value):∀(k:Nat) (c:List Value),
  ahU (λh i=>h++i) c.toArray (m6 k b.toArray)=(c++(m6 k b).flatten).toArray
 | 0,c=>by simp
 |k+1,c=>by
  have e:c.toArray++b.toArray=(c++b).toArray:=by simp
  have a:(c++b)++(m6 k b).flatten=c++(m6 (k+1) b).flatten:=by rw[VQ,F1,ta]
  rw[<- a,<- bam b k (c++b),<- e,VQ,List.foldl_cons]
def lb.WQ {its':List Value}{c:Array Value->Array Value}(I:lb X b y H s)(n:H f=some (.lst Z))(e:s.heap.get? f=some { cls:=.type "list",data:=.seq Y.toArray i })(h:c Y.toArray=its'.toArray)(j:Vals O its')(hz:O.length<=mK):
  lb X b y (upd H f (.lst O)) { s with heap:=s.heap.update f (Du c),toks:=o }:=by
 have q:=PySem.IsL.update e c;rw[h]at q;refine I.write (x:=f) (e:=f) (by rw[n];exact trivial) (.inl rfl) (λp u a hu=>(Zk s.heap (Du c) (qP a)).trans hu) ⟨_,q⟩ ?_;exact⟨hz,its',_,j,q⟩
def lb.WR {t':Nat}(I:lb X b y H s)(c:Vals Z Y)(hz:Z.length<=mK):
  lb X b y (upd H s.heap.objs.size (.lst Z)) { s with heap:=s.heap.push { cls:=.type "list",data:=.seq Y.toArray },toks:=t' }:=
 I.laid (λ_ _ q=>nz _ q) (mn _) ⟨hz,Y,0,c,pR _ rfl⟩
theorem lb.fresh (I:lb X b y H s):H s.heap.objs.size=none:=I.aY.fresh (mn _)
def lb.WS (I:lb X b y H s)(a:H f=some (.lst Z)):Z.length<=mK /\ ∃(c:List Value) (n:Nat),Vals Z c/\Z.length=c.length/\s.heap.get? f=some { cls:=.type "list",data:=.seq c.toArray n }:=by obtain⟨z,c,n,r,e⟩:=I.aY f _ a;exact⟨z,c,n,r,r.length,e⟩
def FW (h:i<=mK):adh i=false:=by unfold adh;exact decide_eq_false (by omega)
noncomputable def J2:V->List V->Hp->VK->Prop:=λx a H Q=>∃l c y,x = .ref l/\a = [y]/\H l=some (.lst c)/\c.length<mK/\Q .ay (upd H l (.lst (c ++ [y])))
def ui:Zq X "list.append" J2:=by intro p s B H x o v C Q I i f h;obtain⟨l,E,y,rfl,rfl,b,j,q⟩:=h;cases i;obtain⟨u,rfl,c⟩:=f.one;obtain⟨z,a,n,r,k,e⟩:=I.WS b;refine Q7 F.slot_list_append ⟨_,e,rfl⟩ F.entry_list_append (F.args_list_append_2 _ _) (PySem.list_append l a.toArray n u (by rw[ox];omega)) ⟨e,?_⟩;refine⟨.ay,_,I.WQ (its':=a ++ [u]) b e (by simp) (r.append (.cons c .nil)) ?_,rfl,q⟩;rw[nN,aeH];omega
def len_rep {a:Type}(c:List a)(k:Nat):(m6 k c).flatten.length=k*c.length:=by
 induction k with
 |zero=>simp|succ k h=>rw[VQ,F1,nN,h,Nat.succ_mul,ag6]
end
section
open PySem.W PySem.Calls PyProof.Rows
variable {X:Params}{l:YP}
def qQ:∀(c:List Int) (h:List Value),WellAll X z h (c.map WData.int)->zY h c:=by
 intro c;induction c with
 |nil =>
  intro h w;rw[ag7]at w;cases w;exact .nil
 |cons n c i =>
  intro h w;rw[wk]at w;cases w with
  |cons a b =>
   cases a;exact .cons _ _ (i _ b)
def CT (v:l.most=some i){args:List WData}(u:l.row.toRowW.claim.pre args=true)(x:WellAll X z Y args):
  ∃a y h,Y = [AJ a]/\args = [WData.list (h.map WData.int)]/\z.get? a=some { cls:=.type "list",data:=.seq y.toArray }/\zY y h/\h.length<=i:=by
 have j:WShape.hasAll [] args [.list .int]=true:=(pre_splitW u).1;have e:l.pre.holds [] { args:=args }=true:=(pre_splitW u).2;obtain⟨d,r,rfl,f,o⟩:=hasAllW_cons j;obtain rfl:=hasAllW_nil o;obtain⟨H,rfl,k⟩:=hasW_list f;obtain⟨h,rfl⟩:=items_int k;have p:h.length<=i:=by
  unfold OpenLaw.pre at e;have c:(WTm.not (.lt (.lit (.int (i:Int))) (.len (.arg 0)))).holds [] { args:=[.list (h.map .int)] }=true:=by have c:=(holds_andW e).1;rw[v]at c;exact c
  have b:=condW_of c (w_not (w_lt w_lit (w_len_list (w_arg rfl))));rw[n7]at b;refine Nat.le_of_not_lt λq=>?_;have n:(i:Int)<((h.length:Nat):Int):=by omega
  first
   | (rw[decide_eq_true n]at b;exact absurd b (by decide))
   | (simp at b;omega)
 cases x with
 |cons B C =>
  cases C;cases B with
  |list ho E=>exact⟨_,_,h,rfl,rfl,ho,qQ h _ E,p⟩
def CU (l:YP)(args:List WData):l.row.toRowW.claim.post args (.bool true) args=true :=
 postW_of (r:=l.row.toRowW) (X:=(true == true))
  (show WShape.has [] (.bool true) .bool=true by first|rfl|decide|simp[WShape.has,WShape.arms,WShape.armsAll])
  (show(WTm.eq .res (.lit (.bool true))).value [] { args:=args,res:=some (.bool true),after:=args }=some (.bool (true == true)) from w_eq_bool (w_res rfl) w_lit) rfl
def yF {B:(Str->Option Value)->Heap->Prop}{C:World->Heap->Prop}{d:DefRec}(E:l.most=some i)(H:d.params.defaults = [])(call:∀(w:World) (s₀ s₁:lO) (mg U:Str->Option Value) (fa:Addr) (o:Obj) (pm O p:Value) (a:Addr) (I:List Value) (Q:List Int),
   Ground q Z [] B w s₀ mg U s₁.heap->C w s₁.heap ->
   s₁.heap.get? fa=some o->o.data = .func (docDef d.name d.params d.body d.scope pm O p)->s₁.heap.CodeRec O d.name->mg d.name=some (.ref fa) ->
   s₁.heap.get? a=some { cls:=.type "list",data:=.seq I.toArray }->zY I Q->Q.length<=i->s₁.gens = #[] ->
   HP (model l.prog w) Uw (.call (.ref fa) ⟨[.ref a],[]⟩) (λr R=>r = .ok (.ret (.bool true))/\OldK s₁.heap R.heap/\R.os=s₁.os/\Pd R.gens) s₁):
  WalkO q Z B C l.row.toRowW d [] (λf I=>agF f I):=by
 intro w s₀ s₁ mg U G Y fa o pm O p v kV b hd e hD s j args vals as u h ab c Ur;obtain rfl:v = .none:=Dflts.none hD H;obtain rfl:kV = .none:=Dflts.noKw hD;obtain⟨a,I,Q,rfl,rfl,z,hints,J⟩:=CT E u c;refine enter_call (Wg (call w s₀ s₁ mg U fa o pm O p a I Q G Y b (fd_plain hd) e s z hints J j) λr R k=>?_);obtain⟨rfl,n,x,y⟩:=k;exact⟨.inl ⟨.bool true,.bool true,[],rfl,λ_=>rfl,.bool true,CU l _,λ_=>⟨aho,λ_ hm=>(nomatch hm)⟩⟩,n,x,y⟩
end
section
open PyProof.Rows
variable {R:Array (Int×Value)}{t:Rq}{O:Option (Value×Nat)->lO->Prop}{K:Option Value->lO->Prop}{H:n3}{a:Addr}{C r p:Value}{B:Sp}{A:Lx}{u:Stmt}{y:wq}{w:Str->Option Value}
theorem jm:∀{c:List Value} {i:List Int},zY c i->Vals (i.map V.int) c
 |_,_,.nil=>.nil|_,_,.cons n t h=>.cons ⟨t,rfl⟩ (jm h)
def WT (H:Hp):Prop:=∀b,H b=none\/(∃o c,H b=some (.nA o (.lst c))) \/ ∃p q,H b=some (.cI p q)
structure TabsOk (K:n3)(ts:List Addr)(lx:Lx):Prop where
 hd:∀q∈lx.tb,∃c,adN K c q.1=true
 out:∀q∈lx.tb,K.lookup q.1=none
 mem:∀q∈lx.tb,q.1∈ts
 nd:(lx.tb.map (·.1)).Nodup
noncomputable def lK (l:List (Addr×Pos×Str)):Hp:=λb=>(l.lookup b).map λq=>.cI q.1 q.2
theorem sP:∀{l:List (Addr×Pos×Str)} {q:Addr×Pos×Str},(l.map (·.1)).Nodup->q∈l->lK l q.1=some (.cI q.2.1 q.2.2)
 |x::l,q,nd,h=>by
  unfold lK;rw[xW];rw[wk,Dx]at nd;rcases nv.mp h with rfl|h
  . simp
  . rw[show(q.1 == x.1)=false from beq_eq_false_iff_ne.mpr λe=>nd.1 (by rw[<- e];exact HB h)]
    exact sP nd.2 h
theorem n6:∀{l:List (Addr×Pos×Str)} {b:Addr} {u:HO},lK l b=some u->∃q∈l,q.1=b/\u = .cI q.2.1 q.2.2
 | [],b,u,h=>by cases h
 |x::l,b,u,h=>by
  unfold lK at h;rw[xW]at h;split at h
  . rename_i e
    cases h;exact⟨x,rj,(eq_of_beq e).symm,rfl⟩
  . obtain⟨q,m,r⟩:=n6 (l:=l) h
    exact⟨q,pP _ m,r⟩
def FY {vs:Str->Option Value}{CX:nX}(L:H.In s.heap)(S:s.heap.Ns tc w)(ns:s.heap.Ns afJ vs)(I:∀x:Str,x ≠ "__name__"->vs x=Qk x)(W:s.heap.NoLimit)(Zr:∃bm ob,BMod s.heap tc w bm ob)(X:s.gens = #[])(E:s.heap.get? a=some { cls:=.type "list",data:=.seq Y.toArray })(M:zY Y J)(Q:J.length<=mK)(C:dD i Uw)(TO:TabsOk H U A)(Na:∀q∈U,s.heap.get? q=some (Rh #[]))(F:∀base:Heap,H.In base->base.Ns tc w->eh q v H w base CX i f y [x] B)(T:∀(O:lO) (u:Value),ahj O y ⟨[u],[]⟩ [(x,u)])(sp:∀s₁:Hp,dF H s₁ a (J.map V.int)->(∀N∈A.tb,s₁ N.1=some (.cI N.2.1 N.2.2))->B [.ref a] s₁ (λK _=>K = .bl true) λ_ _ _=>False)(Z:∀s₁ e R,CX [] s₁ s (λ_ _ _=>False) e R->False):
  HP (model q v) Uw (.call (.ref f) ⟨[.ref a],[]⟩) (λr R=>r = .ok (.ret (.bool true))/\OldK s.heap R.heap/\R.os=s.os/\Pd R.gens) s:=by
 have rv:=jm M;have WV:=M.length;have tabs:∀N∈A.tb,s.heap.get? N.1=some (Rh #[]):=λN mg=>Na _ (TO.mem N mg);have core:∀s₁:Hp,WT s₁->dF H s₁ a (J.map V.int)->eF q v s₁ s.heap->(∀b,s₁ b≠none->b=a \/ ∃N∈A.tb,N.1=b)->(s₁ a≠none->H.lookup a=none)->(∀N∈A.tb,s₁ N.1=some (.cI N.2.1 N.2.2)) ->
    HP (model q v) Uw (.call (.ref f) ⟨[.ref a],[]⟩) (λr R=>r = .ok (.ret (.bool true))/\OldK s.heap R.heap/\R.os=s.os/\Pd R.gens) s:=by
  intro s₁ hO hS aY hA hK Zs;have P:∀{b:Addr} {o:Obj},s.heap.get? b=some o->s₁ b=none->(mC s.heap s₁).get? b=some o:=λe n=>Fv e n;have Us:∀{b:Addr} {o:Obj},s.heap.get? b=some o->o≠{ cls:=.type "list",data:=.seq Y.toArray }->o≠Rh #[]->s₁ b=none:=fun {b o} e d1 d2=>by
    cases N:s₁ b with
    |none=>rfl
    |some u =>
      rcases hA b (by rw[N];simp)with e'|⟨r,C,e'⟩
      . subst e';rw[E]at e;exact absurd (Az e).symm d1
      . have:=tabs r C;rw[e',e]at this;exact absurd (Az this) d2
  have qN:∀{b:Addr} {o:Obj} {es:Array sf} {ep:Nat},s.heap.get? b=some o->o.data = .dict es ep->s₁ b=none:=fun {b o es ep} e d=>Us e (λz=>by rw[z]at d;cases d) λz=>by rw[z]at d;cases d
  have l:∀{b:Addr} {m:Str->Option Value},s.heap.Ns b m->(mC s.heap s₁).Ns b m:=fun {b m} ⟨o,es,ep,e,d,r⟩=>⟨o,es,ep,P e (qN e d),d,r⟩
  have Ut:H.In (mC s.heap s₁):=λb o e=>P (L b o e) (by
    cases N:s₁ b with
    |none=>rfl
    |some u =>
      rcases hA b (by rw[N];simp)with e'|⟨r,C,e'⟩
      . subst e'
        rw[hK (by rw[N];simp)]at e;cases e
      . have:=TO.out r C;rw[e',e]at this;cases this)
  have hM:bab H w (mC s.heap s₁):=⟨Ut,l S,⟨vs,l ns,I⟩,let⟨mc,h1,h2⟩:=W;⟨mc,l h1,h2⟩,let⟨bm,ob,k⟩:=Zr
    ⟨bm,ob,l k.ns,k.name,k.ne,P k.obj (Us k.obj (λz=>by have:=k.cls;rw[z]at this;have this:tO "list" = .type "module":=this;exact absurd this (by decide)) λz=>by have:=k.cls;rw[z]at this;exact absurd this (by decide)),k.cls,k.dict,k.data⟩⟩
  have e0:qp q v H w (mC s.heap s₁) Uw [] s s₁:=⟨rfl,hM,λb o e=>JG e,aeU (Cp _ _),trivial,λb ns=>absurd (show b∈([]:List Addr) from ns) (by simp),aY,.of_eq X⟩
  refine Wg ((F _ Ut (l S)).run Uw [] s s₁ ⟨[.ref a],[]⟩ [.ref a] [.ref a] _ _ C e0 (T s (.ref a)) (.cons rfl .nil) (sp s₁ hS Zs)) λr R h=>?_;cases r with
  |error e=>exact(Z s₁ e R h).elim
  |ok fl =>
    cases fl with
    |next=>exact zi h|brk=>exact zi h|cont=>exact zi h
    |ret u =>
      obtain⟨K,H',os,bare,un,Nc,r',N⟩:=h;have q':K = .bl true:=N;subst q';obtain rfl:u=afI true:=r';have key:∀b o,s.heap.get? b=some o->R.heap.get? b=some o\/(∃r∈A.tb,r.1=b) /\ ∃j,R.heap.get? b=some (Rh j):=λb o e=>by
        cases N:s₁ b with
        |none=>exact .inl (un.keep b o e N (by intro z;exact absurd (show b∈([]:List Addr) from z) (by simp)) (by simp))
        |some u =>
          rcases hO b with z|⟨ob,xs,z⟩|⟨p,q',z⟩
          . rw[N]at z;cases z
          . have z2:=un.j3 b ob _ z
            obtain⟨lx,_⟩:=aY b _ z;obtain⟨e2,_⟩:=Nc b _ z2;rw[e]at lx;cases lx;exact .inl e2
          . have z2:=un.j4 b _ rfl z
            obtain⟨j,e2,_⟩:=Nc b _ z2;rcases hA b (by rw[N];simp)with e'|C
            . subst e'
              obtain⟨_,lx,_⟩:=aY b _ z;rw[E]at lx;cases lx
            . exact .inr ⟨C,j,e2⟩
      refine⟨rfl,⟨λb o e=>?_,λb o e=>?_⟩,os,bare⟩
      . rcases key b o e with i|⟨⟨r,C,e'⟩,j,i⟩
        . exact .inl i
        . obtain⟨c,hc⟩:=TO.hd r C
          have hP:=tabs r C;have hC:=(agU L hc).tab hP;rw[e']at hP hC;rw[e]at hP;cases hP;exact .inr (.inl ⟨hC.isCodeTable,rfl,#[],j,rfl,by rw[Array.empty_append];exact i⟩)
      . rcases key b o e with i|⟨_,j,i⟩
        . exact⟨_,i⟩
        . exact⟨_,i⟩
 have Uu:∀N∈A.tb,N.1≠a:=λN mg z=>by have:=tabs N mg;rw[z,E]at this;cases this
 have WW:eF q v (lK A.tb) s.heap:=λb u z=>by obtain⟨N,mg,rfl,rfl⟩:=n6 z;exact⟨#[],tabs N mg,trivial,.inl rfl⟩
 have Ia:∀b,lK A.tb b=none\/(∃o xs,lK A.tb b=some (.nA o (.lst xs))) \/ ∃p N,lK A.tb b=some (.cI p N):=λb=>by
  cases z:lK A.tb b with
  |none=>exact .inl rfl
  |some u =>
    obtain⟨N,_,_,rfl⟩:=n6 z;exact .inr (.inr ⟨_,_,rfl⟩)
 have FZ:∀b,lK A.tb b≠none->∃N∈A.tb,N.1=b:=λb z=>by
  cases e:lK A.tb b with
  |none=>exact absurd e z|some u=>obtain⟨N,h1,h2,_⟩:=n6 e;exact⟨N,h1,h2⟩
 cases hk:H.lookup a with
 |some o =>
  have e:=L a o hk;rw[E]at e;cases e;refine core (lK A.tb) Ia (.inr ⟨_,Y.toArray,_,hk,rfl,rfl,rfl,by rw[ox,WV];exact Q,by simpa using rv⟩) WW (λb z=>.inr (FZ b z)) (λz=>?_) λN mg=>sP TO.nd mg;obtain⟨N,mg,e⟩:=FZ a z;exact absurd e (Uu N mg)
 |none =>
  refine core (upd (lK A.tb) a (.nA { cls:=.type "list",data:=.seq Y.toArray } (.lst (J.map V.int)))) (λb=>?_) (.inl (.inr ⟨{ cls:=.type "list",data:=.seq Y.toArray },aT⟩)) (λb u z=>?_) (λb z=>?_) (λ_=>hk) λN mg=>by rw[aG (Uu N mg)];exact sP TO.nd mg
  . by_cases ns:b=a
    . subst ns;exact .inr (.inl ⟨_,_,aT⟩)
    . rw[aG ns];exact Ia b
  . by_cases ns:b=a
    . subst ns
      rw[aT]at z;cases z;exact⟨E,by rw[n7];exact Q,Y,_,rv,E⟩
    . rw[aG ns]at z
      obtain⟨N,mg,rfl,rfl⟩:=n6 z;exact⟨#[],tabs N mg,trivial,.inl rfl⟩
  . by_cases ns:b=a
    . exact .inl ns
    . rw[aG ns]at z;exact .inr (FZ b z)
def J3 {l:YP}{n k:Nat}{M:(Str->Option Value)->Heap->Prop}{B:World->Heap->Prop}{d:DefRec}{K:Params->n3}{CX:World->nX}{sp:World->Lx->Sp}(L:l.most=some n)(Q:n<=mK)(E:d.params.defaults = [])(J:dD k Uw)(I:∀(w:World) (h:Heap),B w h->(K w.params).In h /\ ∀P∈U,h.get? P=some (Rh #[]))(F:∀(w:World) (mg:Str->Option Value) (fa:Addr) (h:Heap),(K w.params).In h->h.Ns tc mg->mg d.name=some (.ref fa) ->
   ∃(fd:wq) (lx:Lx),TabsOk (K w.params) U lx/\(∀(s:lO) (u:Value),ahj s fd ⟨[u],[]⟩ [(x,u)]) /\
    ∀base:Heap,(K w.params).In base->base.Ns tc mg->eh l.prog w (K w.params) mg base (CX w) k fa fd [x] (sp w lx))(N:∀(w:World) (lx:Lx) (H:Hp) (a:Addr) (C:List Int),C.length<=n->dF (K w.params) H a (C.map V.int)->(∀q∈lx.tb,H q.1=some (.cI q.2.1 q.2.2))->sp w lx [.ref a] H (λv _=>v = .bl true) λ_ _ _=>False)(O:∀(w:World) (H:Hp) (s:lO) (e:Value) (R:lO),CX w [] H s (λ_ _ _=>False) e R->False):
  agQ q Z M B l.row.toRowW d [] (λf vs=>agF f vs):=by
 refine yF L E λw s₀ r mg mb fa o pm cd doc a vs C G Y ho hd jG M_ FX hints p hg=>?_;obtain⟨c,Na⟩:=I w _ Y;obtain⟨fd,lx,TO,y,hF⟩:=F w mg fa _ c G.T.g M_;obtain⟨bm,z,b1,b2,b3,b4,b5,b6⟩:=G.T.bmain;exact FY c G.T.g G.T.b G.T.builtins G.T.nolimit ⟨bm,z,G.T.g,b1,b2,b3,b4,b5,b6⟩ hg FX hints (pe p Q) J TO Na hF y (λH i j=>N w lx H a C p i j) λH e R=>O w H r e R
noncomputable def gr (s:Stmt):T6:=match s with
 |.FunctionDef _ a _ _ _ _ _ _ _ _=>a|_=>{ posonlyargs:=[],args:=[],vararg:=none,kwonlyargs:=[],kw_defaults:=[],kwarg:=none,defaults:=[] }
noncomputable def d9 (s:Stmt):List Stmt:=match s with
 |.FunctionDef _ _ b _ _ _ _ _ _ _=>b|_=>[]
noncomputable def bb (s:Stmt):Scope:=match s with
 |.FunctionDef _ _ _ _ _ _ sc _ _ _=>sc|_=>{ kind:=.function,names:=[],isGenerator:=false,isCoroutine:=false }
noncomputable abbrev iu:nX:=λ_ _ _ _ _ _=>False
noncomputable abbrev E0:XK:=λ_ _ _=>False
def A9:Passes iu X E0:=λ_ _ _ _ _ _ _ h=>h.elim
structure yV (K:n3)(x qual:Str)(st:Stmt)(f:Addr)(fd:wq):Prop where
 ex:∃(oc:Value) (od:Option Addr) (kV doc pm:Value) (an:Option Addr) (dG ct:Value) (wc:Array (Option Value)),
  fd=Ie x qual (gr st) (d9 st) (bb st) .none kV doc pm an dG ct/\K.lookup f=some ⟨oc,od,.func fd,wc⟩/\aed K dG qual=true
 kp:Oo K (.ref f)=true
def yV.ok {lx:Lx}{r:Str}{P:List Str}(F:yV H x r u f y)(S:jW Z P (bb u))(len:∀n p Q E,B n p Q E->n.length=P.length)(N:∀(C:Value) (A:og) (outer:List Env) (s:lO) (p:Hp) (n:List V) (Q:VK) (E:XK),y.code=C->dD i (A.deeper (MW r (bb u) s.heap.objs.size f C))->B n p Q E ->
   ∃t,ip (mG lx iu q v H w z Z r (bb u) f C A outer s p E).vY (d9 u) t/\t { nx:=λ_ I=>Q .ay I,rt:=Q } (rb Z n) p):eh q v H w z iu (i+1) f y P B:=by
 obtain⟨j,k,kV,J,O,R,C,l,o,rfl,a,c⟩:=F.ex;refine RN (lx:=lx) a c S len λA outer s p n Q E b e=>?_;obtain⟨t,h,K⟩:=N C A outer s p n Q E rfl b e;exact⟨t,h.vY,K⟩
def CW {a:Str}{q j:Option Addr}{e:Array (Option Value)}{i h ct:Value}(l:H.lookup f=some ⟨C,q,.func (Ie x a (gr u) (d9 u) (bb u) .none r p i j h ct),e⟩)(c:aed H h a=true)(k:Oo H (.ref f)=true):yV H x a u f (Ie x a (gr u) (d9 u) (bb u) .none r p i j h ct):=⟨⟨C,q,r,p,i,j,h,ct,e,rfl,l,c⟩,k⟩
def jX:Slot "set_iterator" "__next__" "set_iterator.__next__" :=
 .of (owner:="set_iterator") (n:="__next__") (by rw[aeV,adB];kernel_rfl) (by decide +kernel) (by decide +kernel) (by decide +kernel)
  (by first|exact .inl (by decide +kernel)|exact .inr (by decide +kernel)) (by rw[isSubtype_type];kernel_rfl)
def yW:entryFor table "set_iterator.__next__" = some tW.«set_iterator.__next__»:=entryFor_of_tree (by kernel_rfl)
def yX (a:Value):Vv "set_iterator.__next__" ⟨[a],[]⟩:=by unfold Vv;kernel_rfl
def J4:entryFor table "set.__iter__" = some tW.«frozenset.__iter__» :=
 entryFor_alias (id':="frozenset.__iter__") (by kernel_rfl) rfl (by decide +kernel) (by kernel_rfl)
noncomputable def OX (slot i:Nat)(a:Addr)(n b:Nat):Obj:={ cls:=.type "set_iterator",data:=.fields #[zk slot,zk i,.ref a,zk n,zk b] }
noncomputable def iI (c:Array (Int×Value))(a:Nat)(t:Rq):Obj:={ cls:=.type "set",data:=.set c a t }
def wu {slot':Nat}{hh:Int}(h:s.heap.get? a=some (iI R o t))(e:t.fits R.size=true)(k:v.params.followText "set-order" = false)(Q:t.led=true)(f:t.plain=true)(l:O (match R[p6 t.place j]?,t.place[p6 t.place j]? with|some (_,n),some p=>some (n,p+1)|_,_=>none) s):wpAny (model q v) T (OK a j i o) O E s:=by
 unfold OK;refine la (adx h rfl e ?_);dsimp only;unfold agG;refine la (la (adi (lr ?_)));have c:(aid ⟨(model q v).prog,(model q v).w.params⟩).followText "set-order" = false:=k;rw[c];simp only[ql,if_false];have dr:¬(!t.plain&&decide (R.size>1))=true:=by simp[f]
 show wpAny _ _ (if(!t.plain&&decide (R.size>1))=true then _ else _) _ _ s;rw[if_neg dr];have b:¬(!t.led && !R.isEmpty)=true:=by simp[Q]
 show wpAny _ _ ((if(!t.led && !R.isEmpty)=true then unsupported "set:maker-not-led" else pure ()) >>= _) _ _ s;rw[if_neg b];exact la (lr (lr l))
def uk (h:s.heap.get? a=some (iI R o t))(f:t.fits R.size=true)(Q:v.params.followText "set-order" = true)(k:O (((U4 (v.params.setOrder a o) R)[i]?).map λe=>(e.2,j)) s):wpAny (model q v) T (OK a j i o) O E s:=by
 have b:(aid ⟨(model q v).prog,(model q v).w.params⟩).followText "set-order" = true:=Q;unfold OK;refine la (adx h rfl f ?_);dsimp only;unfold agG;refine la (la (adi (lr ?_)));rw[b];have c:(o != o)=false:=by simp
 simp only[if_true,c,ql,if_false];refine la ?_;unfold setWalk agG;refine la (adx h rfl f ?_);dsimp only;refine la (la (adi (lr ?_)));rw[b];simp only[if_true];refine la (adi ?_);exact lr (lr k)
def CY (x:s.heap.get? f=some (OX j i a R.size o))(k:s.heap.get? a=some (iI R o t))(prog:t.fits R.size=true)(l:∀(T:og) (E:Value->lO->Prop) (K:Option (Value×Nat)->lO->Prop),K (some (C,h)) s->wpAny (model q v) T (OK a j i o) K E s)(Q:∀n,n.get? f=some (OX h (i+1) a R.size o)->Ma f s.heap n->K (some C) { s with heap:=n }):wpAny (model q v) T (Dv (.ref f)) K E s:=by
 have c:s.TypeIs (.ref f) "set_iterator":=⟨_,x,rfl⟩
 unfold Dv;refine la (agR (Nd (name:=F6 "__next__") c jX (zy jX c yW ?bd (yX _))));unfold tW.«set_iterator.__next__»;refine la (lr ?_);refine la (wpAny_fieldsOf x rfl ?_);show wpAny _ _ (setEntries a >>= _) _ _ s;refine la (ae2 k rfl prog ?_);have e:(((R.size:Nat):Int) != ((R.size:Nat):Int))=false:=by simp
 dsimp only;rw[e];simp only[ql,if_false];show wpAny _ _ (OK a (VL (j:Int)) (VL (i:Int)) (VL (o:Int)) >>= _) _ _ s;rw[L7,L7,L7];refine la (l _ _ _ ?_);dsimp only;refine la (aeg x rfl (by simp) ?_)
 have b:=Nv (Obj.mapFields (·.setIfInBounds 0 (zk (h:Int)))) x (by rfl)
 refine la (aeg b (vs:=#[zk (h:Int),zk i,.ref a,zk R.size,zk o]) (by rfl) (by simp) ?_);refine lr ⟨C,rfl,lr (Q _ ?_ ?_)⟩
 . exact(Nv (Obj.mapFields (·.setIfInBounds 1 (zk ((i:Int)+1)))) b (by rfl)).trans rfl
 . exact(Qs ..).trans (Qs ..)
def CZ {A:og}(hh:A.handled=none)(Q:s.heap.get? f=some (OX j i a R.size o))(prog:s.heap.get? a=some (iI R o t))(h:t.fits R.size=true)(k:∀(A:og) (E:Value->lO->Prop) (K:Option (Value×Nat)->lO->Prop),K none s->wpAny (model q v) A (OK a j i o) K E s)(l:∀n,agi f s.heap n->K none { s with heap:=n }):wpAny (model q v) A (Dv (.ref f)) K E s:=by
 have c:s.TypeIs (.ref f) "set_iterator":=⟨_,Q,rfl⟩
 unfold Dv;refine la (agR (Nd (name:=F6 "__next__") c jX (zy jX c yW ?bd (yX _))));unfold tW.«set_iterator.__next__»;refine la (lr ?_);refine la (wpAny_fieldsOf Q rfl ?_);show wpAny _ _ (setEntries a >>= _) _ _ s;refine la (ae2 prog rfl h ?_);have e:(((R.size:Nat):Int) != ((R.size:Nat):Int))=false:=by simp
 dsimp only;rw[e];simp only[ql,if_false];show wpAny _ _ (OK a (VL (j:Int)) (VL (i:Int)) (VL (o:Int)) >>= _) _ _ s;rw[L7,L7,L7];refine la (k _ _ _ ?_);dsimp only;refine la (aeg Q rfl (by simp) ?_);refine la ?_;simp only[newExc,newTuple];refine la (x3 ?_ (by size_fits));refine la (m:=ae8 _ _) (ahy (a:=zb) (by first|rfl| (simp only[ae8];rfl)) ?_);refine x3 ?_ (by size_fits);simp only[raiseNew];refine la (wpAny_handled ?_);rw[show A.in1.handled=none from hh];refine la (lr (wpAny_throw ?_));refine la (aez (T:="StopIteration") (b:=true) ⟨_,pR _ rfl,rfl⟩ isSubtype_stop ?_);exact lr (l _ (((Qs ..).extBut.push _).push _))
def yY:Slot "set_iterator" "__iter__" "set_iterator.__iter__" :=
 .of (owner:="set_iterator") (n:="__iter__") (by rw[aeV,adB];kernel_rfl) (by decide +kernel) (by decide +kernel) (by decide +kernel)
  (by first|exact .inl (by decide +kernel)|exact .inr (by decide +kernel)) (by rw[isSubtype_type];kernel_rfl)
def J5:entryFor table "set_iterator.__iter__" = some tW.«dict_keyiterator.__iter__» :=
 entryFor_alias (id':="dict_keyiterator.__iter__") (by kernel_rfl) rfl (by decide +kernel) (by kernel_rfl)
def J6 (a:Value):Vv "set_iterator.__iter__" ⟨[a],[]⟩:=by unfold Vv;kernel_rfl
section
variable {prog:te}{w:World}{A:og}{E:Value->lO->Prop}{s:lO}{I a:Addr}{es:Array (Int×Value)}{ep:Nat}{t:Rq}{slot i:Nat}
def C0 (c:s.heap.get? I=some (OX slot i a es.size ep))(h:Q (.ref I) s):wpAny (model prog w) A (SJ (.ref I)) Q E s:=by
 have b:s.TypeIs (.ref I) "set_iterator":=⟨_,c,rfl⟩
 refine wpAny_pyIter_slot b yY (zy yY b J5 ?_ (J6 _));show wpAny _ _ (ret (.ref I)) _ _ s;exact lr ⟨_,rfl,"set_iterator",_,b,jX.lookup,h⟩
structure Way (prog:te)(w:World)(a:Addr)(es:Array (Int×Value))(ep:Nat)(t:Rq)(ord:List Value)(ok:Nat->Nat->Prop):Prop where
 fit:t.fits es.size=true
 len:ord.length=es.size
 zero:ok 0 0
 step:∀i slot,i<es.size->ok i slot->∃x nR,ord[i]? = some x/\ok (i+1) nR /\ ∀(s:lO) (A:og) (E:Value->lO->Prop) (Q:Option (Value×Nat)->lO->Prop),s.heap.get? a=some (iI es ep t)->Q (some (x,nR)) s->wpAny (model prog w) A (OK a slot i ep) Q E s
 stop:∀slot,ok es.size slot->∀(s:lO) (A:og) (E:Value->lO->Prop) (Q:Option (Value×Nat)->lO->Prop),s.heap.get? a=some (iI es ep t)->Q none s->wpAny (model prog w) A (OK a slot es.size ep) Q E s
def walks {ok:Nat->Nat->Prop}(W:Way prog w a es ep t Y ok)(hh:A.handled=none)(C:a≠I):
  Walks prog w A I [I,a] [I] es.size (λi v=>Y[i]? = some v) (λi h=>(∃slot,ok i slot/\h.get? I=some (OX slot i a es.size ep))/\h.get? a=some (iI es ep t)) where
 sub:=λb f=>by simp at f;simp[f]
 frame:=λ_ _ _ st u=>⟨let⟨j,q,e⟩:=st.1;⟨j,q,u I (by simp) _ e⟩,u a (by simp) _ st.2⟩
 item:=λi s Q E hi st k=>by obtain⟨⟨j,q,e⟩,c⟩:=st;obtain⟨x,y,hx,hq,hn⟩:=W.step i j hi q;refine CY e c W.fit (λA E Q h=>hn s A E Q c h) λl z r=>?_;exact k _ l s.toks hx ⟨⟨y,hq,z⟩,r.extBut a _ C c⟩ λb o f e=>r.extBut b o (λh=>f (by simp[h])) e
 done:=λs Q E st k=>by obtain⟨⟨j,q,e⟩,c⟩:=st;exact CZ hh e c W.fit (λA E Q h=>W.stop j q s A E Q c h) λl he=>k l s.toks λb o f e=>he b o (λh=>f (by simp[h])) e
 self:=λi s Q E st k=>by obtain⟨⟨j,q,e⟩,c⟩:=st;exact C0 e k
theorem yZ {b:Type}:∀(l:List b) (i:Nat) (h:i<l.length),(l[i]::l.eraseIdx i).Perm l
 |x::l,0,h=>by simp|x::l,i+1,h=>by have:=yZ l i (by simpa using h);simp only[List.getElem_cons_succ,List.eraseIdx_cons_succ];exact(aih _ _ _).trans (this.cons x)
theorem y4 {b:Type}(f:Nat->Nat):∀(n k:Nat) (l:List b) (out:Array b),n=l.length->(ag8 f n k l out).toList.Perm (out.toList++l)
 | 0,k,l,out,h=>by have:l = []:=acL.mp h.symm;subst this;simp[ag8]
 |n+1,k,l,out,h=>by
  have a:0<l.length:=by omega
  have hm:=Nat.mod_lt (f k) a;rw[ag8,mA hm];dsimp only;refine(y4 f n (k+1) _ _ (by rw[List.length_eraseIdx_of_lt hm];omega)).trans ?_;rw[Array.toList_push,ta,agv];exact List.Perm.append_left _ (yZ l _ hm)
def um {b:Type}(f:Nat->Nat)(c:Array b):(U4 f c).toList.Perm c.toList:=by have:=y4 f c.size 0 c.toList #[] (by simp);simpa[U4]using this
def WX (k:t.fits es.size=true)(l:w.params.followText "set-order" = true):Way prog w a es ep t ((U4 (w.params.setOrder a ep) es).toList.map (·.2)) (λ_ slot=>slot=0):=by
 have f:(U4 (w.params.setOrder a ep) es).toList.length=es.toList.length:=(um _ es).length_eq;have h:(U4 (w.params.setOrder a ep) es).size=es.size:=by simpa using f
 refine⟨k,by simp[h],rfl,λi slot j n=>?_,λslot n s A E Q c b=>?_⟩
 . subst n
   have e:i<(U4 (w.params.setOrder a ep) es).size:=by omega
   refine⟨(U4 (w.params.setOrder a ep) es)[i].2,0,by simp[e],rfl,λs A E Q c b=>?_⟩;refine uk c k l ?_;rw[HM e];exact b
 . subst n
   refine uk c k l ?_;rw[aeq (by omega)];exact b
def WY (k:t.fits es.size=true)(o:w.params.followText "set-order" = false)(q:t.led=true)(l:t.plain=true)(u:t.place.size=es.size)(r:p6 t.place 0=0)
   (hw:∀i j,t.place[i]? = some j->p6 t.place (j+1)=i+1):Way prog w a es ep t (es.toList.map (·.2)) (λi slot=>p6 t.place slot=i):=by
 refine⟨k,by simp,r,λi slot e h=>?_,λslot h s A E Q c b=>?_⟩
 . have f:i<t.place.size:=by omega
   refine⟨es[i].2,t.place[i]+1,by simp[e],hw i _ (HM f),λs A E Q c b=>?_⟩;refine wu (slot':=0) (hh:=0) c k o q l ?_;rw[h,HM e,HM f];exact b
 . refine wu (slot':=0) (hh:=0) c k o q l ?_
   rw[h,aeq (by omega)];exact b
end
def F0:typeLookup (.type "set") "__len__" = pure (some (.builtin "set.__len__")):=by rw[aeV,adB];kernel_rfl
section
def C2 {Q:Bool->lO->Prop}(c:s.heap.get? a=some (iI R i t))(b:t.fits R.size=true)(j:v.params.followText "set-order" = true\/t.plain=true)(f:Q false s):wpAny (model q v) T (setDrawn a) Q E s:=by
 unfold setDrawn;refine la (adx c rfl b ?_);dsimp only;unfold agG;refine la (la (adi (lr ?_)));have e:(!v.params.followText "set-order" && (!t.plain&&decide (R.size>1)))=false:=by rcases j with h|h<;>simp[h]
 refine lr ?_;show Q (!v.params.followText "set-order" && (!t.plain&&decide (R.size>1))) s;rw[e];exact f
def F4 (c:s.heap.get? a=some (iI R i t))(e:t.fits R.size=true)(h:v.params.followText "set-order" = true\/t.plain=true)(f:Q (.ref s.heap.objs.size) { s with heap:=s.heap.push (OX 0 0 a R.size i) }):wpAny (model q v) T (SJ (.ref a)) Q E s:=by
 have b:s.TypeIs (.ref a) "set":=⟨_,c,rfl⟩
 refine wpAny_pyIter_slot b F.slot_set_iter (zy F.slot_set_iter b J4 ?_ (F.args_set_iter_1 _));unfold tW.«frozenset.__iter__» ajC slotArgs;simp only[List.isEmpty_nil,adR,ql,↓reduceIte,bind_assoc,ahW,bne_self_eq_false];unfold aje ajf;refine la (lr ?_);try dsimp only
 refine la (lr ?_);refine la (la (ae2 c rfl e (lr ?_)));refine la (C2 c e h ?_);simp only[ql,if_false];refine la (lr ?_);refine la (wpAny_setEpoch_of c rfl e ?_);refine la (m:=newFields _ _) (x3 ?_);exact lr ⟨_,rfl,"set_iterator",_,⟨_,pR _ rfl,rfl⟩,jX.lookup,f⟩
set_option maxHeartbeats 4000000 in
def yG {w:World}{A:og}{ok:Nat->Nat->Prop}{Q:List Value->lO->Prop}(W:Way q w a R i t Y ok)(hh:A.handled=none)(B:s.heap.get? a=some (iI R i t))(K:w.params.followText "set-order" = true\/t.plain=true)(C:R.size<=mK)(J:∀(p:Heap) (tk:Nat),s.heap.objs.size<p.objs.size->(∀b o,s.heap.get? b=some o->p.get? b=some o)->Q Y { s with heap:=p,toks:=tk }):wpAny (model q w) A (collect (.ref a)) Q E s:=by
 have O:a<s.heap.objs.size:=nC B;have prog:s.heap.objs.size≠a:=λe=>B5 _ (e ▸ O);unfold collect;refine la (wpAny_runValue (RR F.entry_proto_collect ?_));rw[VW F.plain_proto_collect _];show wpAny _ A.in1 (newList [] >>= λl=>again (.builtin "list.__iadd__" ⟨[l,.ref a],[]⟩)) _ _ s;refine la (x3 ?_);refine lr ⟨Zt F.plain_list_iadd _,RR F.entry_list_iadd ?_⟩;rw[VW F.plain_list_iadd _];show wpAny _ A.in1 (afj (.ref s.heap.objs.size) (.ref a) (.ref s.heap.objs.size)) _ _ _;unfold afj;have r:(s.heap.push { cls:=.type "list",data:=.seq ([]:List Value).toArray }).get? a=some (iI R i t):=nz _ B;refine la (U0 (T:="set") ⟨_,r,rfl⟩ ?_);have h1:afY (.ref s.heap.objs.size) (.ref a)=false:=by simp[afY,prog]
 have h2:(tO "set" == tO "list")=false:=by decide
 have h3:(tO "set" == tO "tuple")=false:=by decide
 simp only[h1,h2,h3,aew,ql,if_false];refine la (F4 r W.fit K ?_);refine la (vn ?_);generalize u:s.heap.push { cls:=.type "list",data:=.seq ([]:List Value).toArray }=H at *;have n:H.objs.size=s.heap.objs.size+1:=by rw[<- u,H9]
 have f:(H.push (OX 0 0 a R.size i)).get? a=some (iI R i t):=nz _ r;unfold Builtin.List.listLengthHint;refine la (agb (T:="set") ⟨_,f,rfl⟩ F0 ?_)
 wp_delta
 refine la (aez (T:="set") (v:=.ref a) (b:=true) ⟨_,f,rfl⟩ sub_set_self ?_);show wpAny _ A.in1 (typeOf (AJ a) >>= _) _ _ _;refine la (U0 (T:="set") (v:=.ref a) ⟨_,f,rfl⟩ ?_);refine lr ?_;show wpAny _ A.in1 (rule "list.extend.makes-room" >>= λ_=>Builtin.List.listTouch (.ref s.heap.objs.size) >>= λ_ =>
   again (.builtin "list.extend.loop" ⟨[.ref s.heap.objs.size,.ref H.objs.size,.ref s.heap.objs.size],[]⟩)) _ _ _
 refine la (yo ?_);have z:(H.push (OX 0 0 a R.size i)).get? s.heap.objs.size=some { cls:=.type "list",data:=.seq ([]:List Value).toArray }:=nz _ (u ▸ pR _ rfl);refine la ?_
 show wpAny _ A.in1 (updateSeq s.heap.objs.size (·.push .none) >>= λ_=>updateSeq s.heap.objs.size (·.pop)) _ _ _
 refine la (agc z rfl ?_)
 have U:=Nv (Du (·.push zb)) z rfl
 refine agc U rfl ?_
 have Zu:=Nv (Du (·.pop)) U rfl
 have dC:∀b o,b≠s.heap.objs.size->(H.push (OX 0 0 a R.size i)).get? b=some o ->
     (((H.push (OX 0 0 a R.size i)).update s.heap.objs.size (Du (·.push zb))).update s.heap.objs.size (Du (·.pop))).get? b=some o :=
   λb o c e=>(Zk _ _ (qP c)).trans ((Zk _ _ (qP c)).trans e)
 have Zv:a≠H.objs.size:=by rw[n];exact p8 (Nb O)
 have Z:H.objs.size≠s.heap.objs.size:=by rw[n];exact ahI _
 have y9:s.heap.objs.size ∉ [H.objs.size,a]:=by simp only[nv,Ex,or_false,not_or];exact⟨qP Z,prog⟩
 refine lr ⟨Zt F.plain_extend_loop _,codeAny_extend_loopS (walks W (I:=H.objs.size) (A:=A.in1) (by simp[hh]) Zv).toS C _ y9 _ R.size 0 _ _ _ rfl (ro _)
   ⟨⟨0,W.zero,dC _ _ Z (pR _ rfl)⟩,dC _ _ (qP prog) f⟩ Zu (ItemsOf.nil _) λx k c' hm y_ Nh=>?_⟩
 show wpAny _ A (load s.heap.objs.size >>= _) _ _ x;refine la (wpAny_load y_ ?_);have WZ:k.toList=Y:=by
   apply ady;intro j;by_cases hj:j<k.size
   . have:=Nh.2 j k[j] (HM hj)
     rw[this,adC,HM hj]
   . have e1:=Nh.1
     rw[Pw (by simp;omega),Pw (by rw[W.len];omega)]
 refine lr ?_;rw[WZ];obtain⟨p,g',d',uq,CL⟩:=x;have eg:g'=s.gens:=hm.gens;have ed:d'=s.drawn:=hm.drawn;have eo:CL=s.os:=hm.os;subst eg;subst ed;subst eo;refine J p uq (nC y_) λb o e=>?_;have y:=nC e;have nb:b≠s.heap.objs.size:=p8 y;have Zw:b≠H.objs.size:=by rw[n];exact p8 (Nb y)
 refine hm.heap b o (λc=>?_) (dC b o nb (nz _ (u ▸ nz _ e)));rcases nv.mp c with h|h
 . exact nb h
 . exact Zw (afk.mp h)
end
noncomputable def tb (P:List Nat)(led:Bool):Rq:={ mask:=7,place:=P.toArray,dummies:=#[],finger:=0,led:=led,moves:=0,plain:=true }
end
section
variable {Z:Array Nat}
def qR (c:Array Nat):Prop:=c.toList.Pairwise (· < ·)
def qS (h:qR Z)(a:j<Z.size)(b:i<j):Z[i]'(by omega)<Z[j]:=by have:=(List.pairwise_iff_getElem.mp h) i j (by simpa using afZ b a) (by simpa using a) b;simpa using this
theorem qq {q:Array Nat}(h:qR q){j:Nat}:∀(n p hi:Nat),p<=hi->hi<=q.size->hi-p<=n->(∀i (hz:i<q.size),i<p->q[i]< j)->(∀i (hz:i<q.size),hi<=i->j<=q[i]) ->
  p<=adz q j n p hi/\adz q j n p hi<=hi/\(∀i (hz:i<q.size),i<adz q j n p hi->q[i]< j)/\(∀i (hz:i<q.size),adz q j n p hi<=i->j<=q[i])
 | 0,p,hi,h1,h2,x,r,u=>by
  have:p=hi:=by omega
  subst this;exact⟨mn _,mn _,r,u⟩
 |n+1,p,hi,h1,h2,x,r,u=>by
  unfold adz;by_cases v:p<hi
  . rw[if_pos v]
    dsimp only;have hm:(p+hi) / 2<q.size:=by omega
    have l:q.getD ((p+hi) / 2) j=q[(p+hi) / 2]:=by simp[hm]
    rw[l];split
    . rename_i f
      obtain⟨a,b,c,d⟩:=qq h n ((p+hi) / 2+1) hi (by omega) h2 (by omega) (λi k o=>by
       by_cases e:i=(p+hi) / 2
       . subst e;exact f
       . exact afZ (qS h hm (by omega)) f) u
      exact⟨by omega,b,c,d⟩
    . rename_i f
      obtain⟨a,b,c,d⟩:=qq h n p ((p+hi) / 2) (by omega) (by omega) (by omega) r (λi k y=>by
       by_cases e:i=(p+hi) / 2
       . subst e;omega
       . have:=qS h k (show(p+hi) / 2<i by omega)
         omega)
      exact⟨a,by omega,c,d⟩
  . rw[if_neg v]
    have:p=hi:=by omega
    subst this;exact⟨mn _,mn _,r,u⟩
def mL (h:qR Z)(j:Nat):p6 Z j<=Z.size/\(∀i (hi:i<Z.size),i<p6 Z j->Z[i]< j)/\(∀i (p:i<Z.size),p6 Z j<=i->j<=Z[i]):=by obtain⟨_,a,b,c⟩:=qq h (j:=j) Z.size 0 Z.size (ro _) (mn _) (by omega) (λi hi e=>by omega) (λi hi n=>by omega);exact⟨a,b,c⟩
def C3 (h:qR Z)(j:Nat):(Z[p6 Z j]? == some j)=true ↔ j∈Z:=by
 obtain⟨a,b,c⟩:=mL h j;rw[beq_iff_eq];constructor
 . intro e
   exact aeJ e
 . intro hm
   obtain⟨i,f,e⟩:=Array.mem_iff_getElem.mp hm;have q:¬i<p6 Z j:=λk=>by have:=b i f k;omega
   have r:¬p6 Z j<i:=λk=>by
    have l:p6 Z j<Z.size:=by omega
    have:=c _ l (mn _);have:=qS h f k;omega
   have o:p6 Z j=i:=by omega
   rw[o,HM f,e]
structure mM (t:Rq)(n:Nat):Prop where
 dm:t.dummies = #[]
 pl:t.plain=true
 sz:t.place.size=n
 ri:qR t.place
 le:∀j∈t.place,j<=t.mask
 mx:t.mask=7
 n4:n<=4
theorem mM.fits (h:mM t n):t.fits n=true:=by
 have hd:t.dummies.size=0:=by rw[h.dm];rfl
 have a:=h.sz;have hm:=h.mx;have b:=h.n4;unfold aiH agS;simp only[l8,beq_iff_eq,decide_eq_true_eq];exact⟨a,by omega⟩
theorem mM.slot (h:mM t n)(j:Nat):(j ∉ t.place->t.slot j = .empty)/\(j∈t.place->∃i,t.slot j = .live i):=by
 have a:=C3 h.ri j;unfold SetTable.slot;dsimp only;constructor
 . intro b
   have:(t.place[p6 t.place j]? == some j)=false:=by
    cases e:(t.place[p6 t.place j]? == some j)with
    |false=>rfl|true=>exact absurd (a.mp e) b
   rw[this,h.dm];have c:af0 #[] j=false:=by simp[af0]
   rw[c];rfl
 . intro hm
   rw[a.mpr hm];exact⟨_,rfl⟩
def J7 (T:mM t n)(f:i<=7)(h:i ∉ t.place):t.freeSlot (i:Int)=some (i,false):=by
 have c:∀i:Nat,i<=7->aiI (i:Int) % 8=i:=by decide
 have b:(t.probeStart (i:Int)).j=i:=by show aiI (i:Int) % (t.mask+1)=i;rw[T.mx];exact c i f
 have a:(t.probeStart (i:Int)).dummy=none:=rfl;have e:10*agw t.mask=10*agw t.mask-1+1:=by unfold agw;omega
 unfold SetTable.freeSlot SetTable.probe;rw[e];unfold SetTable.probe.go;rw[b,(T.slot i).1 h];dsimp only;rw[a];rfl
def wy {a:Type}(c:Array a)(p:Nat)(x:a):(TZ c p x).toList=c.toList.take p++x::c.toList.drop p:=by unfold TZ;simp;exact Dc (by simp)
def j8 {a:Type}(c:Array a)(p:Nat)(x:a):(TZ c p x).toList.Perm (x::c.toList):=by rw[wy];refine List.perm_middle.trans ?_;rw[List.take_append_drop]
def J8 (h:qR Z)(s:j ∉ Z):qR (TZ Z (p6 Z j) j):=by
 obtain⟨a,b,c⟩:=mL h j;unfold qR;rw[wy,List.pairwise_append];have n:∀x∈Z.toList.take (p6 Z j),x<j:=λx k=>by obtain⟨i,f,e⟩:=Qe.mp k;rw[yN]at f;rw[ahq]at e;have:=b i (by simp at f;omega) (by omega);rw[<- e];simpa using this
 have f:∀x∈Z.toList.drop (p6 Z j),j<x:=λx k=>by
   obtain⟨i,f,e⟩:=Qe.mp k;rw[adf]at f;rw[List.getElem_drop]at e;have o:p6 Z j+i<Z.size:=by simp at f;omega
   have r:=c _ o (by omega);have q:Z[p6 Z j+i]=x:=by simpa using e
   have:x≠j:=λz=>s (by rw[<- z,<- q];exact afC o);omega
 refine⟨h.sublist (afB _ _),List.pairwise_cons.mpr ⟨f,h.sublist (List.drop_sublist _ _)⟩,λx k y l=>?_⟩;rcases nv.mp l with rfl|l
 . exact n x k
 . exact afZ (n x k) (f y l)
structure A_ (t:Rq)(n:Nat):Prop where
 dm:t.dummies = #[]
 pl:t.plain=true
 sz:t.place.size=n
 ri:qR t.place
 le:∀j∈t.place,j<=t.mask
theorem A_.fits (h:A_ t n)(b:n<=t.mask):t.fits n=true:=by
 have hd:t.dummies.size=0:=by rw[h.dm];rfl
 have a:=h.sz;unfold aiH agS;simp only[l8,beq_iff_eq,decide_eq_true_eq];exact⟨a,by omega⟩
def Ni (T:mM t n){es:Array (Int×Value)}(l:es.size=n)(f:j<=7)(h:j ∉ t.place)(x:Value):∃q p,layNew t es (j:Int) x=(q,p,false,false)/\A_ p (n+1)/\p.mask=t.mask/\p.led=t.led/\q.toList.Perm (((j:Int),x)::es.toList)/\q.size=n+1 /\ ∀i∈p.place,i=j\/i∈t.place:=by
 have e:=J7 T f h;have hm:j<=t.mask:=by rw[T.mx];exact f
 have hd:af0 #[] j=false:=by simp[af0]
 have a:(TZ es (p6 t.place j) ((j:Int),x)).size=n+1:=by have:=(j8 es (p6 t.place j) ((j:Int),x)).length_eq;simp at this;omega
 have P:A_ { t with place:=TZ t.place (p6 t.place j) j,dummies:=t.dummies } (n+1):=by
  refine⟨T.dm,T.pl,?_,J8 T.ri h,λk f=>?_⟩
  . have:=(j8 t.place (p6 t.place j) j).length_eq
    have:=T.sz;simp at *;omega
  . have:=(j8 t.place (p6 t.place j) j).mem_iff.mp (by simpa using f)
    rcases nv.mp this with rfl|h'
    . exact hm
    . exact T.le k (by simpa using h')
 have b:t.put j=({ t with place:=TZ t.place (p6 t.place j) j,dummies:=t.dummies },p6 t.place j):=by unfold SetTable.put;dsimp only;rw[T.dm,hd];rfl
 have hf:=P.fits (by show n+1<=t.mask;have:=T.mx;have:=T.n4;omega)
 refine⟨TZ es (p6 t.place j) ((j:Int),x),_,?_,P,rfl,rfl,j8 _ _ _,a,λi c=>nv.mp ((j8 t.place (p6 t.place j) j).mem_iff.mp (by simpa using c)) |>.imp id (by simp)⟩;unfold layNew;rw[e];dsimp only;rw[b];dsimp only;rw[a,hf];unfold SetTable.orStandIn;rw[hf];rfl
end
section
open PyProof.Rows
variable {c:Expr}{k:Bool}{R:List Stmt}{p t:Pos}{C:Env}{A:Value->Value->Sem Value}{w:Bool->Hp->Prop}{u:Stmt}{r:List (Str×Addr)}{n:VK}{m:Int->Int->Bool}{l:wq}{j:List V}{h:Value}{g:HO}{d:CmpOp}{t':TE}{use:Option (Value->Sem Unit)}
noncomputable def n8 (p:Int×Nat):Int×Value:=(ahh p.1,.int p.1 p.2)
def iS (h:Heap)(a:Addr)(c:Bool)(n:List Int):Prop :=
 ∃(i:Array (Int×Value)) (p:Nat) (t:Rq) (l:List (Int×Nat)),h.get? a=some (iI i p t)/\mM t i.size/\t.led=c/\i.toList.Perm (l.map n8)/\l.map (·.1)=n /\ ∀j∈t.place,((j:Nat):Int)∈n
noncomputable def j9 (c:List Int)(k:Int):List Int:=if k∈c then c else c ++ [k]
section
def elems {prog:te}{w:World}{c:Array (Int×Value)}{l:List (Int×Nat)}(b:c.toList.Perm (l.map n8)):ElemsOf (HV prog w) c.toList:=by intro e h;have:=b.mem_iff.mp h;rw[mO]at this;obtain⟨p,hm,rfl⟩:=this;exact⟨⟨p.1,by simp[n8,HV,afa],rfl⟩,rfl⟩
set_option maxHeartbeats 2000000 in
def J9 {prog:te}{w:World}{a:Addr}{O:Bool}{k:Int}{Q:Bool->lO->Prop}(B:iS s.heap a O J)(I:J.length<=3\/k∈J)(H:0<=k/\k<=7)(C:∀b h',Ma a s.heap h'->iS h' a O (j9 J k)->Q b { s with heap:=h' }):wpAny (model prog w) T (setAddHashed a (.int k i) (ahh k)) Q E s:=by
 obtain⟨es,U,t,l,ha,A,sQ,v,Y,eY⟩:=id B;have Uy:=elems (prog:=prog) (w:=w) v;have hf:t.fits es.size=true:=A.fits;have Ic:es.size<=4:=A.n4;have hb:es.size<scanBound:=by unfold scanBound;omega
 have W0:(HV prog w).is k (.int k i)=true:=by simp[HV,afa]
 unfold setAddHashed setAddHashedIn;refine vn (la (adx ha rfl hf ?_));dsimp only;rw[byScan_of (knd:=HV prog w) (x:=.int k i) rfl hb Uy];simp only[↓reduceIte];unfold setAddByScan;refine la ?_;refine la (yo ?_);refine la (wpAny_setScan_of (knd:=HV prog w) (k:=k) W0 ha rfl hf Uy ?_);cases hr:List.findIdx? (λe=>(HV prog w).is k e.2) es.toList with
 |some j =>
  dsimp only;obtain⟨hj,z,_⟩:=aer.mp hr;have y:k∈J:=by
    have:=v.mem_iff.mp (u3 hj);rw[mO]at this;obtain⟨p,hm,e⟩:=this;rw[<- e]at z;have Zy:k=p.1:=by simp[n8,HV,afa]at z;first|exact z|exact z.symm
    rw[Zy,<- Y];exact HB hm
  refine lr (lr ?_);have hd:j9 J k=J:=by unfold j9;rw[if_pos y]
  have e:s={ s with heap:=s.heap }:=by cases s;rfl
  rw[e];exact C _ s.heap (Heap.SameBut.refl a s.heap) (by rw[hd];exact B)
 |none =>
  dsimp only;have Z:¬k∈J:=by intro y;rw[<- Y,mO]at y;obtain⟨p,hm,e⟩:=y;have qT:=v.mem_iff.mpr (HB (f:=n8) hm);have:=List.findIdx?_eq_none_iff.mp hr _ qT;subst e;simp[n8,HV,afa]at this
  have ab:es.size<=3:=by
    have R:=v.length_eq;rcases I with h|h
    . have:l.length=J.length:=by rw[<- Y];simp
      simp at R;omega
    . exact absurd h Z
  obtain⟨c,rfl⟩:∃n:Nat,k=n:=⟨k.toNat,(UI H.1).symm⟩
  have hh:∀n:Nat,n<=7->ahh (n:Int)=n:=by decide
  have Nj:c<=7:=by omega
  obtain⟨u,r,e1,P,lL,hU,ze,Zz,W3⟩:=Ni A (es:=es) rfl Nj (λq=>Z (eY c q)) (.int (c:Int) i);rw[hh c Nj,e1];dsimp only;refine la (lr ?_);rw[P.pl];simp only[if_true];refine la ?_;rw[hashByValue_scannable 8 (x:=.int (c:Int) i) rfl];refine lr ?_;refine la (wpAny_storeSet_of ha rfl ?_ (fits_of_scanBound (by unfold scanBound;omega)));have hg:(s.heap.update a (Obj.putSet u r)).get? a=some (iI u (U+1) r):=by have:=Nv (Obj.putSet u r) ha (by rw[putSet_of u r (o:=iI es U t) rfl];rfl);rw[putSet_of u r (o:=iI es U t) rfl]at this;exact this
  have uu:plainKind (.int (c:Int) i)=true:=rfl;have W4:u.toList.Perm ((l ++ [((c:Int),i)]).map n8):=by
    rw[wi];have:n8 ((c:Int),i)=((c:Int),.int (c:Int) i):=by unfold n8;rw[hh c Nj]
    rw[afl,this];refine ze.trans ((v.cons _).trans ?_);exact(List.perm_append_singleton _ _).symm
  have W5:(l ++ [((c:Int),i)]).map (·.1)=j9 J (c:Int):=by unfold j9;rw[if_neg Z,<- Y];simp
  have uw:r.fill=es.size+1:=by unfold agS;rw[P.sz,P.dm];rfl
  have ZA:r.tooFull=false:=decide_eq_false (by rw[uw,lL];have:=A.mx;omega)
  simp only[uu,if_true,agx,afv,ZA,ql,if_false];refine lr (lr (C true _ (Qs s.heap a _) ?_));refine⟨u,U+1,r,l ++ [((c:Int),i)],hg,⟨P.dm,P.pl,by rw[P.sz,Zz],P.ri,P.le,lL.trans A.mx,by omega⟩,by rw[hU,sQ],W4,W5,λtok hi=>?_⟩;unfold j9;rw[if_neg Z,m3];rcases W3 tok hi with rfl|h
  . exact .inr rj
  . exact .inl (eY tok h)
end
noncomputable def emp (c:Bool):Obj:=iI #[] 0 (tb [] c)
def J_ (a:Value){Q₁:Value->lO->Prop}(h:Q₁ (.ref s.heap.objs.size) { s with heap:=s.heap.push (emp (!v.params.followText "set-order")) }):
  HP (model q v) T (.call (.builtin "set.__new__") ⟨[.type "set",a],[]⟩) (wants Q₁ E) s:=by
 refine codeAny_of_tree ?_;show wpAny _ T.in1 (do af1 "set.__new__" ⟨[.type "set",a],[]⟩;again (.builtin "set.__new__" ⟨[.type "set",a],[]⟩)) _ _ s;refine la (ahy (F.newCall_set_1 a) (lr ⟨Zt F.plain_set_new _,RR F.entry_set_new ?_⟩));rw[VW F.plain_set_new _];unfold tW.«set.__new__» aiK;have b:=sub_set_self;obtain⟨e,g,d,c,os⟩:=s;dsimp only
 wp_walk
 refine adi (lr ?_);dsimp only;simp only[newObj];refine la (ahz (lr ?_));exact lr h
noncomputable def zs (c:List Nat):List Int:=c.map λ(k:Nat)=>(k:Int)
def ux {v:List Value}(i:Y.Perm v):∀{p:List Int},zY v p->∃q,zY Y q/\q.Perm p:=by
 induction i with
 |nil=>intro p h;exact⟨p,h,aij _⟩
 |cons x _ B =>
  intro p h;cases h with
  |cons n t r =>
   obtain⟨q,a,b⟩:=B r;exact⟨n::q,.cons _ _ a,b.cons n⟩
 |swap x y l =>
  intro p h;cases h with
  |cons n t r =>
   cases r with
   |cons m u C=>exact⟨m::n::_,.cons _ _ (.cons _ _ C),aih _ _ _⟩
 |trans _ _ E H =>
  intro p h;obtain⟨q,a,b⟩:=H h;obtain⟨c,e,f⟩:=E a;exact⟨c,e,f.trans b⟩
set_option genInjectivity true in
inductive D where
 |ay|bl (b:Bool)|int (i:Int)|str (x:Str)|tup (xs:List D)|lst (xs:List D)|eM|ref (n:Nat)|bu (n:Nat)|fn (x:Str) (ds:List D)
structure KW where
 fr:n3
 w:World
 mg:Str->Option Value
 lx:Lx
instance:Coe KW n3:=⟨KW.fr⟩
noncomputable abbrev Cx.kw (X:Cx):KW:=⟨X.K,X.w,X.mg,X.lx⟩
abbrev G:=List (List D)
abbrev Sg:=List (Option D)
structure Ix where
 ix:List Addr
 hd:List Addr
 kd:Nat->Nat
noncomputable def kb:Nat->Bool
 | 0=>false|_+1=>true
def eG (c:Ix)(n:Nat)(a:Addr)(b:Bool):Prop:=c.ix[n]? = some a/\kb (c.kd n)=b
noncomputable def Ix.more (c:Ix)(p:Addr)(b:Nat):Ix:=⟨c.ix ++ [p],c.hd,λi=>if i=c.ix.length then b else c.kd i⟩
mutual
noncomputable def aO:Nat->D->Bool
 |_,.ay=>true|_,.int _=>true|_,.str _=>true|n+1,.tup c=>j_ n c|_,_=>false
noncomputable def j_:Nat->List D->Bool
 |_,[]=>true|n,d::ds=>aO n d&&j_ n ds
end
mutual
noncomputable def hD (w:World):D->Int
 |.int i=>ahh i|.str x=>hashStr w x|.ay=>reduceHash 0xFCA86420|.tup c=>reduceHash (afM (C5 w c))|_=>0
noncomputable def C5 (w:World):List D->List Int
 | []=>[]|d::ds=>hD w d::C5 w ds
end
noncomputable def dO (a:Addr)(i:List sf)(c:Nat):HO:=.ext λh=>h.get? a=some { cls:=.type "dict",data:=.dict i.toArray (i.length-c) }
noncomputable def qV:List sf->List Value
 | []=>[]|e::c=>e.key::e.val::qV c
noncomputable def cP:List D->List D
 |k::_::r=>k::cP r|_=>[]
inductive ke (w:World):List D->List sf->Prop
 |nil:ke w [] []
 |cons {k v:D} {r:List D} {e:sf} {es:List sf}:aO 6 k=true->e.hash=hD w k->ke w r es->ke w (k::v::r) (e::es)
inductive OV (K:KW)(a:Addr)(xs:List D):Nat->HO->List V->Prop
 |l (vs:List V):OV K a xs 0 (.lst vs) vs
 |d (c:Nat) (es:List sf) (vs:List V):c<=es.length->Vals vs (qV es)->ke K.w xs es->(cP xs).Nodup->(a == Qm)=false->es.length<=mK->OV K a xs (c+1) (dO a es c) vs
def nG (K:KW)(H:Hp)(h:Ix)(a:Addr)(i:List V):Prop :=
 (Rd H a (.lst i)/\a ∉ h.ix/\a ∉ h.hd) \/
  ∃(o:Obj) (c:Array Value) (n:Nat),K.fr.lookup a=some o/\o.cls = .type "list" /\ o.dict=none/\o.data = .seq c n/\c.size<=mK/\Vals i c.toList
def nG.sq {K H ι a xs}(h:nG K H ι a xs):dF K H a xs:=by
 rcases h with⟨h,_⟩|h
 . exact .inl h
 . exact .inr h
def pV (K:KW)(H:Hp)(i:Ix)(a:Addr)(h:List V):Prop :=
 (Rd H a (.tup h)/\a ∉ i.ix) \/
  ∃(o:Obj) (c:Array Value) (n:Nat),K.fr.lookup a=some o/\o.cls = .type "tuple" /\ o.dict=none/\o.data = .seq c n/\c.size<=mK/\Vals h c.toList
def pV.sq {K H ι a xs}(h:pV K H ι a xs):fu K H a xs:=by
 rcases h with⟨h,_⟩|h
 . exact .inl h
 . exact .inr h
noncomputable def Uz:HO->Bool
 |.ext _=>true|_=>false
def Xo (H:Hp)(c:Ix)(a:Addr)(u:HO):Prop:=H a=some u/\a ∉ c.ix/\(Uz u=true->a ∉ c.hd)
noncomputable def Nl:HO->Bool
 |.ext _=>true|.iH _=>true|_=>false
noncomputable abbrev oK (a:Addr)(o:Obj):HO:=.ext λh=>h.get? a=some o
inductive cS (H:Hp)(ι:Ix):List (Str×Addr)->List V->Prop
 |nil:cS H ι [] []
 |cons {y:Str} {c:Addr} {o:Obj} {u:Value} {v:V} {cl:List (Str×Addr)} {vs:List V} (x:Xo H ι c (oK c o)) (d:o.data = .cell (some u)) (r:lX v u) (t:cS H ι cl vs):cS H ι ((y,c)::cl) (v::vs)
inductive C6 (K:KW)(H:Hp)(ι:Ix)(x:Str)(a:Addr)(vs:List V):Prop
 |mk (l:d_) (c:Addr) (fX pm:Value) (cl:List (Str×Addr)) (hl:K.lx.lm x=some l) (hf:Xo H ι a (oK a (aeW "<lambda>" l.qual l.ar l.bd l.sc cl pm c fX))) (hc:Xo H ι c (.iH l.qual)) (hn:cl.map (·.1)=l.fv) (hd:(cl.map (·.2)).Nodup) (hv:cS H ι cl vs):C6 K H ι x a vs
def Ig (K:KW)(H:Hp)(h:Ix)(x:Str)(a:Addr)(c:List V):Prop:=(c = []/\K.lx.lm x=none/\K.mg x=some (.ref a))\/C6 K H h x a c
theorem cS.mono {H ι b a}(t:∀c u,Nl u=true->Xo H ι c u->Xo b a c u):∀{cl h},cS H ι cl h->cS b a cl h
 |_,_,.nil=>.nil|_,_,.cons x d r q=>.cons (t _ _ rfl x) d r (cS.mono t q)
theorem Ig.mono {K H ι e b x a vs}(h:Ig K H ι x a vs)(t:∀c u,Nl u=true->Xo H ι c u->Xo e b c u):Ig K e b x a vs:=by
 rcases h with h|⟨l,c,fX,pm,cl,hl,hf,hc,hn,hd,hv⟩
 . exact .inl h
 . exact .inr ⟨l,c,fX,pm,cl,hl,t _ _ rfl hf,t _ _ rfl hc,hn,hd,hv.mono t⟩
mutual
noncomputable def Rel (K:KW)(H:Hp)(c:Ix):D->V->Prop
 |.ay,v=>v = .ay|.bl b,v=>v = .bl b|.int i,v=>v = .int i|.str x,v=>v = .str x|.tup p,v=>∃a h,v = .ref a/\pV K H c a h/\ao K H c p h|.lst p,v=>∃a h,v = .ref a/\nG K H c a h/\ao K H c p h|.eM,v=>∃a,v = .ref a/\H a=some (.dK [])/\a ∉ c.ix|.ref n,v=>∃a,v = .ref a/\eG c n a false|.bu n,v=>∃a,v = .ref a/\eG c n a true|.fn x ds,v=>∃a h,v = .ref a/\Ig K H c x a h/\ao K H c ds h
noncomputable def ao (K:KW)(H:Hp)(c:Ix):List D->List V->Prop
 | [],h=>h = []|x::p,h=>∃v q,h=v::q/\Rel K H c x v/\ao K H c p q
end
structure Ext (H:Hp)(ι:Ix)(H':Hp)(ι':Ix):Prop where
 same:∀a o,H a=some o->a ∉ ι.ix->H' a=some o
 there:∀a,H a≠none->H' a≠none
 more:∃m,ι'.ix=ι.ix++m /\ ∀a∈m,H a=none
 cQ:ι'.hd=ι.hd
 nH:∀i,i < ι.ix.length->ι'.kd i=ι.kd i
structure aA (K:KW)(H:Hp)(ι:Ix)(g:G):Prop where
 nd:ι.ix.Nodup
 len:ι.ix.length=g.length
 cQ:∀b∈ι.hd,b ∉ ι.ix/\H b≠none
 at_:∀(i:Nat) xs,g[i]? = some xs->∃a o vs,ι.ix[i]? = some a/\H a=some o/\OV K a xs (ι.kd i) o vs/\ao K H ι xs vs
 tb:∀q∈K.lx.tb,H q.1=some (.cI q.2.1 q.2.2)/\q.1 ∉ ι.ix
def bQ (K:KW)(H:Hp)(h:Ix)(a:Sg)(c:lU):Prop :=
 a.length=c.length /\ ∀(i:Nat) d,a[i]? = some (some d)->∃v,c[i]? = some (some v)/\Rel K H h d v
def Ext.refl {H ι}:Ext H ι H ι:=⟨λ_ _ h _=>h,λ_ h=>h,⟨[],by simp,λ_ h=>by simp at h⟩,rfl,λ_ _=>rfl⟩
def Ext.old {H ι i c}(a:Ext H ι i c)(h:H f=some g)(n:f ∉ ι.ix):f ∉ c.ix:=λz=>by
 obtain⟨e,b,p⟩:=a.more;rw[b]at z;rcases m3.mp z with z|z
 . exact n z
 . rw[p f z]at h;cases h
theorem Ext.trans {H ι u r s ι2}(a:Ext H ι u r)(b:Ext u r s ι2):Ext H ι s ι2:=by
 obtain⟨l,e,p⟩:=a.more;obtain⟨k,j,v⟩:=b.more;refine⟨λc o h n=>b.same c o (a.same c o h n) (a.old h n),λc h=>b.there c (a.there c h),⟨l++k,by rw[j,e,ta],λc z=>?_⟩,b.cQ.trans a.cQ,λi f=>(b.nH i (by rw[e,nN];omega)).trans (a.nH i f)⟩;rcases m3.mp z with z|z
 . exact p c z
 . cases q:H c with
   |none=>rfl|some o=>exact absurd (v c z) (a.there c (by rw[q];simp))
def Ext.at {H ι l c}(a:Ext H ι l c)(h:eG ι i f k):eG c i f k:=by obtain⟨j,b,_⟩:=a.more;have e:=(m5.mp h.1).1;refine⟨?_,by rw[a.nH i e];exact h.2⟩;rw[b,ra e];exact h.1
def nG.ext {K H ι c b a xs}(e:Ext H ι c b)(h:nG K H ι a xs):nG K c b a xs:=by
 rcases h with⟨h|⟨o,h⟩,n,k⟩|h
 . exact .inl ⟨.inl (e.same _ _ h n),e.old h n,by rw[e.cQ];exact k⟩
 . exact .inl ⟨.inr ⟨o,e.same _ _ h n⟩,e.old h n,by rw[e.cQ];exact k⟩
 . exact .inr h
def Xo.ext {H ι b a c u}(e:Ext H ι b a)(h:Xo H ι c u):Xo b a c u:=⟨e.same _ _ h.1 h.2.1,e.old h.1 h.2.1,λy=>by rw[e.cQ];exact h.2.2 y⟩
def pV.ext {K H ι c b a xs}(e:Ext H ι c b)(h:pV K H ι a xs):pV K c b a xs:=by
 rcases h with⟨h|⟨o,h⟩,n⟩|h
 . exact .inl ⟨.inl (e.same _ _ h n),e.old h n⟩
 . exact .inl ⟨.inr ⟨o,e.same _ _ h n⟩,e.old h n⟩
 . exact .inr h
mutual
theorem Rel.ext {K H ι l k}(e:Ext H ι l k):∀(d:D) {v:V},Rel K H ι d v->Rel K l k d v
 |.ay,v,h=>h|.bl _,v,h=>h|.int _,v,h=>h|.str _,v,h=>h|.tup r,v,h=>by simp only[Rel]at h ⊢;obtain⟨a,j,f,b,i⟩:=h;exact⟨a,j,f,b.ext e,ao.ext e r i⟩
 |.lst r,v,h=>by simp only[Rel]at h ⊢;obtain⟨a,j,f,b,i⟩:=h;exact⟨a,j,f,b.ext e,ao.ext e r i⟩
 |.eM,v,h=>by simp only[Rel]at h ⊢;obtain⟨a,f,b,i⟩:=h;exact⟨a,f,e.same _ _ b i,e.old b i⟩
 |.ref n,v,h=>by simp only[Rel]at h ⊢;obtain⟨a,f,b⟩:=h;exact⟨a,f,e.at b⟩
 |.bu n,v,h=>by simp only[Rel]at h ⊢;obtain⟨a,f,b⟩:=h;exact⟨a,f,e.at b⟩
 |.fn x ds,v,h=>by simp only[Rel]at h ⊢;obtain⟨a,j,f,b,i⟩:=h;exact⟨a,j,f,b.mono λc u z q=>q.ext e,ao.ext e ds i⟩
theorem ao.ext {K H ι j i}(e:Ext H ι j i):∀(ds:List D) {p:List V},ao K H ι ds p->ao K j i ds p
 | [],p,h=>h|d::ds,p,h=>by simp only[ao]at h ⊢;obtain⟨v,b,f,a,c⟩:=h;exact⟨v,b,f,Rel.ext e d a,ao.ext e ds c⟩
end
theorem bQ.ext {K H ι j c f σ}(e:Ext H ι j c)(h:bQ K H ι f σ):bQ K j c f σ :=
 ⟨h.1,λi d q=>let⟨v,a,b⟩:=h.2 i d q;⟨v,a,Rel.ext e d b⟩⟩
theorem ao.length {K H ι}:∀{ds:List D} {c:List V},ao K H ι ds c->ds.length=c.length
 | [],c,h=>by cases h;rfl|d::ds,c,h=>by obtain⟨v,b,rfl,_,a⟩:=h;simp[ao.length a]
theorem ao.append {K H ι}:∀{ds i:List D} {n p:List V},ao K H ι ds n->ao K H ι i p->ao K H ι (ds++i) (n++p)
 | [],i,n,p,h,k=>by cases h;exact k|d::ds,i,n,p,h,k=>by obtain⟨v,c,rfl,a,b⟩:=h;simp only[List.cons_append,ao];exact⟨v,_,rfl,a,ao.append b k⟩
theorem ao.get {K H ι}:∀{ds:List D} {n:List V} {i:Nat} {d:D},ao K H ι ds n->ds[i]? = some d->∃v,n[i]? = some v/\Rel K H ι d v
 | [],_,_,_,_,e=>by simp at e|x::ds,n,0,d,h,e=>by obtain⟨v,f,rfl,a,b⟩:=h;simp at e;subst e;exact⟨v,rfl,a⟩
 |x::ds,n,i+1,d,h,e=>by obtain⟨v,f,rfl,a,b⟩:=h;obtain⟨u,c,j⟩:=ao.get (i:=i) b (by simpa using e);exact⟨u,by simpa using c,j⟩
theorem ao.set {K H ι d v}(c:Rel K H ι d v):∀{ds:List D} {n:List V} (i:Nat),ao K H ι ds n->ao K H ι (ds.set i d) (n.set i v)
 | [],_,_,h=>by cases h;simp[ao]|x::ds,n,0,h=>by obtain⟨u,b,rfl,hu,a⟩:=h;simp only[afm,ao];exact⟨v,b,rfl,c,a⟩
 |x::ds,n,i+1,h=>by obtain⟨u,b,rfl,hu,a⟩:=h;simp only[ag9,ao];exact⟨u,_,rfl,hu,ao.set c i a⟩
theorem ao.take {K H ι}:∀{ds:List D} {c:List V} (n:Nat),ao K H ι ds c->ao K H ι (ds.take n) (c.take n)
 |_,_,0,_=>by simp[ao]| [],_,n+1,h=>by cases h;simp[ao]|x::ds,c,n+1,h=>by obtain⟨u,b,rfl,hu,a⟩:=h;simp only[List.take_succ_cons,ao];exact⟨u,_,rfl,hu,ao.take n a⟩
theorem ao.drop {K H ι}:∀{ds:List D} {c:List V} (n:Nat),ao K H ι ds c->ao K H ι (ds.drop n) (c.drop n)
 |_,_,0,h=>h| [],_,n+1,h=>by cases h;simp[ao]|x::ds,c,n+1,h=>by obtain⟨u,b,rfl,hu,a⟩:=h;simp only[List.drop_succ_cons];exact ao.drop n a
theorem aA.at {K H p g}(h:aA K H p g){n:Nat}{u:List D}{a:Addr}(e:g[n]? = some u)(q:eG p n a false):∃r,H a=some (.lst r)/\ao K H p u r:=by
 obtain⟨b,o,r,c,i,f,j⟩:=h.at_ n u e;rw[q.1]at c;cases c;have c:=q.2;generalize p.kd n=k at f c;cases f with
 |l=>exact⟨r,i,j⟩|d=>cases c
def aA.zf {K H u g}(h:aA K H u g){v:List D}(e:g[i]? = some v)(r:eG u i f true):
  ∃p x c,H f=some (dO f p c)/\u.kd i=c+1/\c<=p.length/\Vals x (qV p)/\ke K.w v p/\(cP v).Nodup/\(f == Qm)=false/\p.length<=mK/\ao K H u v x:=by
 obtain⟨b,o,x,a,j,n,q⟩:=h.at_ i v e;rw[r.1]at a;cases a;have a:=r.2;generalize u.kd i=k at n a;cases n with
 |l=>cases a|d c p x y B C E I J=>exact⟨p,x,c,j,rfl,y,B,C,E,I,J,q⟩
def aA.kO {K H ι g}(h:aA K H ι g)(o:f∈ι.ix):H f≠none:=by
 obtain⟨i,c,e⟩:=Qe.mp o;have k:i<g.length:=by rw[<- h.len];exact c
 obtain⟨b,_,l,a,j,_⟩:=h.at_ i _ (mA k);rw[mA c,e]at a;cases a;rw[j];simp
def Ext.lay {H ι p o}(b:H p=none):Ext H ι (upd H p o) ι :=
 ⟨λa u h _=>by rw[aG (aN h b)];exact h,λa h=>by
  by_cases e:a=p
  . subst e;exact absurd b h
  . rw[aG e];exact h,⟨[],by simp,λ_ h=>by simp at h⟩,rfl,λ_ _=>rfl⟩
theorem aA.ext {K H n g v}(h:aA K H n g)(e:Ext H n v n)(k:∀a∈n.ix,v a=H a):aA K v n g :=
 ⟨h.nd,h.len,λb j=>⟨(h.cQ b j).1,e.there b (h.cQ b j).2⟩,λi p q=>by obtain⟨a,o,r,f,u,l,s⟩:=h.at_ i p q;exact⟨a,o,r,f,by rw[k a (p7 f)];exact u,l,ao.ext e p s⟩,λq c=>⟨e.same _ _ (h.tb q c).1 (h.tb q c).2,(h.tb q c).2⟩⟩
theorem aA.lay {K H ι g p o}(h:aA K H ι g)(c:H p=none):aA K (upd H p o) ι g :=
 h.ext (Ext.lay c) λa b=>aG λe=>by subst e;exact h.kO b c
def aA.fresh {K H ι g p}(h:aA K H ι g)(b:H p=none):p ∉ ι.ix:=λa=>h.kO a b
def aA.iw {K H ι g p}(h:aA K H ι g)(b:H p=none):p ∉ ι.hd:=λa=>(h.cQ p a).2 b
def Ext.i6 {H ι p o b}(h:H p=none):Ext H ι (upd H p o) (ι.more p b):=by have e:=Ext.lay (ι:=ι) (o:=o) h;refine⟨e.same,e.there,⟨[p],rfl,λa c=>by simp at c;subst c;exact h⟩,rfl,λi f=>?_⟩;show(if i=ι.ix.length then b else ι.kd i)=ι.kd i;rw[if_neg (by omega)]
def Ext.push {H ι p o}(a:H p=none):Ext H ι (upd H p o) (ι.more p 0):=Ext.i6 a
theorem aA.i6 {K H ι g p o xs vs b}(h:aA K H ι g)(A:H p=none)(B:OV K p xs b o vs)(r:ao K H ι xs vs):aA K (upd H p o) (ι.more p b) (g ++ [xs]):=by
 have u:=h.fresh A;refine⟨?_,by simp[Ix.more,h.len],λb c=>⟨λz=>?_,(Ext.i6 (ι:=ι) (o:=o) (b:=0) A).there b (h.cQ b c).2⟩,λi n q=>?_,λq f=>⟨by rw[aG (aN (h.tb q f).1 A)];exact(h.tb q f).1,λz=>(m3.mp z).elim (h.tb q f).2 λz=>aN (h.tb q f).1 A (by simpa using z)⟩⟩
 . show(ι.ix ++ [p]).Nodup
   rw[Ux];refine⟨h.nd,by simp,λa x b c=>?_⟩;simp at c;subst c;intro e;subst e;exact u x
 . rcases m3.mp z with z|z
   . exact(h.cQ b c).1 z
   . simp at z;subst z;exact(h.cQ _ c).2 A
 . by_cases hi:i<g.length
   . rw[ra hi]at q
     obtain⟨a,s,C,y,l,v,E⟩:=h.at_ i n q;refine⟨a,s,C,(by show(ι.ix ++ [p])[i]? = some a;rw[ra (by rw[h.len];exact hi)];exact y),?_,?_,ao.ext (Ext.i6 A) n E⟩
     . rw[aG (aN l A)];exact l
     . show OV K _ _ (if i=ι.ix.length then b else ι.kd i) s C
       rw[if_neg (by rw[h.len];omega)];exact v
   . rw[wm (by omega)]at q
     have I:i-g.length=0:=by
       cases e:i-g.length with
       |zero=>rfl|succ k=>rw[e]at q;simp at q
     rw[I]at q;have e:xs=n:=by simpa using q
     subst e;have j:i=ι.ix.length:=by rw[h.len];omega
     refine⟨p,o,vs,?_,aT,?_,ao.ext (Ext.i6 A) xs r⟩
     . show(ι.ix ++ [p])[i]? = some p
       rw[j];simp
     . show OV K _ _ (if i=ι.ix.length then b else ι.kd i) o vs
       rw[if_pos j];exact B
def aA.push {K H ι g p xs vs}(h:aA K H ι g)(a:H p=none)(r:ao K H ι xs vs):aA K (upd H p (.lst vs)) (ι.more p 0) (g ++ [xs]):=h.i6 a (.l vs) r
def eG.new {c:Ix}(h:c.ix.length=o):eG (c.more f i) o f (kb i):=by subst h;exact⟨by show(c.ix ++ [f])[c.ix.length]? = some f;simp,by show kb (if c.ix.length=c.ix.length then i else c.kd c.ix.length)=kb i;rw[if_pos rfl]⟩
def Ext.put {H ι}{a o f}{b:Bool}(c:eG ι i a b)(h:H a=some o):Ext H ι (upd H a f) ι :=
 ⟨λb o q n=>by rw[aG (λe=>n (by rw[e];exact p7 c.1))];exact q,λb q=>by
  by_cases e:b=a
  . subst e;rw[aT];simp
  . rw[aG e];exact q,⟨[],by simp,λ_ z=>by simp at z⟩,rfl,λ_ _=>rfl⟩
def aA.Nm {K H ι g}{a o C xs B}(h:aA K H ι g)(A:eG ι i a k)(E:H a=some o)(I:OV K a xs (ι.kd i) C B)(r:ao K H ι xs B):aA K (upd H a C) ι (g.set i xs):=by
 refine⟨h.nd,by simp[h.len],λk l=>⟨(h.cQ k l).1,(Ext.put A E).there k (h.cQ k l).2⟩,λn j q=>?_,λq c=>⟨by rw[aG λz=>(h.tb q c).2 (by rw[z];exact p7 A.1)];exact(h.tb q c).1,(h.tb q c).2⟩⟩;by_cases e:n=i
 . subst e
   have b:n<g.length:=by rw[<- h.len];exact(m5.mp A.1).1
   rw[vT b]at q;cases q;exact⟨a,C,B,A.1,aT,I,ao.ext (Ext.put A E) _ r⟩
 . rw[IZ (qP e)]at q
   obtain⟨k,s,p,f,y,J,x⟩:=h.at_ n j q;refine⟨k,s,p,f,?_,J,ao.ext (Ext.put A E) j x⟩;rw[aG ?_]
   . exact y
   . intro z
     subst z;obtain⟨b,u⟩:=m5.mp f;obtain⟨O,v⟩:=m5.mp A.1;exact e ((afU h.nd).mp (u.trans v.symm))
def aA.put {K H ι g}{a vs xs c}(h:aA K H ι g)(f:eG ι i a false)(n:H a=some (.lst vs))(r:ao K H ι xs c):aA K (upd H a (.lst c)) ι (g.set i xs):=h.Nm f n (by
 have b:=f.2;cases e:ι.kd i with
 |zero=>exact .l c|succ k=>rw[e]at b;cases b) r
noncomputable def Ix.hide (c:Ix)(p:Addr):Ix:=⟨c.ix,p::c.hd,c.kd⟩
mutual
theorem Rel.show {K H ι p}:∀(d:D) {v:V},Rel K H (Ix.hide ι p) d v->Rel K H ι d v
 |.ay,v,h=>h|.bl _,v,h=>h|.int _,v,h=>h|.str _,v,h=>h|.tup B,v,h=>by simp only[Rel]at h ⊢;obtain⟨a,b,i,e,f⟩:=h;exact⟨a,b,i,e,ao.show B f⟩
 |.lst B,v,h=>by
  simp only[Rel]at h ⊢;obtain⟨a,b,i,e,f⟩:=h;refine⟨a,b,i,?_,ao.show B f⟩;rcases e with⟨h,n,k⟩|h
  . exact .inl ⟨h,n,λz=>k (pP _ z)⟩
  . exact .inr h
 |.eM,v,h=>by simpa[Rel,Ix.hide]using h|.ref n,v,h=>by simpa[Rel,Ix.hide,eG]using h|.bu n,v,h=>by simpa[Rel,Ix.hide,eG]using h|.fn x ds,v,h=>by simp only[Rel]at h ⊢;obtain⟨a,b,i,e,f⟩:=h;exact⟨a,b,i,e.mono λc u z q=>⟨q.1,q.2.1,λy z=>q.2.2 y (pP _ z)⟩,ao.show ds f⟩
theorem ao.show {K H ι p}:∀(ds:List D) {r:List V},ao K H (Ix.hide ι p) ds r->ao K H ι ds r
 | [],r,h=>h|d::ds,r,h=>by simp only[ao]at h ⊢;obtain⟨v,b,e,a,c⟩:=h;exact⟨v,b,e,Rel.show d a,ao.show ds c⟩
end
mutual
theorem Rel.hide {K H ι p o}(j:H p=none):∀(d:D) {v:V},Rel K H ι d v->Rel K (upd H p o) (Ix.hide ι p) d v
 |.ay,v,h=>h|.bl _,v,h=>h|.int _,v,h=>h|.str _,v,h=>h
 |.tup B,v,h=>by
  simp only[Rel]at h ⊢;obtain⟨a,i,f,b,e⟩:=h;refine⟨a,i,f,?_,ao.hide j B e⟩;rcases b with⟨h|⟨u,h⟩,n⟩|h
  . exact .inl ⟨.inl (by rw[aG (aN h j)];exact h),n⟩
  . exact .inl ⟨.inr ⟨u,by rw[aG (aN h j)];exact h⟩,n⟩
  . exact .inr h
 |.lst B,v,h=>by
  simp only[Rel]at h ⊢;obtain⟨a,i,f,b,e⟩:=h;refine⟨a,i,f,?_,ao.hide j B e⟩;have out:∀{u:HO},H a=some u->a ∉ ι.hd->a ∉ (Ix.hide ι p).hd:=λh k z=>by
    rcases nv.mp z with z|z
    . exact aN h j z
    . exact k z
  rcases b with⟨h|⟨u,h⟩,n,k⟩|h
  . exact .inl ⟨.inl (by rw[aG (aN h j)];exact h),n,out h k⟩
  . exact .inl ⟨.inr ⟨u,by rw[aG (aN h j)];exact h⟩,n,out h k⟩
  . exact .inr h
 |.eM,v,h=>by simp only[Rel]at h ⊢;obtain⟨a,f,b,e⟩:=h;exact⟨a,f,by rw[aG (aN b j)];exact b,e⟩
 |.ref n,v,h=>by simpa[Rel,Ix.hide,eG]using h|.bu n,v,h=>by simpa[Rel,Ix.hide,eG]using h|.fn x ds,v,h=>by simp only[Rel]at h ⊢;obtain⟨a,i,f,b,e⟩:=h;exact⟨a,i,f,b.mono λc u z q=>⟨by rw[aG (aN q.1 j)];exact q.1,q.2.1,λy z=>(nv.mp z).elim (aN q.1 j) (q.2.2 y)⟩,ao.hide j ds e⟩
theorem ao.hide {K H ι p o}(f:H p=none):∀(ds:List D) {r:List V},ao K H ι ds r->ao K (upd H p o) (Ix.hide ι p) ds r
 | [],r,h=>h|d::ds,r,h=>by simp only[ao]at h ⊢;obtain⟨v,b,e,a,c⟩:=h;exact⟨v,b,e,Rel.hide f d a,ao.hide f ds c⟩
end
mutual
theorem Rel.grow {K H ι p us l}(j:H p=some (.lst us)):∀(d:D) {v:V},Rel K H (Ix.hide ι p) d v->Rel K (upd H p (.lst l)) (Ix.hide ι p) d v
 |.ay,v,h=>h|.bl _,v,h=>h|.int _,v,h=>h|.str _,v,h=>h
 |.tup B,v,h=>by
  simp only[Rel]at h ⊢;obtain⟨a,i,f,b,e⟩:=h;refine⟨a,i,f,?_,ao.grow j B e⟩;rcases b with⟨h|⟨u,h⟩,n⟩|h
  . exact .inl ⟨.inl (by rw[aG (qI h j (by simp))];exact h),n⟩
  . exact .inl ⟨.inr ⟨u,by rw[aG (qI h j (by simp))];exact h⟩,n⟩
  . exact .inr h
 |.lst B,v,h=>by
  simp only[Rel]at h ⊢;obtain⟨a,i,f,b,e⟩:=h;refine⟨a,i,f,?_,ao.grow j B e⟩;rcases b with⟨h,n,k⟩|h
  . have ne:a≠p:=λz=>k (by rw[z];exact rj)
    rcases h with h|⟨u,h⟩
    . exact .inl ⟨.inl (by rw[aG ne];exact h),n,k⟩
    . exact .inl ⟨.inr ⟨u,by rw[aG ne];exact h⟩,n,k⟩
  . exact .inr h
 |.eM,v,h=>by simp only[Rel]at h ⊢;obtain⟨a,f,b,e⟩:=h;exact⟨a,f,by rw[aG (qI b j (by simp))];exact b,e⟩
 |.ref n,v,h=>by simpa[Rel,Ix.hide,eG]using h|.bu n,v,h=>by simpa[Rel,Ix.hide,eG]using h|.fn x ds,v,h=>by simp only[Rel]at h ⊢;obtain⟨a,i,f,b,e⟩:=h;exact⟨a,i,f,b.mono λc u z q=>⟨by rw[aG (qI q.1 j (λy=>by rw[y]at z;cases z))];exact q.1,q.2⟩,ao.grow j ds e⟩
theorem ao.grow {K H ι p us i}(f:H p=some (.lst us)):∀(ds:List D) {r:List V},ao K H (Ix.hide ι p) ds r->ao K (upd H p (.lst i)) (Ix.hide ι p) ds r
 | [],r,h=>h|d::ds,r,h=>by simp only[ao]at h ⊢;obtain⟨v,b,e,a,c⟩:=h;exact⟨v,b,e,Rel.grow f d a,ao.grow f ds c⟩
end
theorem aA.hide {K H ι p o g}(u:H p=none)(h:aA K H ι g):aA K (upd H p o) (Ix.hide ι p) g :=
 ⟨h.nd,h.len,λb c=>by
  rcases nv.mp c with rfl|c
  . exact⟨h.fresh u,by rw[aT];simp⟩
  . refine⟨(h.cQ b c).1,?_⟩
    by_cases e:b=p
    . subst e;rw[aT];simp
    . rw[aG e];exact(h.cQ b c).2,λi n q=>by
  obtain⟨a,o,r,k,j,l,s⟩:=h.at_ i n q;exact⟨a,o,r,k,by rw[aG (aN j u)];exact j,l,ao.hide u n s⟩,λq f=>⟨by rw[aG (aN (h.tb q f).1 u)];exact(h.tb q f).1,(h.tb q f).2⟩⟩
theorem aA.show {K H ι p g}(h:aA K H (Ix.hide ι p) g):aA K H ι g :=
 ⟨h.nd,h.len,λb j=>h.cQ b (pP _ j),λi n q=>by obtain⟨a,o,f,c,l,e,k⟩:=h.at_ i n q;exact⟨a,o,f,c,l,e,ao.show n k⟩,h.tb⟩
theorem aA.grow {K H ι p us v g}(u:H p=some (.lst us))(h:aA K H (Ix.hide ι p) g):aA K (upd H p (.lst v)) (Ix.hide ι p) g :=
 ⟨h.nd,h.len,λb j=>⟨(h.cQ b j).1,by
   by_cases e:b=p
   . subst e;rw[aT];simp
   . rw[aG e];exact(h.cQ b j).2⟩,λi n q=>by
  obtain⟨a,o,l,f,s,k,r⟩:=h.at_ i n q;refine⟨a,o,l,f,?_,k,ao.grow u n r⟩;rw[aG (λe=>(h.cQ p rj).1 (by rw[<- e];exact p7 f))];exact s,λq c=>⟨by rw[aG (qI (h.tb q c).1 u (by simp))];exact(h.tb q c).1,(h.tb q c).2⟩⟩
abbrev FE:=Sg->G->Option (D×G)
abbrev FT:=Sg->G->Option (Bool×G)
abbrev FA:=Sg->G->Option (List D×G)
def fY (K:KW)(H:Hp)(i:Ix)(d:D)(n:G)(Q:VK):Prop:=∀h c v,Ext H i h c->aA K h c n->Rel K h c d v->Q v h
def RU (K:KW)(H:Hp)(n:Ix)(ds:List D)(p:G)(Q:List V->Hp->Prop):Prop:=∀h c i,Ext H n h c->aA K h c p->ao K h c ds i->Q i h
def qW (K:KW)(H:Hp)(i:Ix)(n:G)(Q:Hp->Prop):Prop:=∀h c,Ext H i h c->aA K h c n->Q h
inductive tD (K:KW)(f:FE)(σ:lU)(H:Hp)(Q:VK):Prop
 |mk (ι:Ix) (σd:Sg) (g:G) (d:D) (g':G) (h0:aA K H ι g) (h1:bQ K H ι σd σ) (h2:f σd g=some (d,g')) (h3:fY K H ι d g' Q):tD K f σ H Q
inductive iy (K:KW)(f:FA)(σ:lU)(H:Hp)(Q:(List V->Hp->Prop)):Prop
 |mk (ι:Ix) (σd:Sg) (g:G) (d:List D) (g':G) (h0:aA K H ι g) (h1:bQ K H ι σd σ) (h2:f σd g=some (d,g')) (h3:RU K H ι d g' Q):iy K f σ H Q
inductive lM (K:KW)(f:FT)(σ:lU)(H:Hp)(Q:(Bool->Hp->Prop)):Prop
 |mk (ι:Ix) (σd:Sg) (g:G) (b:Bool) (g':G) (h0:aA K H ι g) (h1:bQ K H ι σd σ) (h2:f σd g=some (b,g')) (h3:qW K H ι g' (Q b)):lM K f σ H Q
structure DE (X:Cx)(e:Expr)(f:FE):Prop where of ::
 un:PE X e (tD X.kw f)
structure DA (X:Cx)(es:List Expr)(f:FA):Prop where of ::
 un:PA X es (iy X.kw f)
structure DT (X:Cx)(e:Expr)(f:FT):Prop where of ::
 un:PT X e (lM X.kw f)
structure DW (X:Cx)(e:Expr)(f:FT):Prop where of ::
 un:PW X e (lM X.kw f)
def PE.imp {t:TE}(h:PE X e t)(i:∀c H Q,t' c H Q->t c H Q):PE X e t':=λn s c H Q I q=>h n s c H Q I (i c H Q q)
def PT.imp {t t':TT}(h:PT X e t)(i:∀c H Q,t' c H Q->t c H Q):PT X e t':=λn s c H Q I q=>h n s c H Q I (i c H Q q)
def PW.imp {t t':TT}(h:PW X e t)(i:∀c H Q,t' c H Q->t c H Q):PW X e t':=λw n s c H Q I q=>h w n s c H Q I (i c H Q q)
def PA.imp {t t':TA}(h:PA X B t)(i:∀c H Q,t' c H Q->t c H Q):PA X B t':=λpos n s c H Q I q=>h pos n s c H Q I (i c H Q q)
def fY.mono {K H ι h f d g' Q}(e:Ext H ι h f)(p:fY K H ι d g' Q):fY K h f d g' Q:=λb a v c r q=>p b a v (e.trans c) r q
def qW.mono {K H ι h f g' Q}(e:Ext H ι h f)(p:qW K H ι g' Q):qW K h f g' Q:=λa c b r=>p a c (e.trans b) r
def tD.bind {K f}{ι c g d g'}(G0:aA K H ι g)(i:bQ K H ι c y)(h:f c g=some (d,g'))(k:∀u p v,Ext H ι u p->aA K u p g'->bQ K u p c y->Rel K u p d v->n v u):tD K f y H n :=
 ⟨ι,c,g,d,g',G0,i,h,λb a v e r q=>k b a v e r (i.ext e) q⟩
def iy.bind {K f}{Q:List V->Hp->Prop}{ι c g d g'}(G0:aA K H ι g)(i:bQ K H ι c y)(h:f c g=some (d,g'))(k:∀p n v,Ext H ι p n->aA K p n g'->bQ K p n c y->ao K p n d v->Q v p):iy K f y H Q :=
 ⟨ι,c,g,d,g',G0,i,h,λb a v e r q=>k b a v e r (i.ext e) q⟩
def lM.bind {K f}{ι c g d g'}(G0:aA K H ι g)(i:bQ K H ι c y)(h:f c g=some (d,g'))(k:∀p n,Ext H ι p n->aA K p n g'->bQ K p n c y->w d p):lM K f y H w :=
 ⟨ι,c,g,d,g',G0,i,h,λa b e r=>k a b e r (i.ext e)⟩
noncomputable def fC (d:D):FE:=λ_ g=>some (d,g)
noncomputable def aa (i:Nat):FE:=λc g=>match c[i]? with|some (some d)=>some (d,g)|_=>none
abbrev a5:=aa 0
abbrev a6:=aa 1
abbrev a7:=aa 2
abbrev bg:=aa 3
abbrev bh:=fC (.int 1)
abbrev b0:=fC (.int 0)
abbrev dV:=fC (.int 2)
abbrev d4:=aa 4
abbrev ee:=aa 5
abbrev ef:=aa 6
abbrev eu:=aa 8
abbrev ew:=aa 9
abbrev eL:=aa 11
abbrev eW:=aa 7
abbrev fb:=fC (.str "own")
abbrev fc:=fC (.int 3)
abbrev fe:=fC .ay
abbrev fh:=fC (.str "told")
abbrev fk:=fC (.str "shared")
abbrev fo:=fC (.int 4)
abbrev ft:=fC (.str "box")
abbrev fy:=aa 10
abbrev f6:=fC (.str "sign")
abbrev gD:=fC (.str "handed")
abbrev hB:=fC (.str "toggles")
abbrev hY:=fC (.str "read")
abbrev ir:=fC (.str "view")
abbrev i2:=fC (.int 10)
abbrev i3:=fC (.str "call")
abbrev jc:=fC (.str "signs")
abbrev jd:=fC (.str "look")
abbrev jk:=fC (.bl false)
abbrev j0:=fC (.int 5)
abbrev kn:=fC (.str "moves")
abbrev ko:=fC (.bl true)
abbrev kR:=fC (.str "shakes")
abbrev k0:=fC (.int 2305843009213693951)
def Nn {i j pos}:DE X (.Constant (.int i) j pos) (fC (.int i)):=.of (PE.imp Mc λq H Q h=>by obtain⟨n,b,g,d,a,G0,c,h,p⟩:=h;cases h;exact p H n _ Ext.refl G0 (by simp[Rel]))
def Np {i j pos}:DE X (.Constant (.str i) j pos) (fC (.str i)):=.of (PE.imp Me λq H Q h=>by obtain⟨n,b,g,d,a,G0,c,h,p⟩:=h;cases h;exact p H n _ Ext.refl G0 (by simp[Rel]))
def RV {i j pos}:DE X (.Constant (.bool i) j pos) (fC (.bl i)):=.of (PE.imp Ru λq H Q h=>by obtain⟨n,b,g,d,a,G0,c,h,p⟩:=h;cases h;exact p H n _ Ext.refl G0 (by simp[Rel]))
def Nq {j pos}:DE X (.Constant .none j pos) fe:=.of (PE.imp Md λn H Q h=>by obtain⟨i,b,g,d,a,G0,c,h,p⟩:=h;cases h;exact p H i _ Ext.refl G0 (by simp[Rel]))
def Nr (i:Nat)(l:X.N[i]? = some x)(o:Cr X.env.scope x)(q:(x == ("__debug__":Str))=false)(k:(x == ("__classdict__":Str))=false):DE X (.Name x a) (aa i):=.of (PE.imp (Mb l o q k) λu H Q h=>by
 obtain⟨n,j,g,d,r,G0,b,h,p⟩:=h;unfold aa at h;split at h
 . rename_i c e
   obtain⟨rfl,rfl⟩:c=d/\g=r:=by cases h;exact⟨rfl,rfl⟩
   obtain⟨v,pos,f⟩:=b.2 i _ e;exact⟨v,pos,p H n v Ext.refl G0 f⟩
 . cases h)
def Ka {v:V}{d:D}(f:Gl X x)(i:X.mg x=some h)(r:lX v h)(q:∀K H n,Rel K H n d v)(j:(x == ("__debug__":Str))=false):DE X (.Name x a) (fC d):=.of (
 PE.imp (sL f i r j) λy H Q u=>by obtain⟨n,b,g,d,pos,G0,c,u,p⟩:=u;cases u;exact p H n _ Ext.refl G0 (q _ _ _))
inductive dW (K:KW)(o:D->D->G->Option (D×G))(x:V)(y:V)(H:Hp)(Q:VK):Prop
 |mk (ι:Ix) (g:G) (d1:D) (d2:D) (d:D) (g':G) (h0:aA K H ι g) (h1:Rel K H ι d1 x) (h2:Rel K H ι d2 y) (h3:o d1 d2 g=some (d,g')) (h4:fY K H ι d g' Q):dW K o x y H Q
inductive Nt (K:KW)(o:D->G->Option (D×G))(x:V)(H:Hp)(Q:VK):Prop
 |mk (ι:Ix) (g:G) (d1:D) (d:D) (g':G) (h0:aA K H ι g) (h1:Rel K H ι d1 x) (h2:o d1 g=some (d,g')) (h3:fY K H ι d g' Q):Nt K o x H Q
inductive kS (K:KW)(o:List D->G->Option (D×G))(xs:List V)(H:Hp)(Q:VK):Prop
 |mk (ι:Ix) (g:G) (ds:List D) (d:D) (g':G) (h0:aA K H ι g) (h1:ao K H ι ds xs) (h2:o ds g=some (d,g')) (h3:fY K H ι d g' Q):kS K o xs H Q
noncomputable def ak (o:D->D->G->Option (D×G))(fa h:FE):FE:=λc g=>(fa c g).bind λr=>(h c r.2).bind λq=>o r.1 q.1 q.2
noncomputable def n9 (o:D->G->Option (D×G))(fa:FE):FE:=λc g=>(fa c g).bind λr=>o r.1 r.2
def bind_some {i j:Type}{x:Option i}{f:i->Option j}{b:j}(h:x.bind f=some b):∃a,x=some a/\f a=some b:=by
 cases x with
 |none=>cases h|some a=>exact⟨a,rfl,h⟩
def qX {fa:FE}{B:FE}{K}{o:D->D->G->Option (D×G)}(h:tD K (ak o fa B) y H n):CF (dW K o) (tD K fa) (tD K B) y H n:=by obtain⟨O,C,g,d,b,G0,x,h,p⟩:=h;obtain⟨⟨l,Q⟩,k,h⟩:=bind_some h;obtain⟨⟨E,I⟩,f,h⟩:=bind_some h;refine tD.bind G0 x k λR J v c e j q=>?_;refine tD.bind e j f λU i u a s z r=>?_;exact⟨i,I,l,E,d,b,s,Rel.ext a _ q,r,h,p.mono (c.trans a)⟩
def kT {fa:FE}{c:FE}{op:Xu}{o:D->D->G->Option (D×G)}(j:bS X (th op) (dW X.kw o))(f:DE X e fa)(i:DE X K c):DE X (.BinOp e op K a) (ak o fa c):=.of (
 PE.imp (RF j f.un i.un) λn H Q h=>qX h)
def Nu {fa:FE}{c:FE}{o:D->D->G->Option (D×G)}(k:bS X (tA d) (dW X.kw o))(f:DE X e fa)(j:DE X K c)(i:aev d K=false):DE X (.Compare e [d] [K] a) (ak o fa c):=.of (
 PE.imp (JR k f.un j.un i) λn H Q h=>qX h)
def RW {fa:FE}{op:UnaryOp}{o:D->G->Option (D×G)}(u:CD X (unaryOp op) (Nt X.kw o))(s:DE X e fa):DE X (.UnaryOp op e a) (n9 o fa):=.of (
 PE.imp (RG u s.un) λx H Q h=>by obtain⟨y,r,g,d,b,G0,l,h,p⟩:=h;obtain⟨⟨i,n⟩,f,h⟩:=bind_some h;refine tD.bind G0 l f λB k v c pos q j=>?_;exact⟨k,n,i,d,b,pos,j,h,p.mono c⟩)
noncomputable def d6 (r:Option (D×G)):Option (Bool×G):=r.bind λr=>match r.1 with|.bl e=>some (e,r.2)|_=>none
def wA {r:Option (D×G)}{g:G}(h:d6 r=some (k,g)):r=some (.bl k,g):=by
 obtain⟨⟨d,c⟩,a,h⟩:=bind_some h;cases d with
 |bl b=>cases h;exact a|_=>cases h
noncomputable def aD (f:FE):FT:=λc g=>d6 (f c g)
def F8 {K f}(h:lM K (aD f) y H w):vj (tD K f) y H w:=by
 obtain⟨u,r,g,b,o,G0,l,h,p⟩:=h;obtain⟨⟨d,x⟩,e,h⟩:=bind_some h;cases d with
 |bl k =>
  cases h;exact tD.bind G0 l e λn j v a c q i=>⟨b,by simpa[Rel]using i,p n j a c⟩
 |_=>cases h
def Bc {t:TE}(i:∀y H w,t' y H w->t y H w)(h:vj t' y H w):vj t y H w:=i y H _ h
def Nw {fa:FE}{c:FE}{o:D->D->G->Option (D×G)}(k:bS X (tA d) (dW X.kw o))(f:DE X e fa)(j:DE X K c)(i:aev d K=false):DT X (.Compare e [d] [K] a) (aD (ak o fa c)):=.of (
 PT.imp (JS k f.un j.un i) λn H Q h=>Bc (λ_ _ _=>qX) (F8 h))
noncomputable def jD (d:D)(g:G):Option Bool:=match d with
 |.ay=>some false|.bl e=>some e|.int i=>some (i != 0)|.tup c=>some (!c.isEmpty)|.lst c=>some (!c.isEmpty)|.eM=>some false|.ref n=>match g[n]? with|some c=>some (!c.isEmpty)|none=>none
 |.str _=>none|.bu _=>none|.fn _ _=>none
noncomputable def lz (f:FE):FT:=λc g=>(f c g).bind λr=>(jD r.1 r.2).map λb=>(b,r.2)
theorem ao.isEmpty {K H ι}{ds:List D}(h:ao K H ι ds j):ds.isEmpty=j.isEmpty:=by have:=h.length;cases ds<;>cases j<;>simp_all
def zg {K H ι g d v b}(G0:aA K H ι g)(r:Rel K H ι d v)(h:jD d g=some b):FK K v H b:=by
 cases d with
 |ay=>cases r;cases h;rfl|bl x=>cases r;cases h;rfl|int x=>cases r;cases h;rfl|str x=>cases h
 |tup p =>
  obtain⟨a,c,rfl,f,i⟩:=r;cases h;exact .inr (.inl ⟨c,f.sq,by rw[i.isEmpty]⟩)
 |lst p =>
  obtain⟨a,c,rfl,f,i⟩:=r;cases h;exact .inl ⟨c,f.sq,by rw[i.isEmpty]⟩
 |eM =>
  obtain⟨a,rfl,f,_⟩:=r;cases h;exact .inr (.inr ⟨[],f,rfl⟩)
 |ref n =>
  obtain⟨a,rfl,k⟩:=r;simp only[jD]at h;split at h
  . rename_i p e
    cases h;obtain⟨c,j,l⟩:=G0.at e k;exact .inl ⟨c,.of j,by rw[l.isEmpty]⟩
  . cases h
 |bu n=>cases h|fn x=>cases h
def Nx {fa:FE}(s:DE X e fa)(u:∀whole,isTrue e X.env whole=(do let n <- whole;ags e.pos;Ct [n] (truthy n))):DT X e (lz fa):=.of (
 PT.imp (FL s.un u) λy H Q h=>by
  obtain⟨B,r,g,b,o,G0,l,h,p⟩:=h;obtain⟨⟨d,v⟩,f,h⟩:=bind_some h;cases ht:jD d v with
  |none=>rw[ht]at h;cases h
  |some k =>
   rw[ht]at h;cases h;exact tD.bind G0 l f λx j n a c q i=>⟨b,zg c i ht,p x j a c⟩)
noncomputable def wB (h gb:FT):FT:=λc g=>(h c g).bind λr=>if r.1=true then gb c r.2 else some (false,r.2)
noncomputable def C8 (h gb:FT):FT:=λc g=>(h c g).bind λr=>if r.1=true then some (true,r.2)else gb c r.2
noncomputable def F9 (c:FT):FT:=λh g=>(c h g).bind λr=>some (!r.1,r.2)
def Kb {c:FT}(f:DT X e c):DW X (.BoolOp .And [e] a) c:=.of (JI f.un)
def Ny {c:FT}(f:DT X e c):DW X (.BoolOp .Or [e] a) c:=.of (Mf f.un)
def Nz {n:FT}{gb:FT}(s:DT X e n)(u:DW X (.BoolOp .And (K::B) a) gb):DW X (.BoolOp .And (e::K::B) a) (wB n gb):=.of (
 PW.imp (Mg s.un u.un) λy H Q h=>by
  obtain⟨C,q,g,k,i,G0,r,h,p⟩:=h;obtain⟨⟨l,v⟩,o,h⟩:=bind_some h;refine lM.bind G0 r o λx f c b j=>?_;cases l with
  |true=>simp only[if_true]at h ⊢;exact⟨f,q,v,k,i,b,j,h,p.mono c⟩|false=>simp only[ql,if_false]at h ⊢;cases h;exact p x f c b)
def RX {n:FT}{gb:FT}(s:DT X e n)(u:DW X (.BoolOp .Or (K::B) a) gb):DW X (.BoolOp .Or (e::K::B) a) (C8 n gb):=.of (
 PW.imp (Rv s.un u.un) λy H Q h=>by
  obtain⟨C,q,g,k,i,G0,r,h,p⟩:=h;obtain⟨⟨l,v⟩,o,h⟩:=bind_some h;refine lM.bind G0 r o λx f c b j=>?_;cases l with
  |false=>simp only[ql,if_false]at h ⊢;exact⟨f,q,v,k,i,b,j,h,p.mono c⟩|true=>simp only[if_true]at h ⊢;cases h;exact p x f c b)
def DW.dt {c:FT}(h:DW X e c):DT X e c:=.of (PW.pt h.un)
def NA {n:FT}(r:DT X e n):DT X (.UnaryOp .Not e a) (F9 n):=.of (
 PT.imp (Mh r.un) λv H Q h=>by obtain⟨x,q,g,k,j,G0,i,h,p⟩:=h;obtain⟨⟨o,y⟩,pos,h⟩:=bind_some h;cases h;exact lM.bind G0 i pos λu f b c l=>p u f b c)
noncomputable def mN (fa h:FE):FE:=λc g=>(d6 (fa c g)).bind λr=>if r.1=true then h c r.2 else some (.bl false,r.2)
noncomputable def F_ (fa h:FE):FE:=λc g=>(d6 (fa c g)).bind λr=>if r.1=true then some (.bl true,r.2)else h c r.2
def NB {fa:FE}{op}(h:DE X e fa):DE X (.BoolOp op [e] a) fa:=.of (Mi h.un)
def C9 {fa:FE}{n:FE}(s:DE X e fa)(u:DE X (.BoolOp .And (K::B) a) n):DE X (.BoolOp .And (e::K::B) a) (mN fa n):=.of (
 PE.imp (Mj s.un u.un) λC H Q h=>by
  obtain⟨E,q,g,d,k,G0,r,h,p⟩:=h;obtain⟨⟨i,x⟩,c,h⟩:=bind_some h;have c:=wA c;refine tD.bind G0 r c λy j v b f l o=>⟨i,by simpa[Rel]using o,?_⟩
  cases i with
  |true=>simp only[if_true]at h ⊢;exact⟨j,q,x,d,k,f,l,h,p.mono b⟩|false=>simp only[ql,if_false]at h ⊢;cases h;exact p y j _ b f (by simp[Rel]))
def RY {fa:FE}{n:FE}(s:DE X e fa)(u:DE X (.BoolOp .Or (K::B) a) n):DE X (.BoolOp .Or (e::K::B) a) (F_ fa n):=.of (
 PE.imp (Rx s.un u.un) λC H Q h=>by
  obtain⟨E,q,g,d,k,G0,r,h,p⟩:=h;obtain⟨⟨i,x⟩,c,h⟩:=bind_some h;have c:=wA c;refine tD.bind G0 r c λy j v b f l o=>⟨i,by simpa[Rel]using o,?_⟩
  cases i with
  |false=>simp only[ql,if_false]at h ⊢;exact⟨j,q,x,d,k,f,l,h,p.mono b⟩|true=>simp only[if_true]at h ⊢;cases h;exact p y j _ b f (by simp[Rel]))
noncomputable def lA (h:FT)(fa i:FE):FE:=λc g=>(h c g).bind λr=>if r.1=true then fa c r.2 else i c r.2
def NC {fa:FE}{n:FE}{x:FT}(u:DT X c x)(s:DE X e fa)(v:DE X K n):DE X (.IfExp c e K a) (lA x fa n):=.of (
 PE.imp (Fw u.un s.un v.un) λB H Q h=>by
  obtain⟨C,l,g,d,b,G0,r,h,p⟩:=h;obtain⟨⟨o,y⟩,q,h⟩:=bind_some h;refine lM.bind G0 r q λE k f i j=>?_;cases o with
  |true=>simp only[if_true]at h ⊢;exact⟨k,l,y,d,b,i,j,h,p.mono f⟩|false=>simp only[ql,if_false]at h ⊢;exact⟨k,l,y,d,b,i,j,h,p.mono f⟩)
noncomputable def aj:FA:=λ_ g=>some ([],g)
noncomputable def af (fa:FE)(fr:FA):FA:=λc g=>(fa c g).bind λr=>(fr c r.2).bind λq=>some (r.1::q.1,q.2)
def C_:DA X [] aj:=.of (PA.imp nW λn H Q h=>by obtain⟨i,b,g,d,a,G0,c,h,p⟩:=h;cases h;exact p H i _ Ext.refl G0 (by simp[ao]))
def sR {fa:FE}{fr:FA}(A:DE X e fa)(n:DA X B fr)(C:m2 (e::B) X.env=(false,eval e X.env)::m2 B X.env):DA X (e::B) (af fa fr):=.of (
 PA.imp (lI A.un n.un C) λJ H Q h=>by obtain⟨O,E,g,d,x,G0,s,h,p⟩:=h;obtain⟨⟨z,R⟩,l,h⟩:=bind_some h;obtain⟨⟨U,Y⟩,i,h⟩:=bind_some h;cases h;refine tD.bind G0 s l λZ I v b f k o=>?_;refine iy.bind f k i λc j u a r y q=>?_;refine p c j _ (b.trans a) r ?_;simp only[ao];exact⟨_,_,rfl,Rel.ext a _ o,q⟩)
noncomputable def aC (n:Nat):Bool:=decide (n<=16777216)
def aC.le (h:aC i=true):i<=mK:=by rw[HX];exact of_decide_eq_true h
noncomputable def ax (ds:List D)(g:G):Option (D×G):=if aC ds.length=true then some (.tup ds,g)else none
noncomputable def jQ (ds:List D)(g:G):Option (D×G):=if aC ds.length=true then some (.lst ds,g)else none
noncomputable def mkRef (ds:List D)(g:G):Option (D×G):=if aC ds.length=true then some (.ref g.length,g ++ [ds])else none
def Ga {K H ι g ds vs d g' Q}(G0:aA K H ι g)(r:ao K H ι ds vs)(h:ax ds g=some (d,g'))(p:fY K H ι d g' Q):vs.length<=mK /\ ∀q,H q=none->Q (.ref q) (upd H q (.tup vs)):=by
 unfold ax at h;split at h
 . rename_i z
   cases h;refine⟨by rw[<- r.length];exact aC.le z,λq a=>p _ _ _ (Ext.lay a) (G0.lay a) ?_⟩;simp only[Rel];exact⟨q,vs,rfl,.inl ⟨.inl aT,G0.fresh a⟩,ao.ext (Ext.lay a) _ r⟩
 . cases h
def Gb {K H ι g ds vs d g' Q}(G0:aA K H ι g)(r:ao K H ι ds vs)(h:jQ ds g=some (d,g'))(p:fY K H ι d g' Q):vs.length<=mK /\ ∀q,H q=none->Q (.ref q) (upd H q (.lst vs)):=by
 unfold jQ at h;split at h
 . rename_i z
   cases h;refine⟨by rw[<- r.length];exact aC.le z,λq a=>p _ _ _ (Ext.lay a) (G0.lay a) ?_⟩;simp only[Rel];exact⟨q,vs,rfl,.inl ⟨.inl aT,G0.fresh a,G0.iw a⟩,ao.ext (Ext.lay a) _ r⟩
 . cases h
def Gf {K H ι g ds vs d g' Q}(G0:aA K H ι g)(r:ao K H ι ds vs)(h:mkRef ds g=some (d,g'))(p:fY K H ι d g' Q):vs.length<=mK /\ ∀q,H q=none->Q (.ref q) (upd H q (.lst vs)):=by
 unfold mkRef at h;split at h
 . rename_i z
   cases h;refine⟨by rw[<- r.length];exact aC.le z,λq a=>p _ _ _ (Ext.push a) (G0.push a r) ?_⟩;simp only[Rel];exact⟨q,rfl,eG.new G0.len⟩
 . cases h
noncomputable def aI (m:List D->G->Option (D×G))(fr:FA):FE:=λc g=>(fr c g).bind λr=>m r.1 r.2
def De {fr:FA}{q}(h:DA X B fr):DE X (.Tuple B q a) (aI ax fr):=.of (PE.imp (MS h.un) λr H Q h=>by obtain⟨u,o,g,d,i,G0,f,h,p⟩:=h;obtain⟨⟨k,x⟩,c,h⟩:=bind_some h;exact iy.bind G0 f c λy l v n b j e=>Ga b e h (p.mono n))
def ND {fr:FA}(h:DA X B fr):DE X (.List B a) (aI jQ fr):=.of (PE.imp (CJ h.un) λq H Q h=>by obtain⟨r,o,g,d,i,G0,f,h,p⟩:=h;obtain⟨⟨k,u⟩,c,h⟩:=bind_some h;exact iy.bind G0 f c λx l v n b j e=>Gb b e h (p.mono n))
def NF {fr:FA}(h:DA X B fr):DE X (.List B a) (aI mkRef fr):=.of (PE.imp (CJ h.un) λq H Q h=>by obtain⟨r,o,g,d,i,G0,f,h,p⟩:=h;obtain⟨⟨k,u⟩,c,h⟩:=bind_some h;exact iy.bind G0 f c λx l v n b j e=>Gf b e h (p.mono n))
set_option genInjectivity true in
inductive F where
 |nx|rt (d:D)|bk|ct
abbrev FS:=Sg->G->Option (F×Sg×G)
def vo (K:KW)(H:Hp)(n:Ix)(r:F)(b:Sg)(p:G)(a:Ends):Prop :=
 ∀i h,Ext H n i h->aA K i h p->match r with
  |.nx=>∀c,bQ K i h b c->a.nx c i|.bk=>∀c,bQ K i h b c->a.bk c i|.ct=>∀c,bQ K i h b c->a.ct c i|.rt d=>∀v,Rel K i h d v->a.rt v i
inductive Ii (K:KW)(f:FS)(Dn:Ends)(σ:lU)(H:Hp):Prop
 |mk (ι:Ix) (σd:Sg) (g:G) (r:F) (cy:Sg) (g':G) (h0:aA K H ι g) (h1:bQ K H ι σd σ) (h2:f σd g=some (r,cy,g')) (h3:vo K H ι r cy g' Dn):Ii K f Dn σ H
structure DS (X:Cx)(st:Stmt)(f:FS):Prop where of ::
 un:qU X st (Ii X.kw f)
structure lN (X:Cx)(pW:List Stmt)(f:FS):Prop where of ::
 un:ip X pW (Ii X.kw f)
def qU.imp {t t':TS}(h:qU X u t)(i:∀n c H,t' n c H->t n c H):qU X u t':=λp s c H Q I q=>h p s c H Q I (i Q c H q)
def ip.imp {t t':TS}(h:ip X R t)(i:∀n c H,t' n c H->t n c H):ip X R t':=λp s c H Q I q=>h p s c H Q I (i Q c H q)
def vo.mono {K H ι j h r i g' Dn}(e:Ext H ι j h)(p:vo K H ι r i g' Dn):vo K j h r i g' Dn:=λa c b f=>p a c (e.trans b) f
noncomputable def aP:FS:=λc g=>some (.nx,c,g)
noncomputable def az (c h:FS):FS:=λi g=>(c i g).bind λr=>match r.1 with|.nx=>h r.2.1 r.2.2|_=>some r
noncomputable def aK (f:FE):FS:=λc g=>(f c g).bind λr=>some (.rt r.1,c,r.2)
noncomputable def i7 (f:FE):FS:=λc g=>(f c g).bind λr=>some (.nx,c,r.2)
noncomputable def bU (c:FT)(i n:FS):FS:=λh g=>(c h g).bind λr=>if r.1=true then i h r.2 else n h r.2
def Kc:lN X [] aP:=.of (ip.imp JJ λb i H h=>by obtain⟨n,c,g,r,e,f,G0,a,h,p⟩:=h;cases h;exact p H n Ext.refl G0 i a)
def Gg {x:FS}{y:FS}(st:DS X u x)(v:lN X R y):lN X (u::R) (az x y):=.of (ip.imp (Fx st.un v.un) λs E H h=>by
 obtain⟨C,l,g,r,k,i,G0,o,h,p⟩:=h;obtain⟨⟨e,f,B⟩,st,h⟩:=bind_some h;refine⟨C,l,g,e,f,B,G0,o,st,λn c a b=>?_⟩;cases e with
 |nx=>exact λq j=>⟨c,f,B,r,k,i,b,j,h,p.mono a⟩|bk=>cases h;exact p n c a b|ct=>cases h;exact p n c a b|rt d=>cases h;exact p n c a b)
def Ke {c:FS}(a:DS X u c):lN X [u] c:=.of (JK a.un)
def Kf:DS X (.Pass a) aP:=.of (qU.imp JL λb i H h=>by obtain⟨n,c,g,r,e,f,G0,pos,h,p⟩:=h;cases h;exact p H n Ext.refl G0 i pos)
def NG {n:FE}(x:DE X e n):DS X (.Return (some e) a) (aK n):=.of (qU.imp (Mm x.un) λq B H h=>by obtain⟨C,u,g,r,s,k,G0,j,h,p⟩:=h;obtain⟨⟨o,E⟩,c,h⟩:=bind_some h;cases h;exact tD.bind G0 j c λy i v pos b l f=>p y i pos b v f)
def Kg {n:FE}(y:DE X e n)(x:Pr e none a.line X.env=pure false):DS X (.Expr e a) (i7 n):=.of (qU.imp (JM y.un x) λq B H h=>by obtain⟨E,u,g,r,s,k,G0,j,h,p⟩:=h;obtain⟨⟨l,I⟩,f,h⟩:=bind_some h;cases h;exact tD.bind G0 j f λC i v pos b c o=>p C i pos b B c)
def NH {x j pos i}:DS X (.Expr (.Constant (.str x) j pos) i) aP:=.of (qU.imp Ml λb n H h=>by obtain⟨q,c,g,r,e,f,G0,a,h,p⟩:=h;cases h;exact p H q Ext.refl G0 n a)
def RZ {n:FS}{B:FS}{C:FT}{b:List Stmt}(x:DT X c C)(y:lN X R n)(z:lN X b B):DS X (.If c R b a) (bU C n B):=.of (qU.imp (Rz x.un y.un z.un) λv I H h=>by
 obtain⟨J,q,g,r,o,e,G0,u,h,p⟩:=h;obtain⟨⟨k,E⟩,s,h⟩:=bind_some h;refine lM.bind G0 u s λO l f i j=>?_;cases k with
 |true=>simp only[if_true]at h ⊢;exact⟨l,q,E,r,o,e,i,j,h,p.mono f⟩|false=>simp only[ql,if_false]at h ⊢;exact⟨l,q,E,r,o,e,i,j,h,p.mono f⟩)
abbrev FG:=D->Sg->G->Option (Sg×G)
abbrev pX:=List D->Sg->G->Option (Sg×G)
inductive NI (K:KW)(f:FG)(v:V)(σ:lU)(H:Hp)(Q:(lU->Hp->Prop)):Prop
 |mk (ι:Ix) (σd:Sg) (g:G) (d:D) (cy:Sg) (g':G) (h0:aA K H ι g) (h1:bQ K H ι σd σ) (h2:Rel K H ι d v) (h3:f d σd g=some (cy,g')) (h4:∀H' ι' σ',Ext H ι H' ι'->aA K H' ι' g'->bQ K H' ι' cy σ'->Q σ' H'):NI K f v σ H Q
inductive NJ (K:KW)(f:pX)(v:List V)(σ:lU)(H:Hp)(Q:(lU->Hp->Prop)):Prop
 |mk (ι:Ix) (σd:Sg) (g:G) (d:List D) (cy:Sg) (g':G) (h0:aA K H ι g) (h1:bQ K H ι σd σ) (h2:ao K H ι d v) (h3:f d σd g=some (cy,g')) (h4:∀H' ι' σ',Ext H ι H' ι'->aA K H' ι' g'->bQ K H' ι' cy σ'->Q σ' H'):NJ K f v σ H Q
structure DG (X:Cx)(tg:Expr)(f:FG):Prop where of ::
 un:PG X tg (NI X.kw f)
structure Df (X:Cx)(tg:List Expr)(f:pX):Prop where of ::
 un:pN X tg (NJ X.kw f)
def PG.imp {t t':TG}(h:PG X e t)(i:∀v c H Q,t' v c H Q->t v c H Q):PG X e t':=λn s c H v u Q I r q=>h n s c H v u Q I r (i v c H Q q)
def pN.imp {t t':t8}(h:pN X B t)(i:∀v c H Q,t' v c H Q->t v c H Q):pN X B t':=λn s c H v u Q I r q=>h n s c H v u Q I r (i v c H Q q)
noncomputable def gN (i:Nat):FG:=λd c g=>some (c.set i (some d),g)
theorem bQ.set {K H ι c σ d v}(S:bQ K H ι c σ)(r:Rel K H ι d v)(i:Nat):bQ K H ι (c.set i (some d)) (σ.set i (some v)):=by
 refine⟨by simp[S.1],λj b q=>?_⟩;by_cases e:i=j
 . subst e
   have a:i < c.length:=by
    by_cases a:i < c.length
    . exact a
    . rw[ac4.mpr (by simpa using a)]at q;cases q
   rw[vT a]at q;cases q;exact⟨v,by rw[vT (by rw[<- S.1];exact a)],r⟩
 . rw[IZ e]at q ⊢
   exact S.2 j b q
def Kh (k:X.N.Nodup)(j:X.N[i]? = some x)(l:El X.env.scope x)(f:X.fn x=true\/X.env.scope.names.lookup x=some .local):DG X (.Name x a) (gN i):=.of (
 PG.imp (JN k j l f) λv q H Q h=>by obtain⟨n,e,g,d,b,c,G0,pos,r,h,p⟩:=h;cases h;exact p H n _ Ext.refl G0 (pos.set r i))
noncomputable def gu:pX:=λds c g=>match ds with| []=>some (c,g)|_=>none
noncomputable def bZ (t:FG)(u:pX):pX:=λds c g=>match ds with|d::r=>(t d c g).bind λq=>u r q.1 q.2| []=>none
def Ki:Df X [] gu:=.of (pN.imp JO λv n H Q h=>by
 obtain⟨i,e,g,d,b,c,G0,a,r,h,p⟩:=h;cases d with
 |nil=>cases h;simp only[ao]at r;exact⟨r,p H i _ Ext.refl G0 a⟩|cons _ _=>cases h)
def Gh {t:FG}{u:pX}(A:DG X e t)(C:Df X B u)(I:(yh (e::B) X.env).map (·.2)=Dd e X.env::(yh B X.env).map (·.2)):Df X (e::B) (bZ t u):=.of (pN.imp (FC A.un C.un I) λv σ H Q h=>by
 obtain⟨J,z,g,d,y,c,G0,O,r,h,p⟩:=h;cases d with
 |nil=>cases h
 |cons d ds =>
  obtain⟨R,q,rfl,U,x⟩:=r;obtain⟨⟨b,E⟩,A,h⟩:=bind_some h;exact⟨R,q,rfl,J,z,g,d,b,E,G0,O,U,A,λH1 o Y a j l=>⟨o,b,E,ds,y,c,j,l,ao.ext a _ x,h,λi k n s Z f=>p i k n (a.trans s) Z f⟩⟩)
noncomputable def gT (n:Nat)(t:pX):FG:=λd h g=>match d with|.tup c=>if c.length=n then t c h g else none|_=>none
def NK {t:pX}(k:X.calm=true)(h:Df X B t)(s:(yh B X.env).length=o)(q:(yh B X.env).findIdx? (·.1)=none):DG X (.Tuple B i a) (gT o t):=.of (PG.imp (Mn k h.un s q) λv C H Q h=>by
 obtain⟨u,x,g,d,f,c,G0,l,r,h,p⟩:=h;cases d with
 |tup y =>
  obtain⟨n,j,rfl,e,b⟩:=r;simp only[gT]at h;split at h
  . rename_i z
    exact⟨n,j,rfl,e.sq,by rw[<- b.length];exact z,u,x,g,y,f,c,G0,l,b,h,p⟩
  . cases h
 |_=>cases h)
noncomputable def aF (f:FE)(t:FG):FS:=λc g=>(f c g).bind λr=>(t r.1 c r.2).bind λq=>some (.nx,q.1,q.2)
def Kj {K t}{n:FE}{A σ H}(h:Ii K (aF n t) A σ H):FD (tD K n) (NI K t) A σ H:=by obtain⟨I,y,g,r,J,O,G0,B,h,p⟩:=h;obtain⟨⟨o,C⟩,l,h⟩:=bind_some h;obtain⟨⟨x,E⟩,i,h⟩:=bind_some h;cases h;exact tD.bind G0 B l λQ s v c f k q=>⟨s,y,C,o,x,E,f,k,q,i,λe j b u z a=>p e j (c.trans u) z b a⟩
def wC {n:FE}{t:FG}(c:DE X e n)(b:DG X K t)(f:TL [K] e a.line X.env=pure false)(hw:Qh [K] e X.env=pure none)(i:(yh [K] X.env).map (·.2)= [Dd K X.env]):DS X (.Assign [K] e a) (aF n t):=.of (qU.imp (Mq c.un b.un f hw i) λtg p H h=>Kj h)
def Dg {n:FE}(E:X.N.Nodup)(C:X.N[i]? = some x)(J:El X.env.scope x)(A:DE X e n)(I:Pr e (some (.Name x a)) p.line X.env=pure false)(B:X.fn x=true\/X.env.scope.names.lookup x=some .local):
  DS X (.Assign [.Name x a] e p) (aF n (gN i)):=.of (qU.imp (Mr E C J A.un I B) λs Q H h=>by
 obtain⟨R,y,g,r,u,o,G0,l,h,z⟩:=h;obtain⟨⟨q,U⟩,f,h⟩:=bind_some h;cases h;exact tD.bind G0 l f λO k v pos b c j=>z O k pos b _ (c.set j i))
noncomputable def putD (o i v:D)(g:G):Option G:=match o,i with
 |.ref n,.int k=>match g[n]? with
  |some c=>match lJ c.length k with
   |some j=>some (g.set n (c.set j v))|none=>none
  |none=>none
 |_,_=>none
abbrev FI:=Sg->G->Option (List D×G)
structure jI (H:Hp)(ι:Ix)(H':Hp)(ι':Ix):Prop where
 same:∀a o,H a=some o->a ∉ ι.ix->H' a=some o
 there:∀a,H a≠none->H' a≠none
 more:∃m,ι'.ix=ι.ix++m /\ ∀a∈m,H a=none
 cQ:∃hs,ι'.hd=hs++ι.hd /\ ∀b∈hs,H b=none
 nH:∀i,i < ι.ix.length->ι'.kd i=ι.kd i
def Ext.eH {H ι a ι1}(e:Ext H ι a ι1):jI H ι a ι1:=⟨e.same,e.there,e.more,⟨[],e.cQ,λ_ z=>by simp at z⟩,e.nH⟩
def jI.old {H ι i c}(a:jI H ι i c)(h:H f=some g)(n:f ∉ ι.ix):f ∉ c.ix:=λz=>by
 obtain⟨e,b,p⟩:=a.more;rw[b]at z;rcases m3.mp z with z|z
 . exact n z
 . rw[p f z]at h;cases h
def jI.Gi {H ι i c}(a:jI H ι i c)(h:H f=some g)(n:f ∉ ι.hd):f ∉ c.hd:=λz=>by
 obtain⟨e,b,p⟩:=a.cQ;rw[b]at z;rcases m3.mp z with z|z
 . rw[p f z]at h;cases h
 . exact n z
def jI.at {H ι l c}(a:jI H ι l c)(h:eG ι i f k):eG c i f k:=by obtain⟨j,b,_⟩:=a.more;have e:=(m5.mp h.1).1;refine⟨?_,by rw[a.nH i e];exact h.2⟩;rw[b,ra e];exact h.1
def nG.eH {K H ι c b a xs}(e:jI H ι c b)(h:nG K H ι a xs):nG K c b a xs:=by
 rcases h with⟨h|⟨o,h⟩,n,k⟩|h
 . exact .inl ⟨.inl (e.same _ _ h n),e.old h n,e.Gi h k⟩
 . exact .inl ⟨.inr ⟨o,e.same _ _ h n⟩,e.old h n,e.Gi h k⟩
 . exact .inr h
def pV.eH {K H ι c b a xs}(e:jI H ι c b)(h:pV K H ι a xs):pV K c b a xs:=by
 rcases h with⟨h|⟨o,h⟩,n⟩|h
 . exact .inl ⟨.inl (e.same _ _ h n),e.old h n⟩
 . exact .inl ⟨.inr ⟨o,e.same _ _ h n⟩,e.old h n⟩
 . exact .inr h
mutual
theorem Rel.eH {K H ι l k}(e:jI H ι l k):∀(d:D) {v:V},Rel K H ι d v->Rel K l k d v
 |.ay,v,h=>h|.bl _,v,h=>h|.int _,v,h=>h|.str _,v,h=>h|.tup r,v,h=>by simp only[Rel]at h ⊢;obtain⟨a,j,f,b,i⟩:=h;exact⟨a,j,f,b.eH e,ao.eH e r i⟩
 |.lst r,v,h=>by simp only[Rel]at h ⊢;obtain⟨a,j,f,b,i⟩:=h;exact⟨a,j,f,b.eH e,ao.eH e r i⟩
 |.eM,v,h=>by simp only[Rel]at h ⊢;obtain⟨a,f,b,i⟩:=h;exact⟨a,f,e.same _ _ b i,e.old b i⟩
 |.ref n,v,h=>by simp only[Rel]at h ⊢;obtain⟨a,f,b⟩:=h;exact⟨a,f,e.at b⟩
 |.bu n,v,h=>by simp only[Rel]at h ⊢;obtain⟨a,f,b⟩:=h;exact⟨a,f,e.at b⟩
 |.fn x ds,v,h=>by simp only[Rel]at h ⊢;obtain⟨a,j,f,b,i⟩:=h;exact⟨a,j,f,b.mono λc u z q=>⟨e.same _ _ q.1 q.2.1,e.old q.1 q.2.1,λy=>e.Gi q.1 (q.2.2 y)⟩,ao.eH e ds i⟩
theorem ao.eH {K H ι j i}(e:jI H ι j i):∀(ds:List D) {p:List V},ao K H ι ds p->ao K j i ds p
 | [],p,h=>h|d::ds,p,h=>by simp only[ao]at h ⊢;obtain⟨v,b,f,a,c⟩:=h;exact⟨v,b,f,Rel.eH e d a,ao.eH e ds c⟩
end
noncomputable def kg (K:KW)(J:It)(H:Hp)(q:Ix)(ds:List D):Prop :=
 ∀(i:Nat) h c p,jI H q h c->aA K h c p->(ds.length<=i->J.stop i h) /\ ∀d,ds[i]? = some d->J.go i h /\ ∀x n,J.Cw i h x n->Ext h c n c/\aA K n c p/\Rel K n c d x
inductive UA (K:KW)(f:FI)(σ:lU)(H:Hp)(R:(It->Hp->Prop)):Prop
 |mk (ι:Ix) (σd:Sg) (g:G) (ds:List D) (g':G) (h0:aA K H ι g) (h1:bQ K H ι σd σ) (h2:f σd g=some (ds,g')) (h3:∀H' ι' J,Ext H ι H' ι'->aA K H' ι' g'->kg K J H' ι' ds->R J H'):UA K f σ H R
structure DI (X:Cx)(tg iter:Expr)(f:FI):Prop where of ::
 un:PI X tg iter (UA X.kw f)
def PI.imp {t t':TI}(h:PI X K e t)(i:∀c H Q,t' c H Q->t c H Q):PI X K e t':=λn s c H Q I q=>h n s c H Q I (i c H Q q)
def kg.lst {K H ι a vs ds}(l:nG K H ι a vs)(o:ao K H ι ds vs):kg K (HU K a) H ι ds:=λi n j p b h =>
 ⟨λe=>⟨vs,(l.eH b).sq,by rw[<- o.length];exact e⟩,λd hd=>by obtain⟨v,c,f⟩:=(ao.eH b _ o).get hd;refine⟨⟨vs,v,(l.eH b).sq,c⟩,λx k y=>?_⟩;obtain⟨rfl,y⟩:=y;have:=y vs (l.eH b).sq;rw[c]at this;cases this;exact⟨Ext.refl,h,f⟩⟩
def kg.W6 {K H ι a vs ds}(l:pV K H ι a vs)(o:ao K H ι ds vs):kg K (MB K a) H ι ds:=λi n j p b h =>
 ⟨λe=>⟨vs,(l.eH b).sq,by rw[<- o.length];exact e⟩,λd hd=>by obtain⟨v,c,f⟩:=(ao.eH b _ o).get hd;refine⟨⟨vs,v,(l.eH b).sq,c⟩,λx k y=>?_⟩;obtain⟨rfl,y⟩:=y;have:=y vs (l.eH b).sq;rw[c]at this;cases this;exact⟨Ext.refl,h,f⟩⟩
def kg.fU {K H ι}:kg K (Cy M i) H ι ((nJ i).map λ(k:Nat)=>D.int (M+k)):=λl n f p h c =>
 ⟨λb=>(by show i<=l;simpa using b),λd hd=>by
  have a:l<i:=by have:=(m5.mp hd).1;simpa using this
  refine⟨a,λx j y=>?_⟩;obtain⟨rfl,rfl⟩:=y;have e:d=D.int (M+l):=by simpa[nP,acM a]using hd.symm
  subst e;exact⟨Ext.refl,c,by simp[Rel]⟩⟩
noncomputable def vp (f:FE):FI:=λc g=>(f c g).bind λr=>match r.1 with|.tup h=>some (h,r.2)|_=>none
noncomputable def vq (f:FE):FI:=λc g=>(f c g).bind λr=>match r.1 with|.lst h=>some (h,r.2)|_=>none
def NL {n:FE}(y:DE X K n):DI X e K (vp n):=.of (PI.imp (MC y.un) λC H Q h=>by
 obtain⟨E,x,g,ds,s,G0,r,h,p⟩:=h;obtain⟨⟨j,I⟩,i,h⟩:=bind_some h;cases j with
 |tup J =>
  cases h;refine tD.bind G0 r i λB o v c f u k=>?_;obtain⟨a,q,rfl,b,tg⟩:=k;exact⟨a,rfl,⟨q,b.sq⟩,p B o _ c f (.W6 b tg)⟩
 |_=>cases h)
def NM {n:FE}(y:DE X K n):DI X e K (vq n):=.of (PI.imp (yR y.un) λC H Q h=>by
 obtain⟨E,x,g,ds,s,G0,r,h,p⟩:=h;obtain⟨⟨j,I⟩,i,h⟩:=bind_some h;cases j with
 |lst J =>
  cases h;refine tD.bind G0 r i λB o v c f u k=>?_;obtain⟨a,q,rfl,b,tg⟩:=k;exact⟨a,rfl,⟨q,b.sq⟩,p B o _ c f (.lst b tg)⟩
 |_=>cases h)
noncomputable def fR (i:Int):Bool:=N1 i.natAbs 4611686018427387903
def fR.and (h:fR M=true):-(2 ^ 62)<=M/\M<2 ^ 62:=by have:=SW h;omega
def fR.of (e:-1000000<=M)(c:M<=1000000):fR M=true:=acB (by omega)
noncomputable def iz (fr:FA):FI:=λc g=>(fr c g).bind λr=>match r.1 with| [.int j]=>if fR j=true then some ((nJ j.toNat).map λ(k:Nat)=>D.int (0+k),r.2)else none|_=>none
noncomputable def UB (fr:FA):FI:=λc g=>(fr c g).bind λr=>match r.1 with| [.int i,.int j]=>if(fR i&&fR j)=true then some ((nJ (j-i).toNat).map λ(k:Nat)=>D.int (i+k),r.2)else none|_=>none
def R0 {fr:FA}(s:Gl X "range")(y:X.mg "range" = none)(x:DA X [K] fr)(u:m2 [K] X.env = [(false,eval K X.env)]):DI X e (.Call (.Name "range" p) [K] [] a) (iz fr):=.of (
 PI.imp (CA s y x.un u) λB H Q h=>by
  obtain⟨C,r,g,ds,l,G0,k,h,p⟩:=h;obtain⟨⟨q,E⟩,tg,h⟩:=bind_some h;refine iy.bind G0 k tg λn i v b c o f=>?_;dsimp only at h;split at h
  . rename_i j
    split at h
    . rename_i z
      cases h;obtain⟨_,_,rfl,rfl,rfl⟩:=f;exact⟨j,rfl,(fR.and z).1,(fR.and z).2,p n i _ b c .fU⟩
    . cases h
  . cases h)
def R1 {fr:FA}(x:Gl X "range")(A:X.mg "range" = none)(y:DA X [K,c] fr)(B:m2 [K,c] X.env = [(false,eval K X.env),(false,eval c X.env)])(C:m2 [c] X.env = [(false,eval c X.env)]):DI X e (.Call (.Name "range" p) [K,c] [] a) (UB fr):=.of (
 PI.imp (CB x A y.un B C) λE H Q h=>by
  obtain⟨I,u,g,ds,q,G0,o,h,p⟩:=h;obtain⟨⟨s,J⟩,f,h⟩:=bind_some h;refine iy.bind G0 o f λn l v tg b r k=>?_;dsimp only at h;split at h
  . rename_i i j
    split at h
    . rename_i z
      rw[l8]at z;cases h;obtain⟨_,_,rfl,rfl,_,_,rfl,rfl,rfl⟩:=k;exact⟨i,j,rfl,⟨(fR.and z.1).1,(fR.and z.1).2,(fR.and z.2).1,(fR.and z.2).2⟩,p n l _ tg b .fU⟩
    . cases h
  . cases h)
noncomputable def forL (t:FG)(b:FS):List D->FS
 | [],c,g=>some (.nx,c,g)
 |d::ds,c,g=>(t d c g).bind λq=>(b q.1 q.2).bind λr=>match r.1 with
  |.nx=>forL t b ds r.2.1 r.2.2|.ct=>forL t b ds r.2.1 r.2.2|.bk=>some (.nx,r.2.1,r.2.2)|.rt d=>some (.rt d,r.2.1,r.2.2)
noncomputable def fO (i:FI)(t:FG)(b:FS):FS:=λc g=>(i c g).bind λr=>forL t b r.1 c r.2
noncomputable def gF (c:FT)(b:FS):Nat->FS
 | 0,_,_=>none
 |n+1,h,g=>(c h g).bind λk=>if k.1=true then(b h k.2).bind λr=>match r.1 with
   |.nx=>gF c b n r.2.1 r.2.2|.ct=>gF c b n r.2.1 r.2.2|.bk=>some (.nx,r.2.1,r.2.2)|.rt d=>some (.rt d,r.2.1,r.2.2)
  else some (.nx,h,k.2)
noncomputable def Dh (n:Nat)(c:FT)(b:FS):FS:=gF c b n
inductive NN (X:Cx)(gc:FT)(b:FS)(H:Hp)(ι:Ix)(r:F)(cy:Sg)(g':G)(m:Nat)(σ2:lU)(H2:Hp):Prop
 |mk (ι2:Ix) (qY:Sg) (g2:G) (e2:Ext H ι H2 ι2) (G2:aA X.kw H2 ι2 g2) (S2:bQ X.kw H2 ι2 qY σ2) (hf:gF gc b m qY g2=some (r,cy,g')):NN X gc b H ι r cy g' m σ2 H2
def Gj {B:FT}{b:FS}(n:Nat)(E:ZF (model X.prog X.w) X.A X.env X.xe)(C:DT X c B)(I:lN X R b):DS X (.While c R [] a) (Dh n B b):=.of (qU.imp (FF E C.un I.un) λDn σ H h=>by
 obtain⟨O,Q,g,r,Y,s,G0,S0,h,p⟩:=h;refine⟨NN X B b H O r Y s,⟨n,O,Q,g,Ext.refl,G0,S0,h⟩,?_⟩;rintro m U H2 ⟨ι2,qY,g2,Z,G2,S2,hf⟩;cases m with
 |zero=>cases hf
 |succ m =>
  simp only[gF]at hf;obtain⟨⟨k,g3⟩,h3,hf⟩:=bind_some hf;refine lM.bind G2 S2 h3 λH3 J x u S3=>?_;cases k with
  |false =>
   simp only[ql,if_false]at hf ⊢;cases hf;exact p H3 J (Z.trans x) u U S3
  |true =>
   simp only[if_true]at hf ⊢;obtain⟨⟨y,l,o⟩,h4,hf⟩:=bind_some hf;refine⟨NN X B b H O r Y s m,λσ5 H5 q=>⟨m,adj _,q⟩,?_⟩;refine⟨J,qY,g3,y,l,o,u,S3,h4,λz e e7 f=>?_⟩;have i:=Z.trans (x.trans e7);cases y with
   |nx=>exact λj body=>⟨e,l,o,i,f,body,hf⟩|ct=>exact λj body=>⟨e,l,o,i,f,body,hf⟩|bk=>cases hf;exact λj body=>p z e i f j body|rt d=>cases hf;exact λv r7=>p z e i f v r7)
abbrev Fn:=List D->G->Option (D×G)
noncomputable def kU (K:KW)(n:Nat)(fn:Fn):Sp:=λa H Q _=>a.length=n /\ ∃c g ds d h,aA K H c g/\ao K H c ds a/\fn ds g=some (d,h)/\fY K H c d h Q
mutual
noncomputable def bT (n:Nat):D->Bool
 |.ref k=>decide (k<n)|.bu k=>decide (k<n)|.tup c=>aQ n c|.lst c=>aQ n c|.fn _ c=>aQ n c|_=>true
noncomputable def aQ (n:Nat):List D->Bool
 | []=>true|d::ds=>bT n d&&aQ n ds
end
noncomputable def F2 (n:Nat)(d:D)(c:G):Option (D×G):=
 if c.length=n then some (d,c)else
  if(c.take n).all (aQ n)then
   match d with
   |.ref k=>if k<n then some (d,c.take n)else match c[k]? with
    |some h=>if aQ n h then some (.lst h,c.take n)else none|none=>none
   |d=>if bT n d then some (d,c.take n)else none
  else none
noncomputable def av (a:Bool)(e c:Nat)(b:FS):Fn:=λds g =>
 if ds.length=c then(b (ds.map some++m6 (e-c) none) g).bind λr=>match r.1 with
  |.rt d=>if a then some (d,r.2.2)else F2 g.length d r.2.2|.nx=>if a then some (.ay,r.2.2)else F2 g.length .ay r.2.2|_=>none
 else none
noncomputable def Ix.cut (c:Ix)(n:Nat):Ix:=⟨c.ix.take n,c.hd,c.kd⟩
mutual
theorem Rel.cut {K H ι}(n:Nat):∀(d:D) {v:V},bT n d=true->Rel K H ι d v->Rel K H (Ix.cut ι n) d v
 |.ay,v,_,h=>h|.bl _,v,_,h=>h|.int _,v,_,h=>h|.str _,v,_,h=>h
 |.tup r,v,z,h=>by
  simp only[Rel]at h ⊢;obtain⟨a,i,e,b,f⟩:=h;refine⟨a,i,e,?_,ao.cut n r z f⟩;rcases b with⟨b,hn⟩|b
  . exact .inl ⟨b,λm=>hn (Ng m)⟩
  . exact .inr b
 |.lst r,v,z,h=>by
  simp only[Rel]at h ⊢;obtain⟨a,i,e,b,f⟩:=h;refine⟨a,i,e,?_,ao.cut n r z f⟩;rcases b with⟨b,hn,hh⟩|b
  . exact .inl ⟨b,λm=>hn (Ng m),hh⟩
  . exact .inr b
 |.eM,v,_,h=>by simp only[Rel]at h ⊢;obtain⟨a,e,b,f⟩:=h;exact⟨a,e,b,λm=>f (Ng m)⟩
 |.ref k,v,z,h=>by simp only[Rel]at h ⊢;obtain⟨a,e,b⟩:=h;have j:k<n:=of_decide_eq_true z;exact⟨a,e,by show(ι.ix.take n)[k]? = some a;rw[UC j];exact b.1,b.2⟩
 |.bu k,v,z,h=>by simp only[Rel]at h ⊢;obtain⟨a,e,b⟩:=h;have j:k<n:=of_decide_eq_true z;exact⟨a,e,by show(ι.ix.take n)[k]? = some a;rw[UC j];exact b.1,b.2⟩
 |.fn x ds,v,z,h=>by simp only[Rel]at h ⊢;obtain⟨a,i,e,b,f⟩:=h;exact⟨a,i,e,b.mono λc u _ q=>⟨q.1,λm=>q.2.1 (Ng m),q.2.2⟩,ao.cut n ds z f⟩
theorem ao.cut {K H ι}(n:Nat):∀(ds:List D) {p:List V},aQ n ds=true->ao K H ι ds p->ao K H (Ix.cut ι n) ds p
 | [],p,_,h=>h|d::ds,p,z,h=>by simp only[ao]at h ⊢;simp only[aQ,l8]at z;obtain⟨v,b,e,a,c⟩:=h;exact⟨v,b,e,Rel.cut n d z.1 a,ao.cut n ds z.2 c⟩
end
theorem aA.cut {K H ι g}(n:Nat)(h:aA K H ι g)(z:(g.take n).all (aQ n)=true):aA K H (Ix.cut ι n) (g.take n):=by
 refine⟨h.nd.sublist (afB _ _),by simp[Ix.cut,h.len],λb f=>⟨λm=>(h.cQ b f).1 (Ng m),(h.cQ b f).2⟩,λi p q=>?_,λq e=>⟨(h.tb q e).1,λm=>(h.tb q e).2 (Ng m)⟩⟩;have c:i<n:=by have:=(m5.mp q).1;rw[yN]at this;omega
 rw[UC c]at q;obtain⟨a,o,l,j,s,k,r⟩:=h.at_ i p q;refine⟨a,o,l,(by show(ι.ix.take n)[i]? = some a;rw[UC c];exact j),s,k,ao.cut n p ?_ r⟩;exact HL.mp z p (p7 (i:=i) (by rw[UC c];exact q))
theorem Ext.cut {H ι H' b n}(e:Ext H ι H' b)(c:ι.ix.length=n):Ext H ι H' (Ix.cut b n):=by obtain⟨m,a,f⟩:=e.more;refine⟨e.same,e.there,⟨[],?_,λ_ z=>by simp at z⟩,e.cQ,e.nH⟩;subst c;show b.ix.take _=_;rw[a];simp
def Di {K H ι g H' A g' d E C v}(G0:aA K H ι g)(e:Ext H ι H' A)(B:aA K H' A g')(r:Rel K H' A d v)(h:F2 g.length d g'=some (C,E)):
   ∃n,Ext H ι H' n/\aA K H' n E/\Rel K H' n C v:=by
 unfold F2 at h;split at h
 . cases h;exact⟨A,e,B,r⟩
 split at h
 . rename_i z
   refine⟨Ix.cut A g.length,e.cut G0.len,?_⟩;have p:=B.cut g.length z;split at h
   . rename_i k
     split at h
     . rename_i f
       cases h;exact⟨p,Rel.cut _ _ (decide_eq_true f) r⟩
     . rename_i f
       split at h
       . rename_i I x
         split at h
         . rename_i b
           cases h;refine⟨p,?_⟩;simp only[Rel]at r ⊢;obtain⟨a,rfl,c⟩:=r;obtain⟨u,s,o⟩:=B.at x c;refine⟨a,u,rfl,.inl ⟨.inl s,λm=>?_,λm=>(B.cQ a m).1 (p7 c.1)⟩,ao.cut _ _ b o⟩;obtain⟨j,i,l⟩:=Qe.mp (show a∈A.ix.take g.length from m);have y:j<g.length:=by rw[yN]at i;omega
           have J:j < A.ix.length:=by rw[yN]at i;omega
           rw[ahq]at l;obtain⟨O,q⟩:=m5.mp c.1;have:j=k:=(afU B.nd).mp (l.trans q.symm);omega
         . cases h
       . cases h
   . split at h
     . rename_i b
       cases h;exact⟨p,Rel.cut _ _ b r⟩
     . cases h
 . cases h
def Kk {K:KW}{k n f e i}{fn:Fn}(c:∀ds g,fn ds g=none):eh q K.w K.fr K.mg z iu k f e i (kU K n fn):=
 ⟨λb H Q E t=>(by obtain⟨_,p,g,ds,d,a,_,_,h,_⟩:=t;rw[c]at h;cases h),λA outer s H args r b Q E _ _ _ _ t=>(by obtain⟨_,p,g,ds,d,a,_,_,h,_⟩:=t;rw[c]at h;cases h)⟩
def Be {K H ι ds vs}(r:ao K H ι ds vs)(f:ds.length<=Z.length):bQ K H ι (ds.map some++m6 (Z.length-ds.length) none) (rb Z vs):=by
 have e:=r.length;refine⟨by unfold rb;simp[e],λi d q=>?_⟩;have a:i<ds.length:=by
  by_cases a:i<ds.length
  . exact a
  . rw[wm (by simpa using a),af6]at q
    split at q<;>cases q
 rw[ra (by simpa using a),nP]at q;cases hd:ds[i]? with
 |none=>rw[hd]at q;cases q
 |some h =>
  rw[hd]at q;cases q;obtain⟨v,b,c⟩:=r.get hd;refine⟨v,?_,c⟩;unfold rb;rw[ra (by rw[n7,<- e];exact a),nP,b];rfl
def R5 {K:KW}{C:Str}{I:List Str}{b:FS}(F:yV K.fr x C u f l)(S:jW Z I (bb u))(M:I.length<=Z.length)(O:∀(n:Value) (A:og) (outer:List Env) (s:lO) (H:Hp) (E:XK),l.code=n->dD i (A.deeper (MW C (bb u) s.heap.objs.size f n)) ->
   lN (mG K.lx iu q K.w K.fr K.mg z Z C (bb u) f n A outer s H E).vY (d9 u) b):eh q K.w K.fr K.mg z iu (i+1) f l I (kU K I.length (av k Z.length I.length b)):=by
 refine F.ok (lx:=K.lx) S (λvs H Q E h=>h.1) (λn A outer s H vs Q E J y h=>?_);obtain⟨hl,ι,g,ds,d,L,G0,r,h,p⟩:=h;refine⟨_,(O n A outer s H E J y).un,?_⟩;unfold av at h;have N:ds.length=I.length:=by rw[r.length];exact hl
 rw[if_pos N]at h;obtain⟨⟨o,U,Y⟩,h1,h⟩:=bind_some h;refine⟨ι,_,g,o,U,Y,G0,Be r (by rw[N];exact M),by rw[N];exact h1,λR P j B=>?_⟩;have fin:∀{a v},Rel K R P a v->(if k then some (a,Y)else F2 g.length a Y)=some (d,L)->Q v R:=fun {a v} c e=>by
  cases k with
  |true=>simp only[if_true]at e;cases e;exact p R P v j B c
  |false =>
   simp only[ql,if_false]at e;obtain⟨ι2,e2,G2,r2⟩:=Di G0 j B c e;exact p R ι2 v e2 G2 r2
 cases o with
 |rt a=>exact λv c=>fin c h|nx=>exact λσ' S'=>fin (v:=.ay) (by simp[Rel]) h|bk=>cases h|ct=>cases h
noncomputable def aq (fn:Fn)(fr:FA):FE:=λc g=>(fr c g).bind λr=>fn r.1 r.2
def qr {fr:FA}{fn:Fn}{K}(q:∀ds g r,fn ds g=some r->ds.length=i)(h:tD K (aq fn fr) y H n):vk (kU K i fn) [] E0 (iy K fr) y H n:=by obtain⟨x,l,g,d,b,G0,j,h,p⟩:=h;obtain⟨⟨ds,u⟩,f,h⟩:=bind_some h;refine iy.bind G0 j f λB v o c e k a=>?_;rw[wz];exact⟨by rw[<- a.length];exact q _ _ _ h,v,u,ds,d,b,e,a,h,p.mono c⟩
def Kl {fr:FA}{fn:Fn}(F:eh X.prog X.w X.kw X.mg X.base iu i f l Z (kU X.kw o fn))(j:dD i X.A)(pos:X.mg x=some (.ref f))(u:Oo X.kw (.ref f)=true)(n:HT X.kw l Z [])(s:∀ds g r,fn ds g=some r->ds.length=o)(k:DA X (e::B) fr)(fd:Gl X x)(q:(x == ("__debug__":Str))=false)(c:m2 (e::B) X.env=(false,eval e X.env)::m2 B X.env)(b:(tT a (m2 B X.env)).any (·.1)=false):
  DE X (.Call (.Name x p) (e::B) [] a) (aq fn fr):=.of (
 PE.imp (JT F j fd pos u n .nil A9 k.un q c b) λv H Q h=>qr s h)
def Gk {fn:Fn}(F:eh X.prog X.w X.kw X.mg X.base iu i f l Z (kU X.kw o fn))(k:dD i X.A)(j:X.mg x=some (.ref f))(v:Oo X.kw (.ref f)=true)(fd:HT X.kw l Z [])(u:∀ds g r,fn ds g=some r->ds.length=o)(pos:Gl X x)(s:(x == ("__debug__":Str))=false):
  DE X (.Call (.Name x p) [] [] a) (aq fn aj):=.of (
 PE.imp (FP F k pos j v fd .nil A9 s) λy H Q h=>by have q:=qr u h;obtain⟨n,b,g,d,ps,G0,c,h,p⟩:=q;cases h;exact p H n [] Ext.refl G0 (by simp[ao]))
def uy {b:FS}:∀ds g r,av k i o b ds g=some r->ds.length=o:=λds g r h=>by
 unfold av at h;split at h
 . assumption
 . cases h
def Gm {fr:FA}{id:String}{o:Fn}(v:dX X (.builtin id) (kS X.kw o))(z:X.mg x=none)(E:Qk x=some (.builtin id))(A:DA X (e::B) fr)(s:Gl X x)(C:x ≠ "__name__")(pos:(x == ("__debug__":Str))=false)(y:m2 (e::B) X.env=(false,eval e X.env)::m2 B X.env)(u:(tT a (m2 B X.env)).any (·.1)=false):DE X (.Call (.Name x p) (e::B) [] a) (aq o fr):=.of (
 PE.imp (FQ v s z E A.un C pos y u) λJ H Q h=>by obtain⟨O,q,g,d,n,G0,k,h,p⟩:=h;obtain⟨⟨ds,I⟩,f,h⟩:=bind_some h;exact iy.bind G0 k f λR j r b c l i=>⟨j,I,ds,d,n,c,i,h,p.mono b⟩)
def Dj {fr:FA}{T:String}{o:Fn}(v:dX X (.type T) (kS X.kw o))(z:X.mg x=none)(E:Qk x=some (.type T))(A:DA X (e::B) fr)(s:Gl X x)(C:x ≠ "__name__")(pos:(x == ("__debug__":Str))=false)(y:m2 (e::B) X.env=(false,eval e X.env)::m2 B X.env)(u:(tT a (m2 B X.env)).any (·.1)=false):DE X (.Call (.Name x p) (e::B) [] a) (aq o fr):=.of (
 PE.imp (CN v s z E A.un C pos y u) λJ H Q h=>by obtain⟨O,q,g,d,n,G0,k,h,p⟩:=h;obtain⟨⟨ds,I⟩,f,h⟩:=bind_some h;exact iy.bind G0 k f λR j r b c l i=>⟨j,I,ds,d,n,c,i,h,p.mono b⟩)
noncomputable def lB (h:Scope)(env:Env):List (Str×Addr):=(h.names.filterMap λx=>if x.2 == .free then(env.cells.lookup x.1).map λc=>(x.1,c)else none).reverse
def vb (h:∀x∈O.names,x.2 = .free->∃c,C.cells.lookup x.1=some c):afN O C=pure (lB O C):=by
 have n:∀(l:List (Str×zT)) (i:List (Str×Addr)),(∀x∈l,x.2 = .free->∃c,C.cells.lookup x.1=some c) ->
   (forIn l i λx r=>if(x.2 == wN)=true then(do let c <- cellOf C x.1;pure (Wd ((x.1,c)::r)))else pure (Wd r):Sem (List (Str×Addr)))=
     pure ((l.filterMap λx=>if x.2 == .free then(C.cells.lookup x.1).map λc=>(x.1,c)else none).reverse++i):=by
  intro l;induction l with
  |nil=>intro i _;rfl
  |cons x r q =>
   intro i b;rw[aeX];by_cases p:x.2 = .free
   . obtain⟨c,f⟩:=b x rj p
     have a:(x.2 == wN)=true:=by rw[p];rfl
     rw[if_pos a];simp only[cellOf,f,pure_bind,Dw,a,if_true,Ol,List.reverse_cons,ta,agv];exact q _ λy e=>b y (pP _ e)
   . have a:(x.2 == wN)=false:=by simpa using p
     simp only[a,ql,if_false,pure_bind,Dw];exact q _ λy e=>b y (pP _ e)
 have:=n O.names [] h;rw[wz]at this;unfold afN lB;simp only[bind_pure_comp]at this ⊢;first
  | (simpa using this)
  |exact this
noncomputable def cellsOf (c:Scope)(env:Env)(C:Addr):List (Str×Addr):=v7 (C+1) c.names (lB c env)
def lP {k:zT}{n:List (Str×zT)}:v7 i ((x,k)::n) r=if(k == y3)=true then v7 (i+1) n ((x,i)::r)else v7 i n r:=rfl
theorem kW {x:Str}{c:Addr}:∀{names:List (Str×zT)} {n:Nat} {i:List (Str×Addr)},(v7 n names i).lookup x=some c->((x,y3)∈names/\n<=c)\/(i.lookup x=some c/\(x,y3) ∉ names)
 | [],_,_,h=>.inr ⟨h,by simp⟩
 | (y,k)::r,n,i,h=>by
  rw[lP]at h;split at h
  . rename_i a
    have a:k=y3:=by simpa using a
    subst a;rcases kW h with⟨h1,h2⟩|⟨h1,h2⟩
    . exact .inl ⟨pP _ h1,by omega⟩
    . by_cases e:x=y
      . subst e
        rw[xW,show(x == x)=true by simp]at h1;cases h1;exact .inl ⟨rj,mn _⟩
      . rw[xW,show(x == y)=false by simpa using e]at h1
        exact .inr ⟨h1,λz=>by rcases nv.mp z with z|z;(cases z;exact e rfl);exact h2 z⟩
  . rename_i a
    rcases kW h with⟨h1,h2⟩|⟨h1,h2⟩
    . exact .inl ⟨pP _ h1,h2⟩
    . exact .inr ⟨h1,λz=>by rcases nv.mp z with z|z;(cases z;exact a rfl);exact h2 z⟩
theorem qZ {x:Str}{c:Addr}:∀{names:List (Str×zT)} {n:Nat} {i:List (Str×Addr)},(x,y3) ∉ names->i.lookup x=some c->(v7 n names i).lookup x=some c
 | [],_,_,_,h=>h
 | (y,k)::r,n,i,p,h=>by
  have b:(x,y3) ∉ r:=λz=>p (pP _ z);rw[lP];split
  . rename_i a
    have a:k=y3:=by simpa using a
    subst a;refine qZ b ?_;have e:x≠y:=λe=>p (by rw[e];exact rj);rw[xW,show(x == y)=false by simpa using e];exact h
  . exact qZ b h
theorem wD {x:Str}:∀{names:List (Str×zT)} {n:Nat} {i:List (Str×Addr)},((x,y3)∈names \/ ∃c,i.lookup x=some c)->∃c,(v7 n names i).lookup x=some c
 | [],_,_,h=>by rcases h with h|h;(cases h);exact h
 | (y,k)::r,n,i,h=>by
  rw[lP];split
  . rename_i a
    refine wD ?_;rcases h with h|⟨c,h⟩
    . rcases nv.mp h with z|z
      . cases z;exact .inr ⟨n,by simp⟩
      . exact .inl z
    . right
      rw[xW];split
      . exact⟨_,rfl⟩
      . exact⟨c,h⟩
  . rename_i a
    refine wD ?_;rcases h with h|h
    . rcases nv.mp h with z|z
      . cases z;exact absurd rfl a
      . exact .inl z
    . exact .inr h
theorem wF:∀{names:List (Str×zT)} {n:Nat} {i:List (Str×Addr)},(∀x c,i.lookup x=some c->c<n)->(∀x y c,i.lookup x=some c->i.lookup y=some c->x=y)->∀x y c,(v7 n names i).lookup x=some c->(v7 n names i).lookup y=some c->x=y
 | [],_,_,_,hi=>hi
 | (z,k)::r,n,i,p,hi=>by
  intro x y c;rw[lP];split
  . refine wF (λx c h=>?_) (λx y c b a=>?_) x y c
    . rw[xW]at h
      split at h
      . cases h;exact adj _
      . exact Nb (p x c h)
    . rw[xW]at b a
      split at b
      . rename_i f
        cases b;split at a
        . rename_i e
          rw[eq_of_beq f,eq_of_beq e]
        . exact absurd (p y _ a) (B5 _)
      . split at a
        . cases a;exact absurd (p x _ b) (B5 _)
        . exact hi x y c b a
  . exact wF p hi x y c
theorem qu {M:Model}{A:og}{E:Value->lO->Prop}:∀(names:List (Str×zT)) (n:List (Str×Addr)) (s:lO) (Q:List (Str×Addr)->lO->Prop),
  (∀x c,n.lookup x=some c->c<s.heap.objs.size) ->
  (∀p,(∀b o,s.heap.get? b=some o->p.get? b=some o)->(∀x c,(v7 s.heap.objs.size names n).lookup x=some c->s.heap.objs.size<=c->p.IsCell c none)->Q (v7 s.heap.objs.size names n) { s with heap:=p }) ->
  wpAny M A (forIn names n λx r=>if(x.2 == y3)=true then(do let c <- alloc { cls:=tO "cell",data:=aff none };pure (Wd ((x.1,c)::r)))else pure (Wd r)) Q E s
 | [],n,s,Q,q,h=>by rw[aik];exact lr (h s.heap (λ_ _ e=>e) λx c i f=>absurd (q x c i) (Nat.not_lt.mpr f))
 | (y,k)::r,n,s,Q,q,h=>by
  rw[aeX];rw[lP]at h;dsimp only;split
  . rename_i j
    rw[if_pos j]at h;refine la (la (ahz (lr ?_)));have sz:(s.heap.push { cls:=tO "cell",data:=aff none }).objs.size=s.heap.objs.size+1:=H9 ..;refine qu r _ _ Q (λx c e=>?_) λp l a=>?_
    . show c<(s.heap.push _).objs.size
      rw[sz];rw[xW]at e;split at e
      . cases e;exact adj _
      . exact Nb (q x c e)
    . have a:∀x c,(v7 (s.heap.push { cls:=tO "cell",data:=aff none }).objs.size r ((y,s.heap.objs.size)::n)).lookup x=some c->(s.heap.push { cls:=tO "cell",data:=aff none }).objs.size<=c->p.IsCell c none:=a
      show Q (v7 (s.heap.push { cls:=tO "cell",data:=aff none }).objs.size r ((y,s.heap.objs.size)::n)) _;rw[sz]at a ⊢;refine h p (λb o e=>l b o (nz _ e)) λx c i f=>?_;rcases Nat.lt_or_eq_of_le f with e3|e3
      . exact a x c i e3
      . subst e3
        exact⟨_,l _ _ (pR _ rfl),rfl⟩
  . rename_i j
    rw[if_neg j]at h;refine la (lr ?_);exact qu r n s Q q h
def yH {M:Model}{Q:Env->lO->Prop}(n:∀env c,r.lookup env=some c->c<s.heap.objs.size)(h:∀p:Heap,p.Ns s.heap.objs.size (λ_=>none)->(∀b o,s.heap.get? b=some o->p.get? b=some o)->(∀env c,(v7 (s.heap.objs.size+1) O.names r).lookup env=some c->s.heap.objs.size+1<=c->p.IsCell c none) ->
    Q (newEnv O s.heap.objs.size f (v7 (s.heap.objs.size+1) O.names r) x none zb (some C) afJ) { s with heap:=p }):
   wpAny M T (newFunctionEnv O f r [] x none zb (some C)) Q E s:=by
 unfold newFunctionEnv;have sz:∀o:Obj,(s.heap.push o).objs.size=s.heap.objs.size+1:=λo=>H9 ..;refine la (ahz (la ?_));refine qu O.names r _ _ (λenv c e=>?_) λA i a=>?_
 . show c<(s.heap.push _).objs.size
   rw[sz];exact Nb (n env c e)
 . refine la ?_
   rw[aik];refine lr (lr ?_);have a:∀env c,(v7 (s.heap.push { cls:=tO (if(some C).isSome=true then "dict" else "frame"),data:=aiu #[] }).objs.size O.names r).lookup env=some c->(s.heap.push { cls:=tO (if(some C).isSome=true then "dict" else "frame"),data:=aiu #[] }).objs.size<=c->A.IsCell c none:=a;rw[sz]at a;have:=h A ⟨_,_,_,i _ _ (pR _ rfl),rfl,by intro k j;simp at j,λ_=>rfl⟩ (λb o e=>i b o (nz _ e)) a;show Q (newEnv O s.heap.objs.size f (v7 (s.heap.push { cls:=tO (if(some C).isSome=true then "dict" else "frame"),data:=aiu #[] }).objs.size O.names r) x none zb (some C) afJ) { s with heap:=A };rw[sz];exact this
noncomputable def bw (X:Cx)(N:List Str)(scope:Scope)(C:Addr)(s3:lO)(H:Hp)(fp:List Addr)(a8:List (Addr×Obj)):Cx where
 prog:=X.prog
 w:=X.w
 K:=X.kw
 mg:=X.mg
 base:=X.base
 A:=X.A
 N:=N
 s₀:=s3
 H₀:=H
 env:=compEnvC scope (cellsOf scope X.env C) C X.env
 outer:=X.stack
 stack:=X.stack
 ex:=fp
 calm:=X.calm
 fn:=λx=>scope.names.any λy=>y.1 == x&&y.2 == .cell
 pn:=X.pn++a8
 xe:=λ_ _=>False
 lx:=X.lx
structure eZ (X:Cx)(N:List Str)(fr:List (Option Nat))(scope:Scope):Prop where
 kind:scope.kind = .function
 cells:∀y∈scope.names,y.2 = .cell->scope.names.lookup y.1=some .cell
 names:∀y∈scope.names,y.2 = .local->scope.names.lookup y.1=some .local
 free:∀y∈scope.names,y.2 = .free->scope.names.lookup y.1=some .free/\(X.env.kindOf y.1=some .cell\/X.env.kindOf y.1=some .free)
 len:fr.length=N.length
 slots:∀(j i:Nat),fr[j]? = some (some i)->∃x,N[j]? = some x/\X.N[i]? = some x/\scope.names.lookup x=some .free
noncomputable def cz {a:Type}(fr:List (Option Nat))(c:List (Option a)):List (Option a):=fr.map λo=>match o with|some i=>(c[i]?).join|none=>none
def wG:(VA O C).kind=O.kind:=rfl
def Gn (h:(x,f)∈lB O C):(x,wN)∈O.names/\C.cells.lookup x=some f:=by
 unfold lB at h;rw[aeA,Ql]at h;obtain⟨y,b,e⟩:=h;split at e
 . rename_i a
   cases c:C.cells.lookup y.1 with
   |none=>rw[c]at e;cases e
   |some i =>
    rw[c]at e;cases e;have:y.2=wN:=by simpa using a
    exact⟨by rw[<- this];exact b,c⟩
 . cases e
theorem nI {b:Type}:∀{l:List (Str×b)} {x:Str} {c:b},(x,c)∈l->∃d,l.lookup x=some d
 | [],_,_,h=>nomatch h
 | (y,d)::r,x,c,h=>by
  by_cases e:x=y
  . subst e;exact⟨d,by simp⟩
  . rcases nv.mp h with z|z
    . cases z;exact absurd rfl e
    . obtain⟨a,q⟩:=nI z
      exact⟨a,by rw[xW];simp[show(x == y)=false by simpa using e,q]⟩
def fN (h:(lB O C).lookup x=some f):(x,wN)∈O.names/\C.cells.lookup x=some f:=Gn (yg h)
def wH (b:(x,wN)∈O.names)(a:C.cells.lookup x=some f):(lB O C).lookup x=some f:=by
 have m:(x,f)∈lB O C:=by unfold lB;rw[aeA,Ql];exact⟨_,b,by simp[a]⟩
 obtain⟨d,q⟩:=nI m;have:=(fN q).2;rw[a]at this;cases this;exact q
def wI {scope:Scope}{env:Env}(h:(VA scope env).names.lookup x=some .cell\/(VA scope env).names.lookup x=some .free):(x,wN)∈scope.names\/(x,y3)∈scope.names:=by
 have m:∃k,(x,k)∈(VA scope env).names/\(k = .cell\/k = .free):=by
   rcases h with h|h
   . exact⟨_,yg h,.inl rfl⟩
   . exact⟨_,yg h,.inr rfl⟩
 obtain⟨k,m,b⟩:=m;unfold VA at m;rw[mO]at m;obtain⟨⟨n,a⟩,hm,e⟩:=m;dsimp only at e;split at e
 . rename_i z
   cases e;simp only[l8]at z;have:a=wN:=by simpa using z.1.1
   subst this;exact .inl hm
 . cases e
   rcases b with rfl|rfl
   . exact .inr hm
   . exact .inl hm
theorem iK {env:Env}:∀{names:List (Str×zT)} {x:Str},names.lookup x=some .free ->
  (names.map λ(n,k)=>if(k == wN&&env.scope.kind == .function&&env.kindOf n == some .cell)then(n,y3)else(n,k)).lookup x=some .cell \/
  (names.map λ(n,k)=>if(k == wN&&env.scope.kind == .function&&env.kindOf n == some .cell)then(n,y3)else(n,k)).lookup x=some .free
 | [],_,h=>by simp at h
 | (n,k)::r,x,h=>by
  have i:=@iK env r x;show List.lookup x ((if(k == wN&&env.scope.kind == .function&&env.kindOf n == some .cell)=true then(n,y3)else(n,k))::_)=_\/List.lookup x ((if(k == wN&&env.scope.kind == .function&&env.kindOf n == some .cell)=true then(n,y3)else(n,k))::_)=_;cases c:x == n with
  |true =>
   simp only[xW,c]at h;cases h;split
   . left;simp[xW,c]
   . right;simp[xW,c]
  |false =>
   simp only[xW,c]at h;split
   . simp only[xW,c];exact i h
   . simp only[xW,c];exact i h
def R6 (I:lb X b y H s):∀x c,(lB O X.env).lookup x=some c->c<s.heap.objs.size:=λx c e=>by obtain⟨v,o,a,_⟩:=I.cell x c (fN e).2;exact nC a
def Bf {scope:Scope}{tk:Nat}(ok:eZ X Z I scope)(fr:lb X b y H s)(B:∀O∈U,fW X b H O)(C:∀O∈U,O<s.heap.objs.size)(K:z.Ns s.heap.objs.size λ_=>none)(E:∀O o,s.heap.get? O=some o->z.get? O=some o)(J:∀x c,(cellsOf scope X.env s.heap.objs.size).lookup x=some c->s.heap.objs.size+1<=c->z.IsCell c none):
   lb (bw X Z scope s.heap.objs.size s H U b) [] (cz I y) H { s with heap:=z,toks:=tk }:=by
 have r:lb X b y H { s with heap:=z,toks:=tk }:=fr.kept E;have vU:∀O∈kP X.stack,O∈X.env.locals::X.fs:=fr.qK;have lc:∀x c,(cellsOf scope X.env s.heap.objs.size).lookup x=some c->(s.heap.objs.size+1<=c/\z.IsCell c none)\/X.env.cells.lookup x=some c:=λx c e=>by
   rcases kW e with⟨_,N⟩|⟨N,_⟩
   . exact .inl ⟨N,J x c e N⟩
   . exact .inr (fN N).2
 have lo:∀x c,X.env.cells.lookup x=some c->c<s.heap.objs.size:=λx c e=>by obtain⟨v,o,eo,_⟩:=fr.cell x c e;exact nC eo
 have UE:∀Q,(Q,wN)∈scope.names->(Q,y3) ∉ scope.names:=λQ z l=>by have:=(ok.free _ z rfl).1;rw[show scope.names.lookup Q=some .cell from ok.cells _ l rfl]at this;cases this
 refine⟨⟨fr.ok.mod,?_,fr.ok.glob,fr.ok.blt,mn _,?_,?_,?_,fr.ok.hd,fr.ok.frames,.inl rfl,?_,fr.bs,pe fr.ok.nQ fr.sz,?_,?_,fr.stack,fr.yP⟩,rfl,fr.bare,Un.kept E,
   ⟨_,K,?_⟩,?_,fr.aY.fresh (mn _),?_,?_,r.aY,?_⟩
 . show(VA scope X.env).kind = .function
   rw[wG];exact ok.kind
 . refine wF (λx c e=>Nb (lo x c (fN e).2)) λx Q c z l=>?_
   exact fr.ok.inj x Q c (fN z).2 (fN l).2
 . intro x h
   rcases wI (scope:=scope) (env:=X.env) h with m|m
   . obtain⟨c,R⟩:=fr.ok.has x (ok.free _ m rfl).2
     exact⟨c,qZ (UE x m) (wH m R)⟩
   . exact wD (.inl m)
 . intro x c h e
   rcases kW e with⟨_,N⟩|⟨_,N⟩
   . exact aem N
   . refine absurd ?_ N
     have h:(scope.names.any λQ=>Q.1 == x&&Q.2 == .cell)=true:=h;rw[aeB]at h;obtain⟨⟨Q,k⟩,A,Y⟩:=h;simp only[l8]at Y;have e3:k=y3:=by simpa using Y.2
     rw[<- eq_of_beq Y.1,<- e3];exact A
 . intro O f
   refine⟨p8 (C O f),λx c e=>?_⟩;rcases lc x c e with⟨N,_⟩|N
   . exact λq=>absurd (C O f) (Nat.not_lt.mpr (by rw[<- q];exact aem N))
   . exact(B O f).2.2.2.2.1 x c N
 . intro O o e f
   obtain⟨_,_,_,N,_⟩:=B O f;rcases N with N|N
   . exact fr.ok.qm O o e N
   . exact absurd (uf (uf (nC e) fr.ok.nQ) N) (B5 _)
 . intro O f N
   obtain⟨_,n1,n2,_⟩:=B O f;rcases nv.mp (vU O N)with q|q
   . exact n1 q
   . exact n2 q
 . intro j x v z l h3
   have a:(cz I y)[j]? = some (some v):=l;unfold cz at a;rw[nP]at a;cases kh:I[j]? with
   |none=>rw[kh]at a;cases a
   |some o =>
     rw[kh]at a;cases o with
     |none=>cases a
     |some i =>
       obtain⟨Q,A,hi,qL⟩:=ok.slots j i kh;have e:x=Q:=by have zh:Z[j]? = some x:=z;rw[A]at zh;cases zh;rfl
       subst e;have hσ:y[i]? = some (some v):=by
         simp only[Ol,afD]at a;cases q:y[i]? with
         |none=>rw[q]at a;cases a|some w=>rw[q]at a;simp at a;rw[a]
       have m:=yg qL;obtain⟨_,vm⟩:=ok.free _ m rfl;obtain⟨mm,hn,hl⟩:=r.loc;obtain⟨u,ru,lk⟩:=hl i x v hi hσ (by rcases vm with k|k;exact .inr (.inl k);exact .inr (.inr k));refine⟨u,ru,.inr ⟨iK qL,?_⟩⟩;rcases lk with⟨kl,_⟩|⟨_,c,R,gq⟩
       . rcases vm with k|k<;>(rw[k]at kl;cases kl)
       . exact⟨c,qZ (UE x m) (wH m R),gq⟩
 . intro x c e
   rcases lc x c e with⟨_,N⟩|N
   . exact⟨_,N⟩
   . exact r.cell x c N
 . intro x c e
   rcases lc x c e with⟨N,_⟩|N
   . exact fr.aY.fresh (aem N)
   . exact fr.gM x c N
 . intro p hp
   have ze:p∈X.pn++b:=by have q:p∈(X.pn++b) ++ []:=hp;simpa using q
   obtain⟨e,n,ne,nf,d⟩:=r.pin p ze;refine⟨e,n,p8 ?_,λN=>?_,d⟩
   . exact nC (fr.pin p ze).1
   . rcases nv.mp (vU _ N)with q|q
     . exact ne q
     . exact nf q
 . show(cz I y).length=Z.length
   unfold cz;rw[n7];exact ok.len
noncomputable def cR (t:FG)(c:FT)(e:FE):List D->Sg->G->Option (List D×G)
 | [],_,g=>some ([],g)|d::ds,h,g=>(t d h g).bind λq=>(c q.1 q.2).bind λk=>if k.1=true then(e q.1 k.2).bind λr=>(cR t c e ds q.1 r.2).bind λz=>some (r.1::z.1,z.2)else cR t c e ds q.1 k.2
noncomputable def W7 (X:Cx)(h:List Expr)(t:TT):Prop :=
 ∀(n:List (Addr×Obj)) (s:lO) (i:lU) (H:Hp) (Q:Bool->Hp->Prop),lb X n i H s->t i H Q ->
  wpAny (model X.prog X.w) X.A (forIn h true λc r=>if r=true then do let ok <- isTrue c X.env (eval c X.env);pure (Wd ok)else pure (Wd r)) (TP X n i Q) X.xe s
structure gP (X:Cx)(ifs:List Expr)(f:FT):Prop where of ::
 un:W7 X ifs (lM X.kw f)
noncomputable def cG:FT:=λ_ g=>some (true,g)
def Gp:gP X [] cG:=.of (λn s q H Q I h=>by obtain⟨i,c,g,b,a,G0,e,h,p⟩:=h;cases h;exact wpAny_tests_nil ⟨H,I,p H i Ext.refl G0⟩)
def Gq {f:FT}(h:DT X c f):gP X [c] f:=.of (λi s n H Q I q=>wpAny_tests_one (h.un i s n H Q I q))
def Ext.Ij {y v H' s p x u}(a:Ext y v H' s)(b:Ext H' (Ix.hide s p) x u):Ext y v x ⟨u.ix,s.hd,u.kd⟩/\u=Ix.hide ⟨u.ix,s.hd,u.kd⟩ p:=by
 have f:u.hd=p::s.hd:=b.cQ;obtain⟨r,e,B⟩:=a.more;obtain⟨j,l,C⟩:=b.more;refine⟨⟨λc o h n=>b.same c o (a.same c o h n) (a.old h n),λc h=>b.there c (a.there c h),⟨r++j,?_,λc z=>?_⟩,a.cQ,λi k=>(b.nH i (show i < s.ix.length by rw[e,nN];omega)).trans (a.nH i k)⟩,?_⟩
 . show u.ix=_
   rw[l];show s.ix++j=_;rw[e,ta]
 . rcases m3.mp z with z|z
   . exact B c z
   . cases q:y c with
     |none=>rfl|some o=>exact absurd (C c z) (a.there c (by rw[q];simp))
 . cases u with
   |mk ix hd kd=>dsimp only at f;rw[f];rfl
def Ext.Ik {f b H' ιo p o}(a:Ext f b H' ιo)(i:f p=none):Ext f b (upd H' p o) ιo :=
 ⟨λc u h n=>by rw[aG (aN h i)];exact a.same c u h n,λc h=>by
  by_cases e:c=p
  . subst e;rw[aT];simp
  . rw[aG e];exact a.there c h,a.more,a.cQ,a.nH⟩
def Ext.W8 {f e H' c p}(a:Ext f e H' c)(h:f p=none):jI f e H' (Ix.hide c p):=
 ⟨a.same,a.there,a.more,⟨[p],by show p::c.hd=_;rw[a.cQ];rfl,λb z=>by simp at z;subst z;exact h⟩,a.nH⟩
abbrev Sh:=G->Option (List D)
abbrev q_:=Sg->G->Option (Sh×Nat×G)
def Bg (K:KW)(J:It)(H:Hp)(r:Ix)(sh:Sh)(L:Nat):Prop :=
 ∀(i:Nat) h c p,jI H r h c->aA K h c p->∀q,sh p=some q->q.length=L->(L<=i->J.stop i h) /\ ∀d,q[i]? = some d->J.go i h /\ ∀x n,J.Cw i h x n->Ext h c n c/\aA K n c p/\Rel K n c d x
inductive NO (K:KW)(f:q_)(σ:lU)(H:Hp)(R:(It->Hp->Prop)):Prop
 |mk (ι:Ix) (σd:Sg) (g:G) (sh:Sh) (L:Nat) (g':G) (h0:aA K H ι g) (h1:bQ K H ι σd σ) (h2:f σd g=some (sh,L,g')) (h3:∀H' ι' J,Ext H ι H' ι'->aA K H' ι' g'->Bg K J H' ι' sh L->R J H'):NO K f σ H R
structure wJ (X:Cx)(tg iter:Expr)(f:q_):Prop where of ::
 un:PI X tg iter (NO X.kw f)
noncomputable def dY (sh:Sh)(L:Nat)(t:FG)(c:FT)(e:FE):Nat->Sg->G->Option (List D×G)
 | 0,_,g=>(sh g).bind λh=>if h.length=L then some ([],g)else none|r+1,i,g=>(sh g).bind λh=>if h.length=L then(h[L-(r+1)]?).bind λd=>(t d i g).bind λq=>(c q.1 q.2).bind λk=>if k.1=true then(e q.1 k.2).bind λa=>(dY sh L t c e r q.1 a.2).bind λz=>some (a.1::z.1,z.2)else dY sh L t c e r q.1 k.2 else none
def Bh {sh:Sh}{t:FG}{c:FT}{e:FE}{q:Sg}{g p:G}{all:List D}(h:dY sh i t c e 0 q g=some (all,p)):∃n,sh g=some n/\n.length=i/\all = []/\p=g:=by
 simp only[dY]at h;obtain⟨n,a,h⟩:=bind_some h;split at h
 . rename_i z
   cases h;exact⟨n,a,z,rfl,rfl⟩
 . cases h
def Bi {sh:Sh}{t:FG}{c:FT}{e:FE}{p:Sg}{g:G}{L:List D×G}(h:dY sh i t c e (o+1) p g=some L):∃n d,sh g=some n/\n.length=i/\n[i-(o+1)]? = some d/\((t d p g).bind λq=>(c q.1 q.2).bind λk=>if k.1=true then(e q.1 k.2).bind λr=>(dY sh i t c e o q.1 r.2).bind λz=>some (r.1::z.1,z.2)else dY sh i t c e o q.1 k.2)=some L:=by
 simp only[dY]at h;obtain⟨n,a,h⟩:=bind_some h;split at h
 . rename_i z
   obtain⟨d,hd,h⟩:=bind_some h;exact⟨n,d,a,z,hd,h⟩
 . cases h
inductive CompI (X':Cx)(t:FG)(c:FT)(e:FE)(fp:List Addr)(Dl:Addr)(tn:Nat->Heap->Prop)(sh:Sh)(L:Nat)(all:List D)(H1:Hp)(ι1:Ix)(g':G)(n:Nat)(s:lO):Prop
 |mk (i:Nat) (σ:lU) (H:Hp) (ιo:Ix) (σd:Sg) (g:G) (vs:List V) (acc more:List D) (hn:n=L+1-i) (pY:i<=L) (I:lb X' [] σ H s) (ti:tn i s.heap) (Il:∀b∈fp,H b=none) (E1:Ext H1 ι1 H ιo) (G1:aA X'.kw H (Ix.hide ιo Dl) g) (S1:bQ X'.kw H (Ix.hide ιo Dl) σd σ)
  (Im:H Dl=some (.lst vs)) (wK:ao X'.kw H (Ix.hide ιo Dl) acc vs) (Dk:acc.length<=i) (hf:dY sh L t c e (L-i) σd g=some (more,g')) (ea:all=acc++more):CompI X' t c e fp Dl tn sh L all H1 ι1 g' n s
def Dm {X':Cx}{t:FG}{N:FT}{M:FE}{J:It}{p:Addr}{P:Nat->Heap->Prop}{all:List D}{sh:Sh}{C:Ix}{g':G}{R:Result->lO->Prop}(hZ:X'.xe=λ_ _=>False)(S:X'.calm=true)(T:Turn X'.prog X'.w X'.kw e J U f P)(ZG:∀b∈U,fW X' [] X'.H₀ b)(Y:Bg X'.kw J H C sh i)(hD:H p=none)(hz:i<=mK)(Z:DG X' e t)(scope:gP X' B N)(W:DE X' c M)(fin:∀s' σ' H' ιo vs,lb X' [] σ' H' s'->(∀b∈U,H' b=none)->Ext H C H' ιo->aA X'.kw H' (Ix.hide ιo p) g'->H' p=some (.lst vs)->ao X'.kw H' (Ix.hide ιo p) all vs->R (.ok .next) s'):
   ∀(s:lO) (σ:lU) (fp:Hp) (ιo:Ix) (σd:Sg) (g:G),lb X' [] σ fp s->P 0 s.heap->(∀b∈U,fp b=none)->Ext H C fp ιo->aA X'.kw fp (Ix.hide ιo p) g->bQ X'.kw fp (Ix.hide ιo p) σd σ->fp p=some (.lst [])->dY sh i t N M i σd g=some (all,g') ->
    HP (model X'.prog X'.w) X'.A (.compLoop (.ListComp c [⟨e,K,B,0⟩] O a) 0 (.ref f) (.ref p) X'.env) R s:=by
 intro s σ fp ιo σd g I t0 UG E0 G0 S0 hH rg;have qo:∀{H':Hp},(∀b∈U,H' b=none)->∀b∈U,fW X' [] H' b:=λhn b l=>⟨hn b l,(ZG b l).2⟩
 refine codeAny_loop rfl (CompI X' t N M U p P sh i all H C g') ?_ (i+1)
   ⟨0,σ,fp,ιo,σd,g,[],[],all,rfl,ro _,I,t0,UG,E0,G0,S0,hH,by simp[ao],mn _,by simpa using rg,rfl⟩
 clear rg hH S0 G0 E0 UG t0 I g σd ιo fp σ s;rintro n s ⟨elt,σ,fp,ιo,σd,g,vs,acc,more,rfl,pY,I,ti,Il,E1,G1,S1,Im,wK,Dk,hf,rfl⟩;show wpAny _ X'.A ((compTurn (.ListComp c [⟨e,K,B,0⟩] O a) 0 (.ref f) (.ref p) X'.env).onRaise (λx=>do noteFrame x X'.env;theTreesLotGoes x)) _ _ s;refine wpAny_noted ?_;rw[compTurn_list];refine la (aeu (la ?_));have j1:=Y elt fp (Ix.hide ιo p) g (E1.W8 hD) G1;by_cases dw:elt<i
 . rw[show i-elt=(i-(elt+1))+1 by omega]at hf
   obtain⟨xs,d0,nK,NP,Dp,hf⟩:=Bi hf;rw[show i-(i-(elt+1)+1)=elt by omega]at Dp;obtain⟨st,go⟩:=j1 xs nK NP;obtain⟨go,yl⟩:=go d0 Dp;refine bf (T.item X' rfl rfl rfl S elt [] s σ fp _ I (qo Il) ti go) λr s4 aS=>?_;obtain⟨u,hr,h4⟩:=aS;subst hr;refine la (bf h4 λ_ s5 aS=>?_);obtain⟨x,H5,I5,r5,y5,t5,MG⟩:=aS;obtain⟨e5,G5,ZH⟩:=yl x H5 y5;obtain⟨⟨σ6,g6⟩,h6,hf⟩:=bind_some hf;obtain⟨⟨k7,g7⟩,h7,hf⟩:=bind_some hf;have ab:=I5.pinned (qo MG) (T.obj _ _ t5);have lift:∀{α:Type} {tr:Sem α} {Q:α->lO->Prop} {E:Value->lO->Prop} {s:lO},wpAny (model X'.prog X'.w) X'.A tr Q X'.xe s->wpAny (model X'.prog X'.w) X'.A tr Q E s:=λh=>ZC h (λ_ _ q=>q) λ_ _ z=>by rw[hZ]at z;exact z.elim
   have again:∀{s9:lO} {σ9:lU} {tg:Hp} {ι9:Ix} {Io:Sg} {g9:G} {Ip:List V} {acc9:List D} {oX:List D},lb X' ([]++nU U s5.heap) σ9 tg s9->Ext H C tg ι9->aA X'.kw tg (Ix.hide ι9 p) g9->bQ X'.kw tg (Ix.hide ι9 p) Io σ9 ->
     tg p=some (.lst Ip)->ao X'.kw tg (Ix.hide ι9 p) acc9 Ip->acc9.length<=elt+1->dY sh i t N M (i-(elt+1)) Io g9=some (oX,g')->acc++more=acc9++oX ->
     ∃m,m<i+1-elt/\CompI X' t N M U p P sh i (acc++more) H C g' m s9:=by
    intro s9 σ9 tg ι9 Io g9 Ip acc9 oX I9 E9 G9 S9 h9 r9 l9 f9 a9;refine⟨i+1-(elt+1),by omega,elt+1,σ9,tg,ι9,Io,g9,Ip,acc9,oX,rfl,dw,I9.mF,T.keep _ _ _ t5 λb l o M=>(I9.pin (b,o) (Ib _ (Ib _ (jO l M)))).1,λb l=>?_,E9,G9,S9,h9,r9,l9,f9,a9⟩;obtain⟨o,M,d⟩:=T.obj _ _ t5 b l;exact(I9.pin (b,o) (Ib _ (Ib _ (jO l M)))).2.1
   refine la (lift (bf (Z.un _ s5 σ H5 x u (λσ' H'=>∃k,Ext H5 (Ix.hide ιo p) H' k/\aA X'.kw H' k g6/\bQ X'.kw H' k σ6 σ') ab r5 ⟨Ix.hide ιo p,σd,g,d0,σ6,g6,G5,S1.ext e5,ZH,h6,λH6 k Iq e6 G6 S6=>⟨k,e6,G6,S6⟩⟩) λ_ s6 q6=>?_));obtain⟨Iq,H6,I6,k,e6,G6,S6⟩:=q6;refine la (lift (bf (scope.un _ s6 Iq H6 (λb H'=>b=k7 /\ ∃ι7,Ext H6 k H' ι7/\aA X'.kw H' ι7 g7) I6 ⟨k,σ6,g6,k7,g7,G6,S6,h7,λH7 ι7 e7 G7=>⟨rfl,ι7,e7,G7⟩⟩) λok s7 q7=>?_));obtain⟨H7,I7,rfl,ι7,e7,G7⟩:=q7;have Ir:=(e5.trans e6).trans e7;obtain⟨E7,ZI⟩:=E1.Ij Ir;have ZJ:H7 p=some (.lst vs):=Ir.same p _ Im (G1.cQ p rj).1;have r7:=ao.ext Ir _ wK;have S7:=S6.ext e7;cases ok with
   |false =>
    simp only[ql,if_false]at hf;refine lr ⟨rfl,?_⟩;rw[ZI]at G7 S7 r7;exact again I7 E7 G7 S7 ZJ r7 (by omega) hf rfl
   |true =>
    simp only[if_true]at hf;obtain⟨⟨d8,g8⟩,h8,hf⟩:=bind_some hf;obtain⟨⟨oX,g9⟩,h9,hf⟩:=bind_some hf;obtain⟨rfl,rfl⟩:d8::oX=more/\g9=g':=by cases hf;exact⟨rfl,rfl⟩
    refine la (la (lift (bf (W.un _ s7 Iq H7 (λv H'=>∃ι8,Ext H7 ι7 H' ι8/\aA X'.kw H' ι8 g8/\Rel X'.kw H' ι8 d8 v) I7 ⟨ι7,σ6,g7,d8,g8,G7,S7,h8,λH8 ι8 v e8 G8 r8=>⟨ι8,e8,G8,r8⟩⟩) λy s8 q8=>?_)));obtain⟨v8,H8,I8,ZK,ι8,e8,G8,r8⟩:=q8;have NQ:=Ir.trans e8;obtain⟨E8,ZM⟩:=E1.Ij NQ;have Dq:H8 p=some (.lst vs):=NQ.same p _ Im (G1.cQ p rj).1;have Iu:=ao.ext NQ _ wK;have S8:=S7.ext e8;have hlen:vs.length<mK:=by rw[<- wK.length];omega
    rw[ZM]at G8 S8 Iu r8;refine la (lift (bf (ui (X:=X') _ s8 Iq H8 (.ref p) [v8] (.ref p) [y] (λ_ H'=>H'=upd H8 p (.lst (vs ++ [v8]))) I8 rfl (.cons ZK .nil) ⟨p,vs,v8,rfl,rfl,Dq,hlen,rfl⟩) λ_ s9 q9=>?_));obtain⟨_,tg,I9,_,rfl⟩:=q9;refine lr (lr ⟨rfl,?_⟩);refine again (acc9:=acc ++ [d8]) I9 (E8.Ik hD) (G8.grow Dq) ⟨S8.1,λj d q=>let⟨v,L,b⟩:=S8.2 j d q;⟨v,L,Rel.grow Dq d b⟩⟩ aT ?_ (by simp;omega) h9 (by simp);exact ao.append (ao.grow Dq _ Iu) (by simp only[ao];exact⟨v8,[],rfl,Rel.grow Dq _ r8,rfl⟩)
 . have ei:elt=i:=by omega
   subst ei;rw[Vt]at hf;obtain⟨xs,nK,NP,rfl,rfl⟩:=Bh hf;obtain⟨st,go⟩:=j1 xs nK NP;refine bf (T.done X' rfl rfl rfl S _ [] s σ fp _ I (qo Il) ti (st (mn _))) λr s4 aS=>?_;obtain⟨hr,I4⟩:=aS;subst hr;exact lr (fin s4 σ fp ιo vs I4 Il E1 G1 Im (by simpa using wK))
noncomputable def bO (mk:List D->G->Option (D×G))(a:FI)(fr:List (Option Nat))(t:FG)(c:FT)(e:FE):FE:=λh g=>(a h g).bind λr=>if aC r.1.length=true then(cR t c e r.1 (cz fr h) r.2).bind λq=>mk q.1 q.2 else none
noncomputable def kj (mk:List D->G->Option (D×G))(a:q_)(fr:List (Option Nat))(t:FG)(c:FT)(e:FE):FE:=λh g=>(a h g).bind λr=>if aC r.2.1=true then(dY r.1 r.2.1 t c e r.2.1 (cz fr h) r.2.2).bind λq=>mk q.1 q.2 else none
noncomputable def bR (ds:List D)(g:G):Option (D×G):=some (.lst ds,g)
noncomputable def jE (ds:List D)(g:G):Option (D×G):=some (.ref g.length,g ++ [ds])
def bQ.sub {K H ι e σ}(fr:List (Option Nat))(h:bQ K H ι e σ):bQ K H ι (cz fr e) (cz fr σ):=by
 refine⟨by simp[cz],λj d q=>?_⟩;unfold cz at q ⊢;rw[nP]at q ⊢;cases hf:fr[j]? with
 |none=>rw[hf]at q;cases q
 |some o =>
  rw[hf]at q;cases o with
  |none=>cases q
  |some i =>
   have c:e[i]? = some (some d):=by
    simp only[Ol,afD]at q;cases z:e[i]? with
    |none=>rw[z]at q;cases q|some w=>rw[z]at q;simp at q;rw[q]
   obtain⟨v,b,a⟩:=h.2 i d c;exact⟨v,by simp[b],a⟩
def n_ {fi:q_}{t:FG}{R:FT}{pos:FE}{a8:List (Addr×Obj)}{ι:Ix}{n:Sg}{g g1 g':G}{all:List D}{sh:Sh}(W:X.xe=λ_ _=>False)(M:X.calm=true)(ok:eZ X Z I O)(E:wJ X e K fi)(ifs:∀C Y H fp a8,DG (bw X Z O C Y H fp a8) e t/\gP (bw X Z O C Y H fp a8) B R/\DE (bw X Z O C Y H fp a8) c pos)(S:∀x,A8 K X.env x=pure x)(σ:lb X a8 y H s)(G0:aA X.kw H ι g)(elt:bQ X.kw H ι n y)(U:fi n g=some (sh,i,g1))(hz:aC i=true)(P:dY sh i t R pos i (cz I n) g1=some (all,g'))(fin:∀s' H' ιo vs Dl C,lb X a8 y H' s'->fW X a8 H' C->(∃m,s'.heap.Ns C m)->Ext H ι H' ιo->aA X.kw H' (Ix.hide ιo Dl) g'->H' Dl=some (.lst vs)->ao X.kw H' (Ix.hide ιo Dl) all vs->Dl ∉ ιo.hd->H Dl=none->compPost (model X.prog X.w) X.A X.xe use Q (.ref Dl) C (.ok .next) s'):
  wpAny (model X.prog X.w) X.A (comprehension (.ListComp c [⟨e,K,B,0⟩] O a) O X.env p (newList []) false (eval K X.env) use) Q X.xe s:=by
 have free:∀x∈O.names,x.2 = .free->∃R,X.env.cells.lookup x.1=some R:=λx hx hk=>σ.ok.has x.1 (ok.free x hx hk).2;refine wpAny_comprehension_free (use:=use) rfl S (vb free) ok.kind ok.names (bf (E.un a8 s y H (λJ H'=>∃h,Ext H ι H' h/\aA X.kw H' h g1/\Bg X.kw J H' h sh i) σ ⟨ι,n,g,sh,i,g1,G0,elt,U,λH1 h J r N J1=>⟨h,r,N,J1⟩⟩) λxv s1 zh=>bf zh λMA s2 q2=>?_);obtain⟨it,fp,tn,J,H1,rfl,I1,T,t1,f1,h,r,N,J1⟩:=q2;refine x3 ?_;have k:H1 s2.heap.objs.size=none:=I1.aY.fresh (mn _);generalize NR:({ s2 with heap:=s2.heap.push { cls:=.type "list",dict:=none,data:=.seq ([]:List Value).toArray } }:lO)=Y;have I3:lb X a8 y (upd H1 s2.heap.objs.size (.lst [])) Y:=by rw[<- NR];exact I1.laid (t':=s2.toks) (λb u pos=>nz _ pos) (mn _) ⟨ro _,[],0,.nil,pR _ rfl⟩
 have k3:∀b o,s2.heap.get? b=some o->Y.heap.get? b=some o:=λb o pos=>by rw[<- NR];exact nz _ pos
 have UH:Y.heap.objs.size=s2.heap.objs.size+1:=by rw[<- NR];exact H9 ..
 have uw:∀b∈fp,b<s2.heap.objs.size:=λb f=>let⟨o,eo,_⟩:=T.obj _ _ t1 b f;nC eo;have L:∀b∈fp,fW X a8 (upd H1 s2.heap.objs.size (.lst [])) b:=λb f=>⟨by rw[aG (p8 (uw b f))];exact(f1 b f).1,(f1 b f).2⟩
 refine yH (R6 I3) λh4 W_ k4 kc=>?_;have I4:=Bf (tk:=Y.toks) ok I3 L (λb f=>by rw[UH];exact Nb (uw b f)) W_ k4 kc;obtain⟨hg,hi,he⟩:=ifs Y.heap.objs.size Y (upd H1 s2.heap.objs.size (.lst [])) fp a8;have t4:tn 0 h4:=T.keep _ _ _ t1 λb f o pos=>k4 b o (k3 b o pos);have fx:∀b∈fp,fW (bw X Z O Y.heap.objs.size Y (upd H1 s2.heap.objs.size (.lst [])) fp a8) [] (upd H1 s2.heap.objs.size (.lst [])) b:=λb f=>by
  refine⟨(L b f).1,?_,?_,.inl f,?_,?_⟩
  . exact p8 (by rw[UH];exact Nb (uw b f))
  . exact I4.ok.vV b f
  . exact(I4.ok.L9 b f).2
  . intro tg hp
    have ze:tg∈X.pn++a8:=by have q:tg∈(X.pn++a8) ++ []:=hp;simpa using q
    exact(f1 b f).2.2.2.2.2 tg ze
 have loop:HP (model X.prog X.w) X.A (.compLoop (.ListComp c [⟨e,K,B,0⟩] O a) 0 (.ref it) (.ref s2.heap.objs.size) (compEnvC O (cellsOf O X.env Y.heap.objs.size) Y.heap.objs.size X.env))
    (compPost (model X.prog X.w) X.A X.xe use Q (.ref s2.heap.objs.size) Y.heap.objs.size) { Y with heap:=h4 }:=by
  refine Dm (X':=bw X Z O Y.heap.objs.size Y (upd H1 s2.heap.objs.size (.lst [])) fp a8) (all:=all) (g':=g') rfl M T fx J1 k (aC.le hz) hg hi he ?_ _ _ _ h (cz I n) g1 I4 t4 (λb f=>(L b f).1) ((Ext.refl (H:=H1) (ι:=h)).Ik k) (N.hide k) ?_ aT P
  . intro s' σ' H' ιo vs l ab E' G' ZN r'
    have I5:lb X a8 y H' s':=I3.Rt (ch:=fp) l.os l.base l.aY l.bare λb f=>⟨(L b f).2.2.2.1,(L b f).2.1,(L b f).2.2.2.2.1,(L b f).2.2.2.2.2⟩
    obtain⟨m,hm,_⟩:=l.loc;refine fin s' H' ιo vs _ _ I5 ?_ ⟨m,hm⟩ (r.trans E') G' ZN r' ?_ ?_
    . have z:=I3.nT (H':=H') (b:=Y.heap.objs.size) (mn _) l.free
      exact z
    . rw[E'.cQ];exact N.iw k
    . cases q:H s2.heap.objs.size with
      |none=>rfl|some o=>exact absurd k (r.there _ (by rw[q];simp))
  . have S1:bQ X.kw H1 h (cz I n) (cz I y):=(elt.ext r).sub I
    exact⟨S1.1,λj d q=>let⟨v,dB,b⟩:=S1.2 j d q;⟨v,dB,Rel.hide k d b⟩⟩
 exact codeAny_compStart_list loop (T.self _ 0 _ _ _ t4 loop)
def km {H ι H' a K g' all vs b d f Q}(e:Ext H ι H' a)(h:aA K H' (Ix.hide a b) g')(hD:H' b=some (.lst vs))(r:ao K H' (Ix.hide a b) all vs)(i:b ∉ a.hd)(j:bR all g'=some (d,f))(p:fY K H ι d f Q):Q (.ref b) H':=by cases j;refine p H' a _ e h.show ?_;simp only[Rel];exact⟨b,vs,rfl,.inl ⟨.inl hD,(h.cQ b rj).1,i⟩,ao.show _ r⟩
def aA.NS {K H ι g p J C}(h:aA K H (Ix.hide ι p) g)(A:H p=some (.lst C))(B:p ∉ ι.hd)(r:ao K H (Ix.hide ι p) J C):aA K H (ι.more p 0) (g ++ [J]):=by
 have ZO:p ∉ ι.ix:=(h.cQ p rj).1;have R:∀{n:Nat} {a:Addr} {b:Bool},eG (Ix.hide ι p) n a b->eG (ι.more p 0) n a b:=fun {n a b} f=>by
   have O:n < ι.ix.length:=(m5.mp f.1).1;refine⟨?_,?_⟩
   . show(ι.ix ++ [p])[n]? = some a
     rw[ra O];exact f.1
   . show kb (if n=ι.ix.length then 0 else ι.kd n)=b
     rw[if_neg (by omega)];exact f.2
 have up:∀(d:D) (v:V),Rel K H (Ix.hide ι p) d v->Rel K H (ι.more p 0) d v:=λd=>by
   refine D.rec (motive_1:=λd=>∀v,Rel K H (Ix.hide ι p) d v->Rel K H (ι.more p 0) d v) (motive_2:=λds=>∀C,ao K H (Ix.hide ι p) ds C->ao K H (ι.more p 0) ds C)
     ?_ ?_ ?_ ?_ ?_ ?_ ?_ ?_ ?_ ?_ ?_ ?_ d
   . intro v h;simpa[Rel]using h
   . intro b v h;simpa[Rel]using h
   . intro b v h;simpa[Rel]using h
   . intro b v h;simpa[Rel]using h
   . intro J I v h
     simp only[Rel]at h ⊢;obtain⟨a,E,j,f,s⟩:=h;refine⟨a,E,j,?_,I _ s⟩;rcases f with⟨f,n⟩|f
     . refine .inl ⟨f,λz=>?_⟩
       rcases m3.mp z with z|z
       . exact n z
       . simp at z;subst z
         rcases f with f|⟨o,f⟩<;>(rw[A]at f;cases f)
     . exact .inr f
   . intro J I v h
     simp only[Rel]at h ⊢;obtain⟨a,E,j,f,s⟩:=h;refine⟨a,E,j,?_,I _ s⟩;rcases f with⟨f,n,k⟩|f
     . refine .inl ⟨f,λz=>?_,λz=>k (pP _ z)⟩
       rcases m3.mp z with z|z
       . exact n z
       . simp at z;subst z;exact k rj
     . exact .inr f
   . intro v h
     simp only[Rel]at h ⊢;obtain⟨a,j,f,s⟩:=h;refine⟨a,j,f,λz=>?_⟩;rcases m3.mp z with z|z
     . exact s z
     . simp at z;subst z;rw[A]at f;cases f
   . intro n v h
     simp only[Rel]at h ⊢;obtain⟨a,j,f⟩:=h;exact⟨a,j,R f⟩
   . intro n v h
     simp only[Rel]at h ⊢;obtain⟨a,j,f⟩:=h;exact⟨a,j,R f⟩
   . intro x ds I v h
     simp only[Rel]at h ⊢;obtain⟨a,E,j,f,s⟩:=h;refine⟨a,E,j,f.mono λc u z q=>⟨q.1,λm=>?_,λy m=>q.2.2 y (pP _ m)⟩,I _ s⟩;rcases m3.mp m with m|m
     . exact q.2.1 m
     . simp at m;have y:=q.1;rw[m,A]at y;rw[<- Az y]at z;cases z
   . intro C h;simpa[ao]using h
   . intro d ds Nk C4 C h
     simp only[ao]at h ⊢;obtain⟨v,Q,j,f,s⟩:=h;exact⟨v,Q,j,Nk v f,C4 Q s⟩
 have U:∀(ds:List D) (C:List V),ao K H (Ix.hide ι p) ds C->ao K H (ι.more p 0) ds C:=λds=>by
   induction ds with
   |nil=>intro C h;simpa[ao]using h
   |cons d ds I =>
     intro C h;simp only[ao]at h ⊢;obtain⟨v,Q,j,f,s⟩:=h;exact⟨v,Q,j,up d v f,I Q s⟩
 refine⟨?_,by simp[<- h.len,Ix.hide,Ix.more],λb hb=>⟨λz=>?_,(h.cQ b (pP _ hb)).2⟩,λi Y q=>?_,λq f=>⟨(h.tb q f).1,λm=>?_⟩⟩
 . show(ι.ix ++ [p]).Nodup
   rw[Ux];refine⟨h.nd,by simp,λa ha b hb=>?_⟩;simp at hb;subst hb;intro e;subst e;exact ZO ha
 . rcases m3.mp z with z|z
   . exact(h.cQ b (pP _ hb)).1 z
   . simp at z;subst z;exact B hb
 . have O:ι.ix.length=g.length:=h.len
   by_cases hi:i<g.length
   . rw[ra hi]at q
     obtain⟨a,o,E,h1,h2,ov,h3⟩:=h.at_ i Y q;refine⟨a,o,E,(by show(ι.ix ++ [p])[i]? = some a;rw[ra (by rw[O];exact hi)];exact h1),h2,?_,U _ _ h3⟩;show OV K _ _ (if i=ι.ix.length then 0 else ι.kd i) o E;rw[if_neg (by omega)];exact ov
   . rw[wm (by omega)]at q
     have Z:i-g.length=0:=by
       cases e:i-g.length with
       |zero=>rfl|succ k=>rw[e]at q;simp at q
     rw[Z]at q;have e:J=Y:=by simpa using q
     subst e;refine⟨p,_,C,?_,A,?_,U _ _ r⟩
     . show(ι.ix ++ [p])[i]? = some p
       rw[wm (by rw[O];omega),O,Z];rfl
     . show OV K _ _ (if i=ι.ix.length then 0 else ι.kd i) _ C
       rw[if_pos (by omega)];exact .l C
 . rcases m3.mp m with m|m
   . exact(h.tb q f).2 m
   . simp at m;have z:=(h.tb q f).1;rw[m,A]at z;cases z
def wL {H ι H' f K g' all vs h d j Q}(e:Ext H ι H' f)(l:H h=none)(k:aA K H' (Ix.hide f h) g')(hD:H' h=some (.lst vs))(r:ao K H' (Ix.hide f h) all vs)(o:h ∉ f.hd)(q:jE all g'=some (d,j))(p:fY K H ι d j Q):Q (.ref h) H':=by
 cases q;obtain⟨m,n,c⟩:=e.more;refine p H' (f.more h 0) _ ⟨e.same,e.there,⟨m ++ [h],by show f.ix ++ [h]=_;rw[n,ta],λa z=>?_⟩,e.cQ,λi b=>?_⟩ (k.NS hD o r) ?_
 . rcases m3.mp z with z|z
   . exact c a z
   . simp at z;subst z;exact l
 . show(if i=f.ix.length then 0 else f.kd i)=ι.kd i
   rw[if_neg (by rw[n,nN];omega)];exact e.nH i b
 . simp only[Rel]
   exact⟨h,rfl,eG.new k.len⟩
def wM {fi:q_}{t:FG}{R:FT}{pos:FE}(elt:X.xe=λ_ _=>False)(U:X.calm=true)(ok:eZ X Z I O)(A:wJ X e K fi)(E:∀C s3 H fp Y,DG (bw X Z O C s3 H fp Y) e t/\gP (bw X Z O C s3 H fp Y) B R/\DE (bw X Z O C s3 H fp Y) c pos)(J:∀x,A8 K X.env x=pure x):DE X (.ListComp c [⟨e,K,B,0⟩] O a) (kj bR fi I t R pos):=.of (by
 intro Y s σ H Q tg h;obtain⟨ι,σd,g,d,gg,G0,S0,h,p⟩:=h;obtain⟨⟨sh,L,g1⟩,z,h⟩:=bind_some h;dsimp only at h;split at h
 . rename_i q
   obtain⟨⟨all,g'⟩,y,h⟩:=bind_some h;rw[eval_ListComp];refine n_ (use:=none) elt U ok A E J tg G0 S0 z q y λi l ιo vs n C I' fC f e' v hD r j rg=>?_;obtain⟨m,hm⟩:=f;refine⟨m,hm,λrh sb=>⟨.ref n,l,?_,rfl,km e' v hD r j h p⟩⟩;obtain⟨f0,f1,f2,k,f4,f5⟩:=fC;exact I'.turned (t':=i.toks) (λb o u pos=>sb.extBut b o u pos) f0 f1 k f4 f5
 . cases h)
def oa {fi:q_}{iter:FG}{ifs:FT}{N:FE}{mk:List D->G->Option (D×G)}(T:∀{H ι H' n g' all vs R d gg Q},Ext H ι H' n->H R=none->aA X.kw H' (Ix.hide n R) g'->H' R=some (.lst vs)->ao X.kw H' (Ix.hide n R) all vs->R ∉ n.hd->mk all g'=some (d,gg)->fY X.kw H ι d gg Q->Q (.ref R) H')(W:X.xe=λ_ _=>False)(J:X.calm=true)(ok:eZ X Z I O)(tg:wJ X e K fi)(elt:∀C s3 H fp a8,DG (bw X Z O C s3 H fp a8) e iter/\gP (bw X Z O C s3 H fp a8) B ifs/\DE (bw X Z O C s3 H fp a8) c N)(scope:X.N.Nodup)(P:X.N[i]? = some x)(Y:El X.env.scope x)(U:Pr (.ListComp c [⟨e,K,B,0⟩] O t) (some (.Name x a)) p.line X.env=pure true)(S:∀x,A8 K X.env x=pure x)(M:X.fn x=true\/X.env.scope.names.lookup x=some .local):DS X (.Assign [.Name x a] (.ListComp c [⟨e,K,B,0⟩] O t) p) (aF (kj mk fi I iter ifs N) (gN i)):=.of (by
 intro a8 s σ H y px h;obtain⟨ι,q,g,r,cy,gg,G0,S0,h0,E⟩:=h;obtain⟨⟨d,ZQ⟩,zh,hr⟩:=bind_some h0;have eI:some (F.nx,q.set i (some d),ZQ)=some (r,cy,gg):=hr;clear h0;obtain⟨⟨sh,L,g1⟩,h1,f⟩:=bind_some (x:=fi q g) zh;dsimp only at f;split at f
 . rename_i hz
   obtain⟨⟨all,g'⟩,h2,h4⟩:=bind_some f;rw[exec_Assign_Name_used _ _ _ _ U];refine la (aeu (la ?_));show wpAny _ X.A (do let _ <- comprehension (.ListComp c [⟨e,K,B,0⟩] O t) O X.env _ (newList []) false (eval K X.env) (some (Dd (.Name x a) X.env))) _ _ s;refine la (ZC (n_ (use:=some (Dd (.Name x a) X.env)) (Q:=λ_ l=>SP X a8 y .next l) W J ok tg elt S px G0 S0 h1 hz h2 λl H' n vs R C I' fC Dr e' G' hD r hn rg=>?_) (λ_ l hq=>lr (lr hq)) λ_ _ N=>N);obtain⟨m,hm⟩:=Dr;show wpAny _ X.A (Dd (.Name x a) X.env (.ref R)) _ _ _;refine wpAny_assign_Name (t6 I' scope P Y (v:=.ref R) rfl (λwa j aS=>?_) M);obtain⟨pos,sb,k⟩:=aS;obtain⟨f0,f1,f2,f3,f4,f5⟩:=fC;have Ds:C≠pos:=by
    rcases k with rfl|k
    . exact f1
    . exact λz=>f4 _ _ k z.symm
   obtain⟨oc,es,ep,ho,rest⟩:=hm;refine⟨m,⟨oc,es,ep,(sb.2 C Ds).trans ho,rest⟩,λrh ZR=>?_⟩;refine⟨σ.set i (some (.ref R)),H',j.turned (t':=wa.toks) (λb o hb N=>ZR.extBut b o hb N) f0 f1 f3 f4 f5,?_⟩;cases eI;exact T (Q:=λv H'=>y.nx (σ.set i (some v)) H') e' rg G' hD r hn h4 λH2 ι2 v u G2 r2=>E H2 ι2 u G2 _ ((S0.ext u).set r2 i)
 . cases f)
def uz {fi:q_}{t:FG}{R:FT}{pos:FE}(elt:X.xe=λ_ _=>False)(U:X.calm=true)(ok:eZ X Z I O)(A:wJ X e K fi)(E:∀C s3 H fp Y,DG (bw X Z O C s3 H fp Y) e t/\gP (bw X Z O C s3 H fp Y) B R/\DE (bw X Z O C s3 H fp Y) c pos)(J:∀x,A8 K X.env x=pure x):DE X (.ListComp c [⟨e,K,B,0⟩] O a) (kj jE fi I t R pos):=.of (by
 intro Y s σ H Q tg h;obtain⟨ι,σd,g,d,gg,G0,S0,h,p⟩:=h;obtain⟨⟨sh,L,g1⟩,h1,h⟩:=bind_some h;dsimp only at h;split at h
 . rename_i q
   obtain⟨⟨all,g'⟩,z,h⟩:=bind_some h;rw[eval_ListComp];refine n_ (use:=none) elt U ok A E J tg G0 S0 h1 q z λi l ιo vs n C I' fC f e' v hD r j y=>?_;obtain⟨m,hm⟩:=f;refine⟨m,hm,λrh sb=>⟨.ref n,l,?_,rfl,wL e' y v hD r j h p⟩⟩;obtain⟨f0,f1,f2,k,f4,f5⟩:=fC;exact I'.turned (t':=i.toks) (λb o u pos=>sb.extBut b o u pos) f0 f1 k f4 f5
 . cases h)
noncomputable def Dt (a:FI):q_:=λc g=>(a c g).map λr=>(λ_=>some r.1,r.1.length,r.2)
def oh {B:FI}(h:DI X e K B):wJ X e K (Dt B):=.of (PI.imp h.un λO H Q q=>by
 obtain⟨n,s,g,sh,L,y,G0,x,j,p⟩:=q;obtain⟨⟨ds,C⟩,k,tg⟩:=pM.mp j;cases tg;exact⟨n,s,g,ds,C,G0,x,k,λb c J a f o=>p b c J a f λi E l I r u R v z=>by cases v;exact o i E l I r u⟩)
theorem sT {ds:List D}{t:FG}{c:FT}{e:FE}:∀(k:Nat) (i:Sg) (g:G),k<=ds.length->dY (λ_=>some ds) ds.length t c e k i g=cR t c e (ds.drop (ds.length-k)) i g
 | 0,i,g,_=>by simp[dY,cR]
 |k+1,i,g,h=>by
  have a:ds.length-(k+1)<ds.length:=by omega
  rw[N8 a,show ds.length-(k+1)+1=ds.length-k by omega];simp only[dY,cR,mI,if_true,mA a];refine congrArg _ (funext λq=>congrArg _ (funext λb=>?_));split
  . refine congrArg _ (funext λr=>?_)
    rw[sT k _ _ (by omega)]
  . rw[sT k _ _ (by omega)]
def oY {mk:List D->G->Option (D×G)}{a:FI}{t:FG}{c:FT}{e:FE}:bO mk a I t c e=kj mk (Dt a) I t c e:=by
 funext σ g;unfold bO kj Dt;cases a σ g with
 |none=>rfl
 |some r =>
  simp only[mI,Ol];rw[sT _ _ _ (mn _),Vt,aei]
def Km {v:FI}{t:FG}{tg:FT}{n:FE}(i:X.xe=λ_ _=>False)(b:X.calm=true)(ok:eZ X Z I O)(p:DI X e K v)(f:∀C q H r u,DG (bw X Z O C q H r u) e t/\gP (bw X Z O C q H r u) B tg/\DE (bw X Z O C q H r u) c n)(h:∀x,A8 K X.env x=pure x):DE X (.ListComp c [⟨e,K,B,0⟩] O a) (bO bR v I t tg n):=by
 rw[oY];exact wM i b ok (oh p) f h
def Bj {U:FI}{k:FG}{tg:FT}{n:FE}(z:X.xe=λ_ _=>False)(l:X.calm=true)(ok:eZ X Z I O)(j:DI X e K U)(o:∀C J H Q R,DG (bw X Z O C J H Q R) e k/\gP (bw X Z O C J H Q R) B tg/\DE (bw X Z O C J H Q R) c n)(s:X.N.Nodup)(u:X.N[i]? = some x)(A:El X.env.scope x)(y:Pr (.ListComp c [⟨e,K,B,0⟩] O t) (some (.Name x a)) p.line X.env=pure true)(v:∀x,A8 K X.env x=pure x)(q:X.fn x=true\/X.env.scope.names.lookup x=some .local):
  DS X (.Assign [.Name x a] (.ListComp c [⟨e,K,B,0⟩] O t) p) (aF (bO bR U I k tg n) (gN i)):=
 by rw[oY];exact oa (λh _ b hD r E f Y=>km h b hD r E f Y) z l ok (oh j) o s u A y v q
def yI {Y:FI}{tg:FG}{n:FT}{E:FE}(A:X.xe=λ_ _=>False)(o:X.calm=true)(ok:eZ X Z I O)(k:DI X e K Y)(q:∀C J H Q R,DG (bw X Z O C J H Q R) e tg/\gP (bw X Z O C J H Q R) B n/\DE (bw X Z O C J H Q R) c E)(u:X.N.Nodup)(v:X.N[i]? = some x)(l:El X.env.scope x)(z:Pr (.ListComp c [⟨e,K,B,0⟩] O t) (some (.Name x a)) p.line X.env=pure true)(y:∀x,A8 K X.env x=pure x)(s:X.fn x=true\/X.env.scope.names.lookup x=some .local):
  DS X (.Assign [.Name x a] (.ListComp c [⟨e,K,B,0⟩] O t) p) (aF (bO jE Y I tg n E) (gN i)):=
 by rw[oY];exact oa (λj f b hD r U h px=>wL j f b hD r U h px) A o ok (oh k) q u v l z y s
noncomputable def jR (sh:Sh)(L:Nat)(t:FG)(b:FS):Nat->FS
 | 0,h,g=>(sh g).bind λc=>if c.length=L then some (.nx,h,g)else none
 |r+1,h,g=>(sh g).bind λc=>if c.length=L then(c[L-(r+1)]?).bind λd=>(t d h g).bind λq=>(b q.1 q.2).bind λa=>match a.1 with
   |.nx=>jR sh L t b r a.2.1 a.2.2|.ct=>jR sh L t b r a.2.1 a.2.2|.bk=>some (.nx,a.2.1,a.2.2)|.rt d=>some (.rt d,a.2.1,a.2.2)
  else none
noncomputable def Bk (a:q_)(t:FG)(b:FS):FS:=λc g=>(a c g).bind λr=>jR r.1 r.2.1 t b r.2.1 c r.2.2
inductive Gr (X:Cx)(t:FG)(b:FS)(sh:Sh)(L:Nat)(H1:Hp)(ι1:Ix)(r:F)(cy:Sg)(g':G)(i:Nat)(σ2:lU)(H2:Hp):Prop
 |mk (ι2:Ix) (qY:Sg) (g2:G) (e2:Ext H1 ι1 H2 ι2) (G2:aA X.kw H2 ι2 g2) (S2:bQ X.kw H2 ι2 qY σ2) (hf:jR sh L t b (L-i) qY g2=some (r,cy,g')):Gr X t b sh L H1 ι1 r cy g' i σ2 H2
def Kn {E:q_}{t:FG}{b:FS}(M:ZF (model X.prog X.w) X.A X.env X.xe)(B:X.calm=true)(C:wJ X K e E)(I:DG X K t)(N:lN X R b)(O:∀x,A8 e X.env x=pure x):DS X (.For K e R [] a) (Bk E t b):=.of (qU.imp (MD M B C.un I.un N.un O) λDn σ H h=>by
 obtain⟨ι,Q,g,r,cy,g',G0,S0,h,p⟩:=h;obtain⟨⟨sh,L,g1⟩,h1,h⟩:=bind_some h;refine⟨ι,Q,g,sh,L,g1,G0,S0,h1,λH1 z J k G1 J1=>?_⟩;dsimp only at h;refine⟨λi m o c=>m=L-i/\i<=L/\Gr X t b sh L H1 z r cy g' i o c,
   ⟨L,by simp,ro _,z,Q,g1,Ext.refl,G1,S0.ext k,by simpa using h⟩,?_⟩
 rintro i m o c ⟨rfl,C,u,qY,g2,Z,G2,S2,hf⟩;have j1:=J1 i c u g2 Z.eH G2;by_cases dw:i<L
 . rw[show L-i=(L-(i+1))+1 by omega]at hf
   simp only[jR]at hf;obtain⟨xs,q,hf⟩:=bind_some hf;split at hf
   . rename_i hl
     obtain⟨d0,Dp,hf⟩:=bind_some hf;rw[show L-(L-(i+1)+1)=i by omega]at Dp;obtain⟨⟨U,g3⟩,h3,hf⟩:=bind_some hf;obtain⟨⟨r4,n,g4⟩,h4,hf⟩:=bind_some hf;obtain⟨st,go⟩:=j1 xs q hl;obtain⟨go,yl⟩:=go d0 Dp;refine .inr ⟨go,λY H5=>Gr X t b sh L H1 z r cy g' (i+1) Y H5,?_,?_⟩
     . rintro Y H5 ⟨ι5,ZS,g5,e5,G5,S5,h5⟩
       exact⟨L-(i+1),by omega,rfl,dw,ι5,ZS,g5,e5,G5,S5,h5⟩
     . intro x H' y
       obtain⟨e3,G3,r3⟩:=yl x H' y;refine⟨u,qY,g2,d0,U,g3,G3,S2.ext e3,r3,h3,λH6 ι6 σ6 e6 G6 S6=>?_⟩;refine⟨ι6,U,g3,r4,n,g4,G6,S6,h4,λH7 l e7 f=>?_⟩;have j:=Z.trans (e3.trans (e6.trans e7));cases r4 with
       |nx=>exact λs body=>⟨l,n,g4,j,f,body,hf⟩|ct=>exact λs body=>⟨l,n,g4,j,f,body,hf⟩|bk=>cases hf;exact λs body=>p H7 l (k.trans j) f s body|rt d=>cases hf;exact λv r7=>p H7 l (k.trans j) f v r7
   . cases hf
 . have tg:i=L:=by omega
   subst tg;rw[Vt]at hf;simp only[jR]at hf;obtain⟨xs,q,hf⟩:=bind_some hf;split at hf
   . rename_i hl
     cases hf;obtain⟨st,_⟩:=j1 xs q hl;exact .inl ⟨st (mn _),p c u (k.trans Z) G2 o S2⟩
   . cases hf)
theorem zj {ds:List D}{t:FG}{b:FS}:∀(k:Nat) (c:Sg) (g:G),k<=ds.length->jR (λ_=>some ds) ds.length t b k c g=forL t b (ds.drop (ds.length-k)) c g
 | 0,c,g,_=>by simp[jR,forL]
 |k+1,c,g,h=>by
  have a:ds.length-(k+1)<ds.length:=by omega
  rw[N8 a,show ds.length-(k+1)+1=ds.length-k by omega];simp only[jR,forL,mI,if_true,mA a,zj k _ _ (aem h)]<;>rfl
def NT {a:FI}{t:FG}{b:FS}:fO a t b=Bk (Dt a) t b:=by
 funext σ g;unfold fO Bk Dt;cases a σ g with
 |none=>rfl
 |some r =>
  simp only[mI,Ol];rw[zj _ _ _ (mn _),Vt,aei]
def NU {tg:FI}{t:FG}{b:FS}(i:ZF (model X.prog X.w) X.A X.env X.xe)(h:X.calm=true)(j:DI X e K tg)(f:DG X e t)(k:lN X R b)(l:∀x,A8 K X.env x=pure x):DS X (.For e K R [] a) (fO tg t b):=by
 rw[NT];exact Kn i h (oh j) f k l
noncomputable def bt (c:Int->Int->Bool)(f:Int->Int->Int)(a b:D)(g:G):Option (D×G):=match a,b with
 |.int i,.int j=>if c i j=true then some (.int (f i j),g)else none|_,_=>none
noncomputable def rA (f:Int->Int->Bool)(a b:D)(g:G):Option (D×G):=match a,b with
 |.int i,.int j=>some (.bl (f i j),g)|_,_=>none
noncomputable def bV (_ _:Int):Bool:=true
noncomputable def cu (i j:Int):Bool:=N1 i.natAbs 18446744073709551615||N1 j.natAbs 18446744073709551615
noncomputable def dh (_ j:Int):Bool:=N1 1 j.toNat&&N1 j.toNat 1073741823
noncomputable def cD (_ j:Int):Bool:=N1 1 j.toNat
noncomputable def jS (i j:Int):Bool:=(match j with|.ofNat n=>N1 n 1000000|.negSucc _=>false)&&N1 i.natAbs 18446744073709551615
section
def lQ {C:Int->Int->Prop}{f:Int->Int->Int}(h:bS X A (rI C λi j=>.int (f i j)))(B:∀i j,m i j=true->C i j):bS X A (dW X.kw (bt m f)):=by
 intro c s n H x y v u Q I k l q;obtain⟨E,g,e,o,d,r,G0,a,b,q,p⟩:=q;cases e with
 |int i =>
  cases o with
  |int j =>
   simp only[Rel]at a b;subst a;subst b;simp only[bt]at q;split at q
   . rename_i z
     cases q;exact h c s n H _ _ v u Q I k l ⟨i,j,rfl,rfl,B i j z,p H E _ Ext.refl G0 (by simp[Rel])⟩
   . cases q
  |_=>cases q
 |_=>cases q
def zm {g:Int->Int->V}{x y:V}(h:rI (λ_ _=>True) g x y H n):pO g x y H n:=by obtain⟨i,j,a,b,_,q⟩:=h;exact⟨i,j,a,b,q⟩
def bS.imp {r c:R2}(h:bS X A r)(i:∀x y H Q,c x y H Q->r x y H Q):bS X A c:=λn s p H x y v u Q I a b q=>h n s p H x y v u Q I a b (i _ _ _ _ q)
def NV:bS X (th .Sub) (dW X.kw (bt bV (· - ·))):=lQ (bS.imp MJ λ_ _ _ _=>zm) λ_ _ _=>trivial
def Ko:bS X (th .Add) (dW X.kw (bt bV (· + ·))):=lQ (bS.imp MI λ_ _ _ _=>zm) λ_ _ _=>trivial
def Kp:bS X (th .Mult) (dW X.kw (bt cu (· * ·))):=lQ MK λi j h=>by
 unfold cu at h;simp only[wt]at h;rcases h with h|h
 . have:=SW h
   exact .inl ⟨by omega,by omega⟩
 . have:=SW h
   exact .inr ⟨by omega,by omega⟩
def Kq:bS X (th .FloorDiv) (dW X.kw (bt dh (· / ·))):=lQ JP λi j h=>by unfold dh at h;simp only[l8]at h;have a:=SW h.1;have b:=SW h.2;exact⟨by omega,by omega⟩
def NW:bS X (th .Mod) (dW X.kw (bt cD (· % ·))):=lQ ML λi j h=>by have a:=SW (show N1 1 j.toNat=true from h);show 0<j;omega
def NX:bS X (th .Pow) (dW X.kw (bt jS (λi j=>i ^ j.toNat))):=lQ MM λi j h=>by
 unfold jS at h;simp only[l8]at h;have b:=SW h.2;cases j with
 |ofNat n =>
  have a:=SW (show N1 n 1000000=true from h.1);exact⟨afn n,(by show((n:Nat):Int)<=1000000;omega),(by omega)⟩
 |negSucc n=>exact absurd h.1 (by simp)
def vt (h:bS X A (pO λi j=>.bl (m i j))):bS X A (dW X.kw (rA m)):=by
 intro n s r H x y v u Q I e k q;obtain⟨B,g,c,l,d,o,G0,a,b,q,p⟩:=q;cases c with
 |int i =>
  cases l with
  |int j =>
   simp only[Rel]at a b;subst a;subst b;cases q;exact h n s r H _ _ v u Q I e k ⟨i,j,rfl,rfl,p H B _ Ext.refl G0 (by simp[Rel])⟩
  |_=>cases q
 |_=>cases q
def R7:bS X (tA .Lt) (dW X.kw (rA λi j=>decide (i<j))):=vt RH
def R8:bS X (tA .LtE) (dW X.kw (rA λi j=>decide (i<=j))):=vt RJ
def R9:bS X (tA .Gt) (dW X.kw (rA λi j=>decide (j<i))):=vt RK
def R_:bS X (tA .GtE) (dW X.kw (rA λi j=>decide (j<=i))):=vt RL
noncomputable def kq (d:D)(g:G):Option (D×G):=match d with|.int i=>some (.int (-i),g)|_=>none
def NY:CD X (unaryOp .USub) (Nt X.kw kq):=by
 intro h s n H x v Q I b q;obtain⟨r,g,a,d,e,G0,c,q,p⟩:=q;cases a with
 |int i =>
  cases c;cases q;exact MN h s n H _ v Q I b ⟨i,rfl,p H r _ Ext.refl G0 (by simp[Rel])⟩
 |_=>cases q
mutual
noncomputable def flat:D->Bool
 |.ref _=>false|.eM=>false|.bu _=>false|.fn _ _=>false|.tup c=>bJ c|.lst c=>bJ c|_=>true
noncomputable def bJ:List D->Bool
 | []=>true|d::ds=>flat d&&bJ ds
end
mutual
noncomputable def bF:D->D->Bool
 |.ay,d=>match d with|.ay=>true|_=>false
 |.bl a,d=>match d with|.bl b=>a == b|.int b=>(if a then 1 else 0)== b|_=>false
 |.int a,d=>match d with|.bl b=>a == (if b then 1 else 0)|.int b=>a == b|_=>false
 |.str a,d=>match d with|.str b=>a == b|_=>false
 |.tup c,d=>match d with|.tup h=>gQ c h|_=>false
 |.lst c,d=>match d with|.lst h=>gQ c h|_=>false
 |_,_=>false
noncomputable def gQ:List D->List D->Bool
 | [],[]=>true|x::c,y::h=>bF x y&&gQ c h|_,_=>false
end
mutual
noncomputable def dep:D->Nat
 |.tup c=>dM c+1|.lst c=>dM c+1|_=>0
noncomputable def dM:List D->Nat
 | []=>0|d::ds=>max (dep d) (dM ds)
end
mutual
theorem mP:∀d:D,flat d=true->bF d d=true
 |.ay,_=>by simp[bF]|.bl _,_=>by simp[bF]|.int _,_=>by simp[bF]|.str _,_=>by simp[bF]|.tup c,h=>by simp only[bF];exact oj c h|.lst c,h=>by simp only[bF];exact oj c h
theorem oj:∀ds:List D,bJ ds=true->gQ ds ds=true
 | [],_=>by simp[gQ]|d::ds,h=>by simp only[bJ,l8]at h;simp only[gQ,l8];exact⟨mP d h.1,oj ds h.2⟩
end
theorem qv:∀c h:List D,gQ c h=((nJ (min c.length h.length)).all (λj=>bF (c[j]?.getD .ay) (h[j]?.getD .ay))&&c.length == h.length)
 | [],[]=>by simp[gQ]| [],y::h=>by simp[gQ]|x::c,[]=>by simp[gQ]|x::c,y::h=>by simp only[gQ,qv c h,yw,Nat.succ_min_succ,agj,aex,ado,ahJ,List.all_map,L1,List.getElem?_cons_succ];rw[Bool.and_assoc];congr 2;simp
def oZ {i:List V}(I:lb X b y H s)(h:fu X.kw H f j)(n:dF X.kw H f i):False:=by obtain⟨p,_,e,_⟩:=I.tuple h;obtain⟨q,_,c,_⟩:=I.list n;exact SeqAt.ne_of_list_tuple c.isList e rfl
mutual
theorem Rel.inj {O:List (Addr×Obj)}{Q:lU}{H:Hp}{s:lO}{C:Ix}(I:lb X O Q H s):∀(R p:D) {v:V},flat R=true->flat p=true->Rel X.kw H C R v->Rel X.kw H C p v->R=p
 |.ay,p,v,_,q,u,r=>by cases u;cases p<;>simp_all[Rel,flat]|.bl _,p,v,_,q,u,r=>by cases u;cases p<;>simp_all[Rel,flat]|.int _,p,v,_,q,u,r=>by cases u;cases p<;>simp_all[Rel,flat]|.str _,p,v,_,q,u,r=>by cases u;cases p<;>simp_all[Rel,flat]
 |.tup U,p,v,y,q,u,r=>by
  obtain⟨a,j,rfl,c,h⟩:=u;cases p with
  |tup E =>
   obtain⟨i,Y,e,b,f⟩:=r;cases e;have:=I.nS c.sq b.sq;subst this;rw[ao.inj I U E y q h f]
  |lst E =>
   obtain⟨i,Y,e,b,f⟩:=r;cases e;exact(oZ I c.sq b.sq).elim
  |eM=>cases q|ref n=>cases q|bu n=>cases q|fn x=>cases q|_=>simp[Rel]at r
 |.lst U,p,v,y,q,u,r=>by
  obtain⟨a,j,rfl,c,h⟩:=u;cases p with
  |lst E =>
   obtain⟨i,Y,e,b,f⟩:=r;cases e;have:=I.mD c.sq b.sq;subst this;rw[ao.inj I U E y q h f]
  |tup E =>
   obtain⟨i,Y,e,b,f⟩:=r;cases e;exact(oZ I b.sq c.sq).elim
  |eM=>cases q|ref n=>cases q|bu n=>cases q|fn x=>cases q|_=>simp[Rel]at r
 |.eM,p,v,y,_,_,_=>by cases y|.ref _,p,v,y,_,_,_=>by cases y|.bu _,p,v,y,_,_,_=>by cases y|.fn _ _,p,v,y,_,_,_=>by cases y
theorem ao.inj {O:List (Addr×Obj)}{Q:lU}{H:Hp}{s:lO}{C:Ix}(I:lb X O Q H s):∀(ds B:List D) {J:List V},bJ ds=true->bJ B=true->ao X.kw H C ds J->ao X.kw H C B J->ds=B
 | [],B,J,_,_,u,r=>by
  cases u;cases B with
  |nil=>rfl|cons e B=>simp[ao]at r
 |d::ds,B,J,y,q,u,r=>by
  obtain⟨v,j,rfl,b,c⟩:=u;cases B with
  |nil=>simp[ao]at r
  |cons e B =>
   obtain⟨k,a,f,h,i⟩:=r;cases f;simp only[bJ,l8]at y q;rw[Rel.inj I d e y.1 q.1 b h,ao.inj I ds B y.2 q.2 c i]
end
def Rel.zo {K H ι d v b t}(r:Rel K H ι d v)(f:lX v (.float b t)):False:=by
 cases d with
 |ay=>cases r;cases f|bl _=>cases r;cases f|int _=>cases r;obtain⟨t,e⟩:=f;cases e
 |str _=>cases r;obtain⟨t,e⟩:=f;cases e
 |tup _=>obtain⟨a,c,rfl,_⟩:=r;cases f
 |lst _=>obtain⟨a,c,rfl,_⟩:=r;cases f
 |eM=>obtain⟨a,rfl,_⟩:=r;cases f
 |ref _=>obtain⟨a,rfl,_⟩:=r;cases f
 |bu _=>obtain⟨a,rfl,_⟩:=r;cases f
 |fn _=>obtain⟨a,_,rfl,_⟩:=r;cases f
def in1_units (A:og):A.in1.units=A.units+1:=rfl
section
open SeqAt
def rB {v:Value}(A:RcAt T s h v k)(e:h=v->k=true)(f:∀b t,h ≠ .float b t):EqAt T s h v k:=λprog w E Q a=>by
 unfold eqBool;refine vn ?_;refine Ba (λc=>?_) (λ_=>?_)
 . rw[e (eq_of_beq c)]at a
   exact la (yo (lr a))
 . cases h with
   |float b t=>exact absurd rfl (f b t)|_=>exact la (A prog w E _ (XN a))
inductive Kd (s:lO):D->Value->Prop
 |ay:Kd s .ay .none
 |bl:∀b,Kd s (.bl b) (.bool b)
 |int:∀b t,Kd s (.int b) (.int b t)
 |str:∀b t,Kd s (.str b) (.str b t)
 |tup:∀xs a aw,s.heap.IsTuple a aw->Kd s (.tup xs) (.ref a)
 |lst:∀xs a aw,s.heap.IsList a aw->Kd s (.lst xs) (.ref a)
def kd {i:Ix}(I:lb X b y H s){d:D}{x:V}(f:flat d=true)(r:Rel X.kw H i d x)(c:lX x h):Kd s d h:=by
 cases d with
 |ay=>cases r;cases c;exact .ay|bl u=>cases r;cases c;exact .bl u|int u=>cases r;obtain⟨t,rfl⟩:=c;exact .int u t
 |str u=>cases r;obtain⟨t,rfl⟩:=c;exact .str u t
 |tup _=>obtain⟨a,_,rfl,q,_⟩:=r;cases c;obtain⟨_,_,t,_⟩:=I.tuple q.sq;exact .tup _ _ _ t
 |lst _=>obtain⟨a,_,rfl,q,_⟩:=r;cases c;obtain⟨_,_,t,_⟩:=I.list q.sq;exact .lst _ _ _ t.isList
 |_=>cases f
noncomputable def mix:D->D->Bool
 |.tup _,.tup _=>false|.lst _,.lst _=>false|_,_=>true
set_option maxHeartbeats 4000000 in
def gJ {a b : D}{v: Value}(c : Kd s a h)(i : Kd s b v)(m : mix a b = true)(hu : T.units + dep a < cLine): RcAt T s h v (bF a b) /\ RcNeAt T s h v (!bF a b):= by
 have hu : T.units < cLine := by omega
 cases c <;> cases i <;> first
   | (cases m; done)
   | (simp only[bF, adR, agx]
      with_reducible constructor <;> first
       |exact .none_none
       |exact .none_bool _
       |exact .none_int _ _
       |exact .none_str _ _
       |exact .none_tuple ‹_› (by omega)
       |exact .none_list ‹_› (by omega)
       |exact .bool_none _
       |exact .bool_bool _ _
       |exact .bool_int _ _ _
       |exact .bool_str _ _ _
       |exact .bool_tuple _ ‹_› (by omega)
       |exact .bool_list _ ‹_› (by omega)
       |exact .int_none _ _
       |exact .int_bool _ _ _
       |exact .int_int _ _ _ _
       |exact .int_str _ _ _ _
       |exact .int_tuple _ _ ‹_› (by omega)
       |exact .int_list _ _ ‹_› (by omega)
       |exact .str_none _ _
       |exact .str_bool _ _ _
       |exact .str_int _ _ _ _
       |exact .str_str _ _ _ _
       |exact .str_tuple _ _ ‹_› (by omega)
       |exact .str_list _ _ ‹_› (by omega)
       |exact .tuple_none ‹_› (by omega)
       |exact .tuple_bool _ ‹_› (by omega)
       |exact .tuple_int _ _ ‹_› (by omega)
       |exact .tuple_str _ _ ‹_› (by omega)
       |exact .tuple_list ‹_› ‹_› (by omega)
       |exact .list_none ‹_› (by omega)
       |exact .list_bool _ ‹_› (by omega)
       |exact .list_int _ _ ‹_› (by omega)
       |exact .list_str _ _ ‹_› (by omega)
       |exact .list_tuple ‹_› ‹_› (by omega))
section
variable {ι:Ix}
mutual
theorem Iy (I:lb X b y H s):∀(Z Q:D) {A:og} {x σ:V} {u v:Value},flat Z=true->flat Q=true->Rel X.kw H ι Z x->Rel X.kw H ι Q σ->lX x u->lX σ v->A.units+dep Z<cLine->RcAt A s u v (bF Z Q)/\RcNeAt A s u v (!bF Z Q)
 |.tup C,Q,A,x,σ,u,v,B,E,J,R,O,rv,hu=>by
  cases Q with
  |tup p =>
   obtain⟨a,U,rfl,hq,hr⟩:=J;cases O;obtain⟨z,eK,l,_⟩:=I.tuple hq.sq;obtain⟨a',Y,rfl,cE,eI⟩:=R;cases rv;obtain⟨i,rC,r,_⟩:=I.tuple cE.sq;simp only[dep]at hu;simp only[bF,qv];rw[show C.length=z.toArray.size by rw[ox,<- eK.length];exact hr.length,show p.length=i.toArray.size by rw[ox,<- rC.length];exact eI.length];have k:=sU I C p (A:=A.in1) B E hr eI eK rC (by rw[in1_units];omega);exact⟨.tuples l r (by omega) λj q o=>by simpa using k j (by simpa using q) (by simpa using o),.tuples l r (by omega) λj q o=>by simpa using k j (by simpa using q) (by simpa using o)⟩
  |_=>exact gJ (kd I B J O) (kd I E R rv) rfl hu
 |.lst C,Q,A,x,σ,u,v,B,E,J,R,O,rv,hu=>by
  cases Q with
  |lst p =>
   obtain⟨a,U,rfl,hq,hr⟩:=J;cases O;obtain⟨z,eK,l,_⟩:=I.list hq.sq;obtain⟨a',Y,rfl,cE,eI⟩:=R;cases rv;obtain⟨i,rC,r,_⟩:=I.list cE.sq;simp only[dep]at hu;simp only[bF,qv];rw[show C.length=z.toArray.size by rw[ox,<- eK.length];exact hr.length,show p.length=i.toArray.size by rw[ox,<- rC.length];exact eI.length];by_cases hs:z.toArray.size=i.toArray.size
   . rw[show(z.toArray.size == i.toArray.size)=true by simpa using hs,Bool.and_true,<- hs,Nat.min_self]
     have k:=sU I C p (A:=A.in1) B E hr eI eK rC (by rw[in1_units];omega);exact⟨.lists l.isList r.isList hs (by omega) λj q o=>by simpa using k j (by simpa using q) (by simpa using o),.lists l.isList r.isList hs (by omega) λj q o=>by simpa using k j (by simpa using q) (by simpa using o)⟩
   . rw[show(z.toArray.size == i.toArray.size)=false by simpa using hs,aim,agx]
     exact⟨.lists_lengths l.isList r.isList (by simpa using hs) (by omega),.lists_lengths l.isList r.isList (by simpa using hs) (by omega)⟩
  |_=>exact gJ (kd I B J O) (kd I E R rv) rfl hu
 |.ay,_,_,_,_,_,_,a,n,c,d,e,f,h=>gJ (kd I a c e) (kd I n d f) rfl h|.bl _,_,_,_,_,_,_,a,n,c,d,e,f,h=>gJ (kd I a c e) (kd I n d f) rfl h|.int _,_,_,_,_,_,_,a,n,c,d,e,f,h=>gJ (kd I a c e) (kd I n d f) rfl h|.str _,_,_,_,_,_,_,a,n,c,d,e,f,h=>gJ (kd I a c e) (kd I n d f) rfl h|.eM,_,_,_,_,_,_,a,n,c,d,e,f,h=>gJ (kd I a c e) (kd I n d f) rfl h|.ref _,_,_,_,_,_,_,a,n,c,d,e,f,h=>gJ (kd I a c e) (kd I n d f) rfl h|.bu _,_,_,_,_,_,_,a,n,c,d,e,f,h=>gJ (kd I a c e) (kd I n d f) rfl h|.fn _ _,_,_,_,_,_,_,a,n,c,d,e,f,h=>gJ (kd I a c e) (kd I n d f) rfl h
theorem sU (I:lb X b y H s):∀(C p:List D) {A:og} {U Y:List V} {us zs:List Value},bJ C=true->bJ p=true->ao X.kw H ι C U->ao X.kw H ι p Y->Vals U us->Vals Y zs->A.units+dM C<cLine ->
  ∀(j:Nat) (h1:j<us.length) (h2:j<zs.length),EqAt A s us[j] zs[j] (bF (C[j]?.getD .ay) (p[j]?.getD .ay))
 | [],p,A,U,Y,us,zs,_,_,J,_,O,_,_,j,h1,_=>by cases J;cases O;simp at h1
 |d::ds,p,A,U,Y,us,zs,B,E,J,R,O,rz,hu,j,h1,h2=>by
  obtain⟨v,o,rfl,a,h⟩:=J;simp only[dM]at hu;simp only[bJ,l8]at B;cases O with
  |cons Iz ZU =>
   cases p with
   |nil=>cases R;cases rz;simp at h2
   |cons e es =>
    obtain⟨w,wr,rfl,hw,c⟩:=R;simp only[bJ,l8]at E;cases rz with
    |cons UK ZV =>
     cases j with
     |zero =>
      have rc:=(Iy I d e (A:=A) B.1 E.1 a hw Iz UK (by omega)).1;simp only[List.getElem_cons_zero,ado,ahJ];refine rB rc (λi=>?_) (λn t f=>Rel.zo a (by rw[f]at Iz;exact Iz));subst i;have l:=Iz.inj UK;subst l;have k:=Rel.inj I d e B.1 E.1 a hw;subst k;exact mP d B.1
     |succ j =>
      have:=sU I ds es (A:=A) B.2 E.2 h c ZU ZV (by omega) j (by simpa using h1) (by simpa using h2);simpa using this
end
end
end
noncomputable def oEq (a b:D)(g:G):Option (D×G):=if(flat a&&flat b&&decide (dep a<=60))=true then some (.bl (bF a b),g)else none
def Sa (hu:X.A.units+64<cLine):bS X (tA .Eq) (dW X.kw oEq):=by
 intro r s B H x y v u Q I b f q;obtain⟨n,g,a,h,d,i,G0,c,e,q,p⟩:=q;unfold oEq at q;split at q
 . rename_i z
   simp only[l8,decide_eq_true_eq]at z;cases q;exact(Iy I a h z.1.1 z.1.2 c e b f (by omega)).1 _ _ _ _ ⟨.bl _,H,I,rfl,p H n _ Ext.refl G0 (by simp[Rel])⟩
 . cases q
noncomputable def gv:D->Bool
 |.ay=>true|_=>false
noncomputable def Gs (a b:D)(g:G):Option (D×G):=match b with|.ay=>some (.bl (gv a),g)|_=>none
noncomputable def Bl (a b:D)(g:G):Option (D×G):=match b with|.ay=>some (.bl (!gv a),g)|_=>none
def zq {K H ι d v}(r:Rel K H ι d v):decide (v=V.ay)=gv d:=by
 cases d with
 |ay=>cases r;rfl|bl _=>cases r;rfl|int _=>cases r;rfl|str _=>cases r;rfl|tup _=>obtain⟨a,b,rfl,_⟩:=r;rfl
 |lst _=>obtain⟨a,b,rfl,_⟩:=r;rfl
 |eM=>obtain⟨a,rfl,_⟩:=r;rfl
 |ref _=>obtain⟨a,rfl,_⟩:=r;rfl
 |bu _=>obtain⟨a,rfl,_⟩:=r;rfl
 |fn _=>obtain⟨a,_,rfl,_⟩:=r;rfl
def N3:bS X (tA .Is) (dW X.kw Gs):=by
 intro n s r H x y v u Q I a e q;obtain⟨B,g,i,f,d,h,G0,b,c,q,p⟩:=q;cases f with
 |ay =>
  cases c;simp only[Gs]at q;cases q;exact MO n s r H _ _ v u Q I a e ⟨rfl,by rw[zq b];exact p H B _ Ext.refl G0 (by simp[Rel])⟩
 |_=>cases q
def Kr:bS X (tA .IsNot) (dW X.kw Bl):=by
 intro n s r H x y v u Q I a e q;obtain⟨B,g,i,f,d,h,G0,b,c,q,p⟩:=q;cases f with
 |ay =>
  cases c;simp only[Bl]at q;cases q;refine JQ n s r H _ _ v u Q I a e ⟨rfl,?_⟩;rw[zq b];exact p H B _ Ext.refl G0 (by simp[Rel])
 |_=>cases q
noncomputable def bA (d:D)(g:G):Option (List D):=match d with
 |.tup c=>some c|.lst c=>some c|.ref n=>g[n]?|_=>none
def kX {K H ι g d v xs}(G0:aA K H ι g)(r:Rel K H ι d v)(h:bA d g=some xs):∃a p,v = .ref a/\(dF K H a p\/fu K H a p)/\ao K H ι xs p:=by
 cases d with
 |tup q=>cases h;obtain⟨a,p,rfl,b,c⟩:=r;exact⟨a,p,rfl,.inr b.sq,c⟩
 |lst q=>cases h;obtain⟨a,p,rfl,b,c⟩:=r;exact⟨a,p,rfl,.inl b.sq,c⟩
 |ref n =>
  obtain⟨a,rfl,f⟩:=r;obtain⟨p,e,i⟩:=G0.at h f;exact⟨a,p,rfl,.inl (.of e),i⟩
 |_=>cases h
noncomputable def d7 (a b:D)(g:G):Option (D×G):=match b with
 |.int i=>(bA a g).bind λc=>(cL c i).map λd=>(d,g)|_=>none
def Ks {K H ι}{i:List D}{d:D}(r:ao K H ι i j)(h:cL i M=some d):∃v,cL j M=some v/\Rel K H ι d v:=by unfold cL at h ⊢;rw[<- r.length];obtain⟨n,a,e⟩:=bind_some h;obtain⟨v,b,c⟩:=r.get e;exact⟨v,by rw[a];exact b,c⟩
def Kt:nD X (dW X.kw d7):=by
 intro value slice n s B H x y v u Q I f k q c;obtain⟨C,g,R,l,d,U,G0,z,E,q,p⟩:=q;cases l with
 |int i =>
  cases E;simp only[d7]at q;obtain⟨J,r,q⟩:=bind_some q;cases h2:cL J i with
  |none=>rw[h2]at q;cases q
  |some e =>
   rw[h2]at q;cases q;obtain⟨a,j,rfl,b,o⟩:=kX G0 z r;obtain⟨w,h,O⟩:=Ks o h2;have fin:=p H C w Ext.refl G0 O;rcases b with b|b
   . exact CP value slice n s B H _ _ v u Q I f k (.inl ⟨a,j,i,w,rfl,rfl,b,h,fin⟩) c
   . exact CP value slice n s B H _ _ v u Q I f k (.inr (.inl ⟨a,j,i,w,rfl,rfl,b,h,fin⟩)) c
 |_=>cases q
noncomputable def bM (ds:List D)(g:G):Option (D×G):=match ds with| [d]=>(bA d g).map λc=>(.int c.length,g)|_=>none
def N4:dX X (.builtin "len") (kS X.kw bM):=by
 intro u s x H E y Q I r q;obtain⟨B,g,ds,d,j,G0,h,q,p⟩:=q;cases ds with
 |nil=>cases q|cons e C =>
 cases C with
 |cons _ _=>cases q
 |nil =>
  simp only[bM]at q;cases n:bA e g with
  |none=>rw[n]at q;cases q
  |some J =>
   rw[n]at q;cases q;obtain⟨v,_,rfl,b,rfl⟩:=h;obtain⟨a,i,rfl,f,c⟩:=kX G0 b n;exact wj u s x H _ y Q I r ⟨a,i,rfl,f,by rw[<- c.length];exact p H B _ Ext.refl G0 (by simp[Rel])⟩
noncomputable def lC (ds:List D)(g:G):Option (D×G):=match ds with| [.int i,.int j]=>some (.int (if j<i then j else i),g)|_=>none
def N5 (c:X.calm=true):dX X (.builtin "min") (kS X.kw lC):=by
 intro h s i H v n Q I r q;obtain⟨u,g,ds,d,b,G0,a,q,p⟩:=q;unfold lC at q;split at q
 . cases q
   obtain⟨_,_,rfl,rfl,_,_,rfl,rfl,rfl⟩:=a;exact CI c h s i H _ n Q I r ⟨_,_,rfl,p H u _ Ext.refl G0 (by simp[Rel])⟩
 . cases q
noncomputable def qw (ds:List D)(g:G):Option (D×G):=match ds with| [.int i]=>some (.int i,g)| [.bl k]=>some (.int (if k then 1 else 0),g)|_=>none
def N6:dX X (.type "int") (kS X.kw qw):=by
 intro c s h H u i Q I r q;obtain⟨n,g,ds,d,b,G0,a,q,p⟩:=q;unfold qw at q;split at q
 . cases q
   obtain⟨_,_,rfl,rfl,rfl⟩:=a;exact ua c s h H _ i Q I r (.inl ⟨_,rfl,p H n _ Ext.refl G0 (by simp[Rel])⟩)
 . cases q
   obtain⟨_,_,rfl,rfl,rfl⟩:=a;exact ua c s h H _ i Q I r (.inr ⟨_,rfl,p H n _ Ext.refl G0 (by simp[Rel])⟩)
 . cases q
noncomputable def gG (ds:List D)(g:G):Option (D×G):=match ds with| [d]=>(bA d g).bind λc=>if aC c.length=true then some (.tup c,g)else none|_=>none
def N7:dX X (.type "tuple") (kS X.kw gG):=by
 intro B s C H U E Q I r q;obtain⟨J,g,ds,d,Y,G0,y,q,p⟩:=q;cases ds with
 |nil=>cases q|cons e O =>
 cases O with
 |cons _ _=>cases q
 |nil =>
  simp only[gG]at q;obtain⟨Z,h,q⟩:=bind_some q;split at q
  . rename_i z
    cases q;obtain⟨v,_,rfl,c,rfl⟩:=y;cases e with
    |tup zs =>
     cases h;obtain⟨a,n,rfl,b,i⟩:=c;exact nF B s C H _ E Q I r ⟨a,n,rfl,.inr ⟨b.sq,p H J _ Ext.refl G0 (by simp only[Rel];exact⟨a,n,rfl,b,i⟩)⟩⟩
    |_ =>
     obtain⟨a,n,rfl,b,i⟩:=kX G0 c h;have k:dF X.kw H a n:=by
      rcases b with b|b
      . exact b
      . exfalso
        first
         | (cases h;done)
         | (obtain⟨u,IA,j,R,_⟩:=c;cases j;exact oZ I b R.sq)
         | (obtain⟨u,j,o⟩:=c;cases j;obtain⟨ws,x,h2⟩:=G0.at h o;exact oZ I b (.of x))
     refine nF B s C H _ E Q I r ⟨a,n,rfl,.inl ⟨k,λl f=>p _ _ _ (Ext.lay f) (G0.lay f) ?_⟩⟩;simp only[Rel];exact⟨l,n,rfl,.inl ⟨.inl aT,G0.fresh f⟩,ao.ext (Ext.lay f) _ i⟩
  . cases q
end
end
variable {A l:List D}{r:G}{c:D}{k:Sg}{C:FE}{u:Fn}
section
open PyProof.Rows
open Sem (wp)
open Builtin
variable {Z:TO}
def bap (l b:Addr)(p u:Array Value)(n q:Nat)(v r:Option Addr)(x o:Array (Option Value))(k:p.isEmpty=true):
  Meets (tW.«tuple.__add__» ⟨[.ref l,.ref b],[]⟩) (λ_ R s=>s.heap.get? l=some { cls:=.type "tuple",dict:=v,data:=.seq p n,slots:=x }/\s.heap.get? b=some { cls:=.type "tuple",dict:=r,data:=.seq u q,slots:=o }/\R (.ok (.ret (AJ b))) { s with heap:=s.heap,toks:=s.toks }):=
 .of_wp λprog w A R s h=>by obtain⟨j,g,d,i,os⟩:=s;obtain⟨a,c,h⟩:=h;have y:=adO;have B:=adk;have f:=agk;have C:=AutoSeq1.sub_tuple_list;have e:=AutoSeq1.sub_list_tuple;wp_walk using M9 a,M9 c;exact⟨_,rfl,h⟩
def qx:fillsNumberSlot (.type "tuple") "mul" = pure false :=
 afO (id:="tuple.__mul__") (r:=some (.builtin "tuple.__rmul__")) F.slot_tuple_mul.lookup (by decide +kernel) F.slot_tuple_rmul.lookup (by decide +kernel)
def wO:agH (.type "tuple")=pure (some (.builtin "tuple.__mul__")):=by unfold agH;rw[aeC (T:="tuple") (name:="__mul__") (id:="tuple.__mul__") F.slot_tuple_mul.lookup (by decide +kernel),aeC (T:="tuple") (name:="__rmul__") (id:="tuple.__rmul__") F.slot_tuple_rmul.lookup (by decide +kernel)];rfl
def vd (a:Int)(t:Tok)(l:Addr)(p:Array Value)(n:Nat)(i:Option Addr)(f:Array (Option Value)):
  Meets (tW.«int.__mul__» ⟨[.int a t,.ref l],[]⟩) (λ_ R s=>s.heap.get? l=some { cls:=.type "tuple",dict:=i,data:=.seq p n,slots:=f }/\R (.ok (.ret agI)) s):=
 .of_wp λprog w A R s h=>by obtain⟨e,g,d,c,os⟩:=s;obtain⟨b,h⟩:=h;wp_walk;exact⟨_,rfl,h⟩
def Bm (l:Addr)(p:Array Value)(n:Nat)(j:Option Addr)(i:Array (Option Value))(x:Int)(u:Tok)(e:¬(decide (x < -(2 ^ 63))||decide (x>=2 ^ 63))=true)(q:¬(p.isEmpty||x == 1)=true)(r:¬(decide (x<=0)||p.isEmpty)=true)
  (f:¬(p.size:Int)*x>(2 ^ 63-1) / 8) (k:¬agl ((p.size:Int)*x)=true) (o:((m6 x.toNat p).foldl (· ++ ·) #[]).size<=mK):
  Meets (tW.«tuple.__mul__» ⟨[.ref l,.int x u],[]⟩) (λ_ R s=>s.heap.get? l=some { cls:=.type "tuple",dict:=j,data:=.seq p n,slots:=i }/\R (.ok (.ret (AJ s.heap.objs.size))) { s with heap:=s.heap.push { cls:=tO "tuple",data:=Data.seq ((m6 x.toNat p).foldl (· ++ ·) #[]) },toks:=s.toks }):=
 .of_wp λprog w A R s h=>by
  obtain⟨c,g,d,b,os⟩:=s;obtain⟨a,h⟩:=h;have v:=adO;have y:=adk
  wp_walk using M9 a
  refine adY (decide_eq_false e) ?_
  wp_walk using M9 a
  refine adY (decide_eq_false f) ?_
  wp_walk using M9 a
  exact⟨_,rfl,h⟩
def yJ (l:Addr)(p:Array Value)(n:Nat)(i:Option Addr)(f:Array (Option Value))(x:Int)(u:Tok)(e:¬(decide (x < -(2 ^ 63))||decide (x>=2 ^ 63))=true)(j:(p.isEmpty||x == 1)=true):
  Meets (tW.«tuple.__mul__» ⟨[.ref l,.int x u],[]⟩) (λ_ R s=>s.heap.get? l=some { cls:=.type "tuple",dict:=i,data:=.seq p n,slots:=f }/\R (.ok (.ret (AJ l))) { s with heap:=s.heap,toks:=s.toks }):=
 .of_wp λprog w A R s h=>by
  obtain⟨c,g,d,b,os⟩:=s;obtain⟨a,h⟩:=h;have q:=adO;have r:=adk
  wp_walk using M9 a
  refine adY (decide_eq_false e) ?_
  wp_walk using M9 a
  exact⟨_,rfl,h⟩
def yK (l:Addr)(p:Array Value)(n:Nat)(i:Option Addr)(f:Array (Option Value))(x:Int)(u:Tok)(e:¬(decide (x < -(2 ^ 63))||decide (x>=2 ^ 63))=true)(j:¬(p.isEmpty||x == 1)=true)(k:(decide (x<=0)||p.isEmpty)=true):
  Meets (tW.«tuple.__mul__» ⟨[.ref l,.int x u],[]⟩) (λ_ R s=>s.heap.get? l=some { cls:=.type "tuple",dict:=i,data:=.seq p n,slots:=f }/\R (.ok (.ret (AJ s.heap.objs.size))) { s with heap:=s.heap.push { cls:=tO "tuple",data:=Data.seq #[] },toks:=s.toks }):=
 .of_wp λprog w A R s h=>by
  obtain⟨c,g,d,b,os⟩:=s;obtain⟨a,h⟩:=h;have q:=adO;have r:=adk
  wp_walk using M9 a
  refine adY (decide_eq_false e) ?_
  wp_walk using M9 a
  exact⟨_,rfl,h⟩
noncomputable def Sb (K:KW):R2:=λx y H Q=>∃a k c,x = .int k/\y = .ref a/\fu K H a c /\ -(2 ^ 63)<=k/\k<2 ^ 63/\c.length*k.toNat<=16777216 /\
 ((c = []\/k=1)->Q (.ref a) H)/\(c ≠ []->k<=0->∀p,H p=none->Q (.ref p) (upd H p (.tup [])))/\(c ≠ []->2<=k->∀p,H p=none->Q (.ref p) (upd H p (.tup (m6 k.toNat c).flatten)))
def Ku:bS X (th .Mult) (Sb X.kw):=by
 intro a8 s σ H x y v u Q I R Y h;obtain⟨a,k,B,rfl,rfl,hq,h1,h2,l,q1,Z,q2⟩:=h;cases Y;obtain⟨t,rfl⟩:=R;obtain⟨c,r,ht,ZX⟩:=I.tuple hq;have E:=r.length;obtain⟨⟨cls,j,data,i⟩,f,J,n,hd⟩:=id ht;simp only at J hd;subst J hd;have o:¬(decide (k < -(2 ^ 63))||decide (k>=2 ^ 63))=true:=by rw[wt,decide_eq_true_eq,decide_eq_true_eq];omega
 refine PySem.lm_binaryOp_repeat_right (T:="tuple") (U:="int") (by decide) (λs'=>afL s' k t) ⟨_,f,rfl⟩ F.fills_int_mul qx F.slot_int_mul PySem.lm_noRepeat_int wO F.slot_int_index.lookup
   (Q7 F.slot_int_mul (afL s k t) F.entry_int_mul (F.args_int_mul_2 _ _) (vd k t a c.toArray n j i) ⟨f,rfl,⟨_,f,rfl⟩,?_⟩)
 by_cases p:B = []\/k=1
 . refine Q7 F.slot_tuple_mul ⟨_,f,rfl⟩ F.entry_tuple_mul (F.args_tuple_mul_2 _ _) (yJ a c.toArray n j i k t o ?_) ⟨f,.ref a,H,I,rfl,q1 p⟩
   rcases p with p|p
   . subst p
     cases r;simp
   . subst p;simp
 . have q:B ≠ []:=λe=>p (.inl e)
   have N9:k≠1:=λe=>p (.inr e);have hi:c ≠ []:=λe=>q (by subst e;cases r;rfl);have n1:¬(c.toArray.isEmpty||k == 1)=true:=by simp[hi,N9]
   have fresh:H s.heap.objs.size=none:=I.aY.fresh (mn _);by_cases C:k<=0
   . refine Q7 F.slot_tuple_mul ⟨_,f,rfl⟩ F.entry_tuple_mul (F.args_tuple_mul_2 _ _) (yK a c.toArray n j i k t o n1 (by simp[C])) ⟨f,?_⟩
     refine⟨.ref _,_,I.laid (t':=s.toks) (λb u e=>nz _ e) (mn _) ?_,rfl,Z q C _ fresh⟩;exact⟨ro _,[],.nil,⟨_,pR _ rfl,rfl,⟨_,rfl⟩,rfl⟩⟩
   . have O:ahU (λx1 x2=>x1++x2) #[] (m6 k.toNat c.toArray)=(m6 k.toNat c).flatten.toArray:=by
       have:=bam c k.toNat [];rw[P_]at this;exact this
     have hs:mK=16777216:=HX;have jH:(c.length:Int)*k<=16777216:=by have z:((B.length*k.toNat:Nat):Int)<=16777216:=Int.ofNat_le.mpr l;rw[ah0,UI (by omega),E]at z;exact z
     refine Q7 F.slot_tuple_mul ⟨_,f,rfl⟩ F.entry_tuple_mul (F.args_tuple_mul_2 _ _) (Bm a c.toArray n j i k t o n1 (by simp[C,hi]) (by rw[ox];omega) ?_ ?_) ⟨f,?_⟩
     . rw[ox]
       unfold agl;simp;omega
     . rw[O,ox,len_rep,<- E,XG,hs];exact l
     . rw[O]
       refine⟨.ref _,_,I.laid (t':=s.toks) (λb u e=>nz _ e) (mn _) ?_,rfl,q2 q (by omega) _ fresh⟩;exact⟨by rw[len_rep,XG,hs];exact l,_,r.rep k.toNat,⟨_,pR _ rfl,rfl,⟨_,rfl⟩,rfl⟩⟩
theorem ao.rep {K H ι}{c:List D}{h:List V}(r:ao K H ι c h):∀k:Nat,ao K H ι (m6 k c).flatten (m6 k h).flatten
 | 0=>by simp[ao]|k+1=>by rw[VQ,VQ,F1,F1];exact ao.append r (ao.rep r k)
noncomputable def bj (a b:D)(g:G):Option (D×G):=match a,b with
 |.int i,.int j=>if cu i j=true then some (.int (i*j),g)else none|.int k,.tup c=>if(fR k&&aC (c.length*k.toNat))=true then some (.tup (m6 k.toNat c).flatten,g)else none|_,_=>none
def wR:bS X (th .Mult) (dW X.kw bj):=by
 intro E s J H x y v u Q I O R q;obtain⟨C,g,d1,d2,d,Y,G0,h,l,q,p⟩:=q;unfold bj at q;split at q
 . split at q
   . rename_i i j z
     exact Kp E s J H x y v u Q I O R ⟨C,g,.int i,.int j,d,Y,G0,h,l,by simp only[bt];rw[if_pos z];exact q,p⟩
   . cases q
 . split at q
   . rename_i k n z
     simp only[l8]at z;have z1:=fR.and z.1;have Z:=aC.le z.2;cases q;simp only[Rel]at h l;obtain⟨a,U,rfl,r,b⟩:=l;subst h;have o:=b.length;have new:∀{zs:List D} {B:List V},ao X.kw H C zs B->zs=(m6 k.toNat n).flatten->∀q,H q=none->Q (.ref q) (upd H q (.tup B)):=fun {zs B} rz ez q e=>by subst ez;refine p _ _ _ (Ext.lay e) (G0.lay e) ?_;simp only[Rel];exact⟨q,B,rfl,.inl ⟨.inl aT,G0.fresh e⟩,ao.ext (Ext.lay e) _ rz⟩
     refine Ku E s J H _ _ v u Q I O R ⟨a,k,U,rfl,rfl,r.sq,(by omega),(by omega),by rw[<- o];exact Z,λc=>?_,λhx hk=>?_,λhx hk=>?_⟩
     . refine p H C _ Ext.refl G0 ?_
       simp only[Rel];refine⟨a,U,rfl,r,?_⟩;rcases c with c|c
       . subst c
         have:n = []:=adu (by simpa using o);subst this;have f:(m6 k.toNat ([]:List D)).flatten = []:=by simp
         rw[f];exact b
       . subst c
         have f:(m6 (1:Int).toNat n).flatten=n:=by simp
         rw[f];exact b
     . refine new (zs:=[]) (by simp[ao]) ?_
       have:k.toNat=0:=by omega
       rw[this];simp
     . exact new (b.rep k.toNat) rfl
   . cases q
 . cases q
def Gu:bS X (th .Add) (λx y H Q=>∃a b B,x = .ref a/\y = .ref b/\fu X.kw H a []/\fu X.kw H b B/\Q (.ref b) H):=by
 intro Z s σ H x y v u Q I C E h;obtain⟨a,b,B,rfl,rfl,z,o,q⟩:=h;cases C;cases E;obtain⟨J,O,p1,_⟩:=I.tuple z;obtain⟨k,r2,R,_⟩:=I.tuple o;obtain⟨⟨cls,U,data,r⟩,c,f,n,hd⟩:=id p1;obtain⟨⟨MU,Y,data2,l⟩,e,i,j,p⟩:=id R;simp only at f hd i p;subst f hd i p;exact afW ⟨_,c,rfl⟩ ⟨_,e,rfl⟩ afX agN aeo aek (ad4 _ _)
  (bap a b J.toArray k.toArray n j U Y r l (by cases O;simp)) ⟨c,e,.ref b,H,I,rfl,q⟩
def Kv:bS X (th .Add) (λx y H Q=>∃a b C E,x = .ref a/\y = .ref b/\dF X.kw H a C/\dF X.kw H b E/\C.length+E.length<=mK /\ ∀p,H p=none->Q (.ref p) (upd H p (.lst (C++E)))):=by
 intro a8 s σ H x y v u Q I O R h;obtain⟨a,b,C,E,rfl,rfl,ha,hb,l,q⟩:=h;cases O;cases R;obtain⟨f,o,p1,_⟩:=I.list ha;obtain⟨c,r,U,_⟩:=I.list hb;obtain⟨⟨cls,dd,data,sl⟩,n,i,z,j,hd⟩:=id p1;obtain⟨⟨MU,wd,data2,Y⟩,n2,k,J,N_,B⟩:=id U;simp only at z hd J B j N_;subst z hd J B j N_;have e:f.toArray++c.toArray=(f++c).toArray:=by simp
 have Z:f.length+c.length<=mK:=by rw[<- o.length,<- r.length];exact l
 refine afW ⟨_,i,rfl⟩ ⟨_,k,rfl⟩ noFill_list_add seq_list_add PySem.F.slot_list_add PySem.F.entry_list_add (PySem.F.args_list_add_2 _ _) (list_addW a b f.toArray c.toArray n n2 none none sl Y (by simpa using Z)) ⟨i,k,?_⟩;rw[e];exact⟨.ref _,_,I.WR (t':=s.toks) (o.append r) (by rw[nN];exact l),rfl,q _ I.fresh⟩
noncomputable def i8 (d:D)(g:G):Option (List D):=match d with
 |.lst c=>some c|.ref n=>g[n]?|_=>none
def mQ {K H ι g d v xs}(G0:aA K H ι g)(r:Rel K H ι d v)(h:i8 d g=some xs):∃a p,v = .ref a/\dF K H a p/\ao K H ι xs p:=by
 cases d with
 |lst q =>
  cases h;obtain⟨a,p,rfl,c,e⟩:=r;exact⟨a,p,rfl,c.sq,e⟩
 |ref n =>
  obtain⟨a,rfl,f⟩:=r;obtain⟨p,b,i⟩:=G0.at h f;exact⟨a,p,rfl,.of b,i⟩
 |_=>cases h
noncomputable def aJ (a b:D)(g:G):Option (D×G):=match a,b with
 |.int i,.int j=>some (.int (i+j),g)|.tup c,.tup h=>if aC (c.length+h.length)=true then some (.tup (c++h),g)else none|.str i,.str j=>if aC (i.length+j.length)=true then some (.str (i++j),g)else none
 |a,b=>match i8 a g,i8 b g with
  |some c,some h=>if aC (c.length+h.length)=true then some (.lst (c++h),g)else none|_,_=>none
def Oa:bS X (th .Add) (dW X.kw aJ):=by
 intro n s B H x y v u Q I r C q;obtain⟨R,g,d1,d2,d,g',G0,k,l,q,p⟩:=q;unfold aJ at q;split at q
 . rename_i i j
   exact Ko n s B H x y v u Q I r C ⟨R,g,.int i,.int j,d,g',G0,k,l,q,p⟩
 . split at q
   . rename_i Y Z z
     cases q;simp only[Rel]at k l;obtain⟨a,E,rfl,o,f⟩:=k;obtain⟨b,J,rfl,O,h⟩:=l;by_cases hx:E = []
     . subst hx
       have:Y = []:=adu (by simpa using f.length);subst this;refine Gu n s B H _ _ v u Q I r C ⟨a,b,J,rfl,rfl,o.sq,O.sq,p H R _ Ext.refl G0 ?_⟩;simp only[Rel,P_];exact⟨b,J,rfl,O,h⟩
     . refine JY n s B H _ _ v u Q I r C ⟨a,b,E,J,rfl,rfl,o.sq,O.sq,hx,by rw[<- f.length,<- h.length];exact aC.le z,λe=>?_,λe U c=>?_⟩
       . subst e
         have:Z = []:=adu (by simpa using h.length);subst this;refine p H R _ Ext.refl G0 ?_;simp only[Rel,wz];exact⟨a,E,rfl,o,f⟩
       . refine p _ _ _ (Ext.lay c) (G0.lay c) ?_
         simp only[Rel];exact⟨U,_,rfl,.inl ⟨.inl aT,G0.fresh c⟩,ao.ext (Ext.lay c) _ (ao.append f h)⟩
   . cases q
 . split at q
   . rename_i x1 y1 z
     cases q;simp only[Rel]at k l;subst k l;exact A3 n s B H _ _ v u Q I r C ⟨x1,y1,rfl,rfl,aC.le z,p H R _ Ext.refl G0 (by simp[Rel])⟩
   . cases q
 . split at q
   . rename_i Y Z e1 e2
     split at q
     . rename_i z
       cases q;obtain⟨a,E,rfl,o,f⟩:=mQ G0 k e1;obtain⟨b,J,rfl,O,h⟩:=mQ G0 l e2;refine Kv n s B H _ _ v u Q I r C ⟨a,b,E,J,rfl,rfl,o,O,by rw[<- f.length,<- h.length];exact aC.le z,λU c=>?_⟩;refine p _ _ _ (Ext.lay c) (G0.lay c) ?_;simp only[Rel];exact⟨U,_,rfl,.inl ⟨.inl aT,G0.fresh c,G0.iw c⟩,ao.ext (Ext.lay c) _ (ao.append f h)⟩
     . cases q
   . cases q
abbrev FO:=Sg->G->Option (Option Int×G)
inductive UL (K:KW)(f:FO)(σ:lU)(H:Hp)(Q:(Option Int->Hp->Prop)):Prop
 |mk (ι:Ix) (σd:Sg) (g:G) (o:Option Int) (g':G) (h0:aA K H ι g) (h1:bQ K H ι σd σ) (h2:f σd g=some (o,g')) (h3:qW K H ι g' (Q o)):UL K f σ H Q
structure DO (X:Cx)(e:Option Expr)(f:FO):Prop where of ::
 un:PO X e (UL X.kw f)
def PO.imp {e:Option Expr}{n:TO}(h:PO X e Z)(i:∀c H Q,n c H Q->Z c H Q):PO X e n:=λp s c H Q I q=>h p s c H Q I (i c H Q q)
noncomputable def eO:FO:=λ_ g=>some (none,g)
noncomputable def bq (f:FE):FO:=λc g=>(f c g).bind λr=>match r.1 with|.int i=>some (some i,r.2)|_=>none
def Kw:DO X none eO:=.of (PO.imp JW λn H Q h=>by obtain⟨i,b,g,o,a,G0,c,h,p⟩:=h;cases h;exact p H i Ext.refl G0)
def zr (h:DE X e C):DO X (some e) (bq C):=.of (PO.imp (JX h.un) λu H Q h=>by
 obtain⟨x,s,g,o,q,G0,l,h,p⟩:=h;obtain⟨⟨d,y⟩,c,h⟩:=bind_some h;cases d with
 |int i =>
  cases h;exact tD.bind G0 l c λn k v a b r j=>⟨i,by simpa[Rel]using j,p n k a b⟩
 |_=>cases h)
noncomputable def qt (c:List D)(a b:Option Int):List D:=(c.drop (bz c.length 0 a)).take (bz c.length c.length b-bz c.length 0 a)
noncomputable def lR (n:Nat)(b a:Option Int):Bool:=decide (bz n 0 b=0)&&decide (bz n n a=n)
noncomputable def Ob (d:D)(b a:Option Int)(g:G):Option (D×G):=match d with
 |.tup c=>if lR c.length b a=true then none else some (.tup (qt c b a),g)|.lst c=>some (.lst (qt c b a),g)|.ref n=>match g[n]? with|some c=>some (.lst (qt c b a),g)|none=>none
 |_=>none
def ao.Oc {K H ι}{c:List V}(r:ao K H ι A c)(b a:Option Int):ao K H ι (qt A b a) (nY c b a):=by unfold qt nY;rw[<- r.length];exact ao.take _ (ao.drop _ r)
noncomputable def Od (K:KW):V->Option Int->Option Int->Hp->VK->Prop:=λx c a H Q=>MX K x c a H Q\/M7 K x c a H Q
def Kx:pT X (Od X.kw):=by
 intro n s p H x v e a q b j Q I c f i pu h;rcases h with h|h
 . exact MY n s p H x v e a q b j Q I c f i pu h
 . exact J0 n s p H x v e a q b j Q I c f i pu h
def big (I:lb X b y H s):Qm<s.heap.objs.size:=by obtain⟨o,c,h,e,_⟩:=I.mod.glob;have a:=nC (I.bk _ _ e);exact afZ (by decide) a
def Gv:DE X (.Dict [] [] a) (fC .eM):=.of (by
 intro n s q H Q I h;obtain⟨r,c,g,d,i,G0,f,h,p⟩:=h;cases h;have hf:H s.heap.objs.size=none:=I.aY.fresh (mn _);refine wpAny_Dict_empty ⟨.ref s.heap.objs.size,upd H s.heap.objs.size (.dK []),I.laid (t':=s.toks) (λb u e=>nz _ e) (mn _) ?_,rfl,p _ _ _ (Ext.lay hf) (G0.lay hf) ?_⟩
 . exact⟨ro _,beq_eq_false_iff_ne.mpr (qP (p8 (big I))),[],.nil,Heap.DictOf.new _⟩
 . simp only[Rel]
   exact⟨_,rfl,aT,G0.fresh hf⟩)
end
section
open PyProof.Rows
noncomputable def oLt:=rA λi j=>decide (i<j)
noncomputable def oLe:=rA λi j=>decide (i<=j)
noncomputable def Dy:=rA λi j=>decide (j<i)
noncomputable def Dz:=rA λi j=>decide (j<=i)
noncomputable def sW (S:Scope)(a N:List Str)(fr:List (Option Nat))(c:Scope):Bool :=
 decide (c.kind = .function)&&c.names.all (λy=>!decide (y.2 = .cell)||decide (c.names.lookup y.1=some .cell))&&c.names.all (λy=>!decide (y.2 = .local)||decide (c.names.lookup y.1=some .local)) &&
 c.names.all (λy=>!decide (y.2 = .free)||(decide (c.names.lookup y.1=some .free)&&(decide (S.names.lookup y.1=some .cell)||decide (S.names.lookup y.1=some .free)))) &&
 decide (fr.length=N.length)&&(nJ fr.length).all (λj=>match fr[j]? with
  |some (some i)=>match N[j]? with
   |some x=>decide (a[i]? = some x)&&decide (c.names.lookup x=some .free)|none=>false
  |_=>true)
def DB {S:Scope}{s:List Str}(u:X.env.scope=S)(v:X.N=s)(h:sW S s Z I O=true):eZ X Z I O:=by
 unfold sW at h;simp only[l8,decide_eq_true_eq,HL,wt,wQ,decide_eq_false_iff_not]at h;obtain⟨⟨⟨⟨⟨c,r⟩,l⟩,o⟩,b⟩,f⟩:=h;refine⟨c,λy a e=>?_,λy a e=>?_,λy a e=>?_,b,λj i hf=>?_⟩
 . rcases r y a with z|z
   . exact absurd e z
   . exact z
 . rcases l y a with z|z
   . exact absurd e z
   . exact z
 . rcases o y a with z|z
   . exact absurd e z
   . refine⟨z.1,?_⟩
     show X.env.scope.names.lookup y.1=_\/X.env.scope.names.lookup y.1=_;rw[u];exact z.2
 . have q:j∈nJ I.length:=ug.mpr (m5.mp hf).1
   have:=f j q;rw[hf]at this;dsimp only at this;split at this
   . rename_i x k
     simp only[l8,decide_eq_true_eq]at this;exact⟨x,k,by rw[v];exact this.1,this.2⟩
   . cases this
noncomputable def cO (f:FE):FI:=λh g=>(f h g).bind λr=>match r.1 with|.tup c=>some (c,r.2)|.lst c=>some (c,r.2)|_=>none
def wV (o:DE X K C):DI X e K (cO C):=.of (by
 intro n s q H R I h;obtain⟨r,b,g,ds,a,G0,i,h,p⟩:=h;obtain⟨⟨j,v⟩,f,c⟩:=bind_some h;cases j with
 |tup u =>
  have tg:vp C b g=some (ds,a):=by unfold vp;rw[f];exact c
  exact(NL o).un n s q H R I ⟨r,b,g,ds,a,G0,i,tg,p⟩
 |lst u =>
  have tg:vq C b g=some (ds,a):=by unfold vq;rw[f];exact c
  exact(NM o).un n s q H R I ⟨r,b,g,ds,a,G0,i,tg,p⟩
 |_=>cases c)
end
section
variable {Z T:FT}{m:List D->G->Option (D×G)}{b R:FS}{Y:FE}{X:Bool}{t:FG}{U:FA}{j:Int}{Q:pX}{a:FI}{g:G}
@[simp] def Bn {d}:fC d k g=some (d,g):=rfl
@[simp] def o_:aa i k g=(match k[i]? with|some (some d)=>some (d,g)|_=>none):=rfl
@[simp] def wW {o:D->D->G->Option (D×G)}:ak o C Y k g=(C k g).bind λr=>(Y k r.2).bind λq=>o r.1 q.1 q.2:=rfl
@[simp] def ZY {o:D->G->Option (D×G)}:n9 o C k g=(C k g).bind λr=>o r.1 r.2:=rfl
@[simp] def ZZ:d6 (some (.bl X,g))=some (X,g):=rfl
@[simp] def dU:aD C k g=d6 (C k g):=rfl
@[simp] def zt:lz C k g=(C k g).bind λr=>(jD r.1 r.2).map λb=>(b,r.2):=rfl
@[simp] def UM:jD (.bl X) g=some X:=rfl
@[simp] def Sd:jD (.int M) g=some (M != 0):=rfl
@[simp] def Ky:wB Z T k g=(Z k g).bind λr=>if r.1=true then T k r.2 else some (false,r.2):=rfl
@[simp] def Oe:C8 Z T k g=(Z k g).bind λr=>if r.1=true then some (true,r.2)else T k r.2:=rfl
@[simp] def YL:F9 Z k g=(Z k g).bind λr=>some (!r.1,r.2):=rfl
@[simp] def Gw:mN C Y k g=(d6 (C k g)).bind λr=>if r.1=true then Y k r.2 else some (.bl false,r.2):=rfl
@[simp] def YM:F_ C Y k g=(d6 (C k g)).bind λr=>if r.1=true then some (.bl true,r.2)else Y k r.2:=rfl
@[simp] def sX:lA Z C Y k g=(Z k g).bind λr=>if r.1=true then C k r.2 else Y k r.2:=rfl
@[simp] def dq:aj k g=some ([],g):=rfl
@[simp] def cw:af C U k g=(C k g).bind λr=>(U k r.2).bind λq=>some (r.1::q.1,q.2):=rfl
@[simp] def jq:aI m U k g=(U k g).bind λr=>m r.1 r.2:=rfl
def Kz:aC i=decide (i<=16777216):=rfl
@[simp] def Se (h:i<=16777216):aC i=true:=decide_eq_true h
@[simp] def UN:ax A g=if aC A.length=true then some (.tup A,g)else none:=rfl
@[simp] def UO:jQ A g=if aC A.length=true then some (.lst A,g)else none:=rfl
@[simp] def UP:mkRef A g=if aC A.length=true then some (.ref g.length,g ++ [A])else none:=rfl
@[simp] def Xa:aP k g=some (.nx,k,g):=rfl
@[simp] def sY:az b R k g=(b k g).bind λr=>match r.1 with|.nx=>R r.2.1 r.2.2|_=>some r:=rfl
@[simp] def zu:aK C k g=(C k g).bind λr=>some (.rt r.1,k,r.2):=rfl
@[simp] def wX:bU Z b R k g=(Z k g).bind λr=>if r.1=true then b k r.2 else R k r.2:=rfl
@[simp] def Gx:i7 C k g=(C k g).bind λr=>some (.nx,k,r.2):=rfl
@[simp] def pb:aF C t k g=(C k g).bind λr=>(t r.1 k r.2).bind λq=>some (.nx,q.1,q.2):=rfl
@[simp] def abH:gN i c k g=some (k.set i (some c),g):=rfl
@[simp] def Xc:gu [] k g=some (k,g):=rfl
@[simp] def UQ:bZ t Q (c::A) k g=(t c k g).bind λq=>Q A q.1 q.2:=rfl
@[simp] def abI:gT i Q (.tup A) k g=if A.length=i then Q A k g else none:=rfl
@[simp] def qy:aq u U k g=(U k g).bind λr=>u r.1 r.2:=rfl
@[simp] def lS:fO a t b k g=(a k g).bind λr=>forL t b r.1 k r.2:=rfl
@[simp] def YN:cO C k g=(C k g).bind λr=>match r.1 with|.tup c=>some (c,r.2)|.lst c=>some (c,r.2)|_=>none:=rfl
@[simp] def Xd:vp C k g=(C k g).bind λr=>match r.1 with|.tup c=>some (c,r.2)|_=>none:=rfl
@[simp] def Xe:vq C k g=(C k g).bind λr=>match r.1 with|.lst c=>some (c,r.2)|_=>none:=rfl
@[simp] def gR:bO m a I t Z C k g=(a k g).bind λr=>if aC r.1.length=true then(cR t Z C r.1 (cz I k) r.2).bind λq=>m q.1 q.2 else none:=rfl
@[simp] def YO:bR A g=some (.lst A,g):=rfl
@[simp] def Xf:cG k g=some (true,g):=rfl
@[simp] def Z0 {c:Int->Int->Bool}{f:Int->Int->Int}:bt c f (.int M) (.int j) g=if c M j=true then some (.int (f M j),g)else none:=rfl
@[simp] def Xg:bV M j=true:=rfl
@[simp] def Z1:oLt (.int M) (.int j) g=some (.bl (decide (M<j)),g):=rfl
@[simp] def Z2:oLe (.int M) (.int j) g=some (.bl (decide (M<=j)),g):=rfl
@[simp] def Z3:Dy (.int M) (.int j) g=some (.bl (decide (j<M)),g):=rfl
@[simp] def Z4:Dz (.int M) (.int j) g=some (.bl (decide (j<=M)),g):=rfl
@[simp] def YQ:kq (.int M) g=some (.int (-M),g):=rfl
@[simp] def pd:aJ (.int M) (.int j) g=some (.int (M+j),g):=rfl
@[simp] def KA:bj (.int M) (.int j) g=if cu M j=true then some (.int (M*j),g)else none:=rfl
@[simp] def Z5:d7 c (.int M) g=(bA c g).bind λh=>(cL h M).map λe=>(e,g):=rfl
@[simp] def YR:bA (.tup A) g=some A:=rfl
@[simp] def YS:bA (.lst A) g=some A:=rfl
@[simp] def YT:bA (.ref i) g=g[i]?:=rfl
@[simp] def YU:bM [c] g=(bA c g).map λh=>(.int h.length,g):=rfl
@[simp] def YV:lC [.int M,.int j] g=some (.int (if j<M then j else M),g):=rfl
@[simp] def Xh:qw [.bl X] g=some (.int (if X then 1 else 0),g):=rfl
@[simp] def Xi:qw [.int M] g=some (.int M,g):=rfl
@[simp] def KC:gG [c] g=(bA c g).bind λh=>if aC h.length=true then some (.tup h,g)else none:=rfl
@[simp] def YW:oEq (.int M) (.int j) g=some (.bl (M == j),g):=rfl
@[simp] def YX {j:Bool}:oEq (.bl X) (.bl j) g=some (.bl (X == j),g):=rfl
@[simp] def YY {j:Str}:oEq (.str x) (.str j) g=some (.bl (x == j),g):=rfl
@[simp] def YZ:Gs c .ay g=some (.bl (gv c),g):=rfl
@[simp] def Xj:Bl c .ay g=some (.bl (!gv c),g):=rfl
def aU {σ':Sg}(a:A.length=o)(h:b (A.map some++m6 (i-o) none) g=some (.rt c,σ',r))(f:r.length=g.length):av false i o b A g=some (c,r):=by
 unfold av;rw[if_pos a,h];have e:F2 g.length c r=some (c,r):=by unfold F2;rw[if_pos f]
 simpa using e
def zw {σ':Sg}(e:A.length=o)(h:b (A.map some++m6 (i-o) none) g=some (.rt c,σ',r)):av true i o b A g=some (c,r):=by unfold av;rw[if_pos e,h];rfl
theorem dZ {t:FG}{c:FT}{e:FE}{h:D->D}(I:Sg->Prop):∀(ds:List D) (p:Sg) (g:G),I p->(∀d∈ds,∀p,I p->∃n,t d p g=some (n,g)/\c n g=some (true,g)/\e n g=some (h d,g)/\I n)->cR t c e ds p g=some (ds.map h,g)
 | [],_,_,_,_=>rfl|d::ds,p,g,hi,hh=>by obtain⟨n,a,j,f,i⟩:=hh d rj p hi;simp only[cR,a,j,f,mI,if_true,dZ I ds n g i λx b=>hh x (pP _ b),wk]
@[simp] def Xk {a:Type}{c:List (Option a)}:cz [] c = []:=rfl
@[simp] def UR {a:Type}{c:List (Option a)}:cz (none::I) c=none::cz I c:=rfl
@[simp] def US {a:Type}{c:List (Option a)}:cz (some i::I) c=(c[i]?).join::cz I c:=rfl
end
section
open PyProof.Rows
variable {b:Bool}
noncomputable def Bo (c:Bool):D->Bool
 |.bl b=>b == c|_=>false
noncomputable def isLit (a b:D):Option Bool:=match b with
 |.ay=>some (gv a)|.bl c=>some (Bo c a)|_=>none
noncomputable def kY (a c:D)(g:G):Option (D×G):=(isLit a c).map λb=>(.bl b,g)
noncomputable def vx (a c:D)(g:G):Option (D×G):=(isLit a c).map λb=>(.bl (!b),g)
def DC {K H ι d v u c}(r:Rel K H ι d v)(f:lX v u):(u == afI c)=Bo c d/\PySem.plainIs u (.bool c)=true:=by
 cases d with
 |ay=>cases r;cases f;exact⟨rfl,rfl⟩|bl b=>cases r;cases f;exact⟨by cases b<;>cases c<;>rfl,rfl⟩|int _=>cases r;obtain⟨t,rfl⟩:=f;exact⟨rfl,rfl⟩
 |str _=>cases r;obtain⟨t,rfl⟩:=f;exact⟨rfl,rfl⟩
 |tup _=>obtain⟨a,e,rfl,_⟩:=r;cases f;exact⟨rfl,rfl⟩
 |lst _=>obtain⟨a,e,rfl,_⟩:=r;cases f;exact⟨rfl,rfl⟩
 |eM=>obtain⟨a,rfl,_⟩:=r;cases f;exact⟨rfl,rfl⟩
 |ref _=>obtain⟨a,rfl,_⟩:=r;cases f;exact⟨rfl,rfl⟩
 |bu _=>obtain⟨a,rfl,_⟩:=r;cases f;exact⟨rfl,rfl⟩
 |fn _=>obtain⟨a,_,rfl,_⟩:=r;cases f;exact⟨rfl,rfl⟩
def Sf:bS X (tA .Is) (dW X.kw kY):=by
 intro r s B H x y v u Q I a h q;obtain⟨n,g,j,k,d,i,G0,b,f,q,p⟩:=q;cases k with
 |ay=>exact N3 r s B H x y v u Q I a h ⟨n,g,j,.ay,d,i,G0,b,f,q,p⟩
 |bl c =>
  cases f;cases h;simp only[kY,isLit,Ol]at q;cases q;obtain⟨e,z⟩:=DC (c:=c) b a;refine wpAny_is_plain z ?_;rw[e];exact⟨.bl _,H,I,rfl,p H n _ Ext.refl G0 (by simp[Rel])⟩
 |_=>cases q
def KD:bS X (tA .IsNot) (dW X.kw vx):=by
 intro r s B H x y v u Q I a h q;obtain⟨n,g,j,k,d,i,G0,b,f,q,p⟩:=q;cases k with
 |ay=>exact Kr r s B H x y v u Q I a h ⟨n,g,j,.ay,d,i,G0,b,f,q,p⟩
 |bl c =>
  cases f;cases h;simp only[vx,isLit,Ol]at q;cases q;obtain⟨e,z⟩:=DC (c:=c) b a;refine wpAny_isNot_plain z ?_;rw[e];exact⟨.bl _,H,I,rfl,p H n _ Ext.refl G0 (by simp[Rel])⟩
 |_=>cases q
@[simp] def Z6 {a:D}:kY a c r=(isLit a c).map λb=>(.bl b,r):=rfl
@[simp] def Xl {a:D}:vx a c r=(isLit a c).map λb=>(.bl (!b),r):=rfl
@[simp] def UT:isLit c .ay=some (gv c):=rfl
@[simp] def UU:isLit c (.bl b)=some (Bo b c):=rfl
@[simp] def Y0 {c:Bool}:Bo c (.bl b)=(b == c):=rfl
noncomputable def Ix.none (c:Ix):Ix:=⟨[],c.ix++c.hd,c.kd⟩
noncomputable def Gy:HO->Bool
 |.tup _=>true|.nA _ _=>true|.dK _=>true|.iH _=>true|_=>false
mutual
theorem Rel.toN {K H ι}:∀(d:D) {v:V},bT 0 d=true->Rel K H ι d v->Rel K H (Ix.none ι) d v
 |.ay,v,_,h=>h|.bl _,v,_,h=>h|.int _,v,_,h=>h|.str _,v,_,h=>h
 |.tup p,v,z,h=>by
  simp only[Rel]at h ⊢;obtain⟨a,i,e,b,f⟩:=h;refine⟨a,i,e,?_,ao.toN p z f⟩;rcases b with⟨b,hn⟩|b
  . exact .inl ⟨b,by simp[Ix.none]⟩
  . exact .inr b
 |.lst p,v,z,h=>by
  simp only[Rel]at h ⊢;obtain⟨a,i,e,b,f⟩:=h;refine⟨a,i,e,?_,ao.toN p z f⟩;rcases b with⟨b,hn,hh⟩|b
  . exact .inl ⟨b,by simp[Ix.none],λm=>(m3.mp m).elim hn hh⟩
  . exact .inr b
 |.eM,v,_,h=>by simp only[Rel]at h ⊢;obtain⟨a,e,b,f⟩:=h;exact⟨a,e,b,by simp[Ix.none]⟩
 |.ref k,v,z,h=>by simp[bT]at z|.bu k,v,z,h=>by simp[bT]at z|.fn x ds,v,z,h=>by simp only[Rel]at h ⊢;obtain⟨a,i,e,b,f⟩:=h;exact⟨a,i,e,b.mono λc u _ q=>⟨q.1,by simp[Ix.none],λy m=>(m3.mp m).elim q.2.1 (q.2.2 y)⟩,ao.toN ds z f⟩
theorem ao.toN {K H ι}:∀(ds:List D) {n:List V},aQ 0 ds=true->ao K H ι ds n->ao K H (Ix.none ι) ds n
 | [],n,_,h=>h|d::ds,n,z,h=>by simp only[ao]at h ⊢;simp only[aQ,l8]at z;obtain⟨v,b,e,a,c⟩:=h;exact⟨v,b,e,Rel.toN d z.1 a,ao.toN ds z.2 c⟩
end
mutual
theorem Rel.rD {K H n s}(hh:s.hd=n.ix++n.hd)(r:∀a∈n.ix,∃o,H a=some o/\Gy o=false):∀(d:D) {v:V},bT 0 d=true->Rel K H s d v->Rel K H n d v
 |.ay,v,_,h=>h|.bl _,v,_,h=>h|.int _,v,_,h=>h|.str _,v,_,h=>h
 |.tup B,v,z,h=>by
  simp only[Rel]at h ⊢;obtain⟨a,l,i,b,j⟩:=h;refine⟨a,l,i,?_,ao.rD hh r B z j⟩;rcases b with⟨b,hn⟩|b
  . refine .inl ⟨b,λm=>?_⟩
    obtain⟨C,e,f⟩:=r a m;rcases b with b|⟨o,b⟩<;>rw[e]at b<;>cases b<;>cases f
  . exact .inr b
 |.lst B,v,z,h=>by
  simp only[Rel]at h ⊢;obtain⟨a,l,i,b,j⟩:=h;refine⟨a,l,i,?_,ao.rD hh r B z j⟩;rcases b with⟨b,hn,hk⟩|b
  . rw[hh]at hk
    exact .inl ⟨b,λm=>hk (m3.mpr (.inl m)),λm=>hk (m3.mpr (.inr m))⟩
  . exact .inr b
 |.eM,v,_,h=>by simp only[Rel]at h ⊢;obtain⟨a,i,b,j⟩:=h;refine⟨a,i,b,λm=>?_⟩;obtain⟨C,e,f⟩:=r a m;rw[e]at b;cases b;cases f
 |.ref k,v,z,h=>by simp[bT]at z|.bu k,v,z,h=>by simp[bT]at z
 |.fn x ds,v,z,h=>by
  simp only[Rel]at h ⊢;obtain⟨a,l,i,b,j⟩:=h;exact⟨a,l,i,b.mono λc u y q=>⟨q.1,λm=>(by
    cases E:Uz u with
    |true=>exact q.2.2 E (by rw[hh];exact aeM _ m)
    |false =>
     obtain⟨C,e,f⟩:=r c m;rw[q.1]at e;cases e;cases u<;>first| (cases f;done)| (cases E;done)| (cases y;done)),λz m=>q.2.2 z (by rw[hh];exact Ib _ m)⟩,ao.rD hh r ds z j⟩
theorem ao.rD {K H n i}(hh:i.hd=n.ix++n.hd)(j:∀a∈n.ix,∃o,H a=some o/\Gy o=false):∀(ds:List D) {p:List V},aQ 0 ds=true->ao K H i ds p->ao K H n ds p
 | [],p,_,h=>h|d::ds,p,z,h=>by simp only[ao]at h ⊢;simp only[aQ,l8]at z;obtain⟨v,c,f,b,e⟩:=h;exact⟨v,c,f,Rel.rD hh j d z.1 b,ao.rD hh j ds z.2 e⟩
end
def aA.lst {K H n g}(h:aA K H n g)(r:f∈n.ix):∃o,H f=some o/\Gy o=false:=by
 obtain⟨i,a,e⟩:=Qe.mp r;have l:i<g.length:=by rw[<- h.len];exact a
 obtain⟨b,o,q,j,k,c,_⟩:=h.at_ i _ (mA l);rw[mA a,e]at j;cases j;generalize n.kd i=kk at c;exact⟨o,k,by cases c<;>rfl⟩
noncomputable def fJ (fn:Fn):Fn:=λds g=>if aQ 0 ds=true then(fn ds []).bind λr=>if bT 0 r.1=true then some (r.1,g)else none else none
def i9 {ds g d g'}(h:fJ u ds g=some (d,g')):aQ 0 ds=true/\(∃gx,u ds []=some (d,gx))/\bT 0 d=true/\g'=g:=by
 unfold fJ at h;split at h
 . rename_i z
   obtain⟨⟨c,i⟩,a,h⟩:=bind_some h;split at h
   . rename_i b
     cases h;exact⟨z,⟨i,a⟩,b,rfl⟩
   . cases h
 . cases h
def KG {K:KW}{k n f A B}(F:eh q K.w K.fr K.mg z iu k f A B (kU K n u)):eh q K.w K.fr K.mg z iu k f A B (kU K n (fJ u)):=
 eh.imp F λl H Q E ⟨y,C,g,ds,d,R,G0,r,h,p⟩=>by
  obtain⟨P,⟨gx,J⟩,x,rfl⟩:=i9 h;refine⟨y,Ix.none C,[],ds,d,gx,⟨RT,rfl,λb hb=>⟨by simp[Ix.none],?_⟩,λi U fn=>by simp at fn,λfn hq=>⟨(G0.tb fn hq).1,by simp[Ix.none]⟩⟩,ao.toN ds P r,J,λj O v e Y base=>?_⟩
  . rcases m3.mp hb with m|m
    . exact G0.kO m
    . exact(G0.cQ b m).2
  . have same:∀a∈C.ix,j a=H a:=λa c=>by
      obtain⟨l,I,_⟩:=G0.lst c;rw[I];exact e.same a _ I (by simp[Ix.none])
    have s:Ext H C j C:=⟨λa o fn _=>e.same a o fn (by simp[Ix.none]),e.there,⟨[],by simp,λ_ fn=>by simp at fn⟩,rfl,λ_ _=>rfl⟩
    refine p j C v s (G0.ext s same) (Rel.rD e.cQ (λa c=>?_) d x base);obtain⟨l,I,f⟩:=G0.lst c;exact⟨l,by rw[same a c];exact I,f⟩
def Bp (h:∀ds g r,u ds g=some r->ds.length=i):∀ds g r,fJ u ds g=some r->ds.length=i:=λds g r q=>by obtain⟨_,⟨gx,a⟩,_⟩:=i9 (d:=r.1) (g':=r.2) q;exact h _ _ _ a
end
section
variable {Q:D×G->Prop}{b:FS}
def l2 {b:Type}(o:Option b)(Q:b->Prop):Prop:=∃a,o=some a/\Q a
section
variable {α β:Type}{o:Option α}{Q R:α->Prop}
@[simp] def gw {a:α}:l2 (some a) Q=Q a:=by simp[l2]
@[simp] def Y1:l2 (none:Option α) Q=False:=by simp[l2]
@[simp] def Wm {f:α->Option β}{Q:β->Prop}:l2 (o.bind f) Q=l2 o λa=>l2 (f a) Q:=by cases o<;>simp[l2]
@[simp] def bau {f:α->β}{Q:β->Prop}:l2 (o.map f) Q=l2 o λa=>Q (f a):=by cases o<;>simp[l2]
def bav (h:l2 o R)(i:∀a,R a->Q a):l2 o Q:=by obtain⟨a,e,r⟩:=h;exact⟨a,e,i a r⟩
end
@[simp] def Z7 {o:Option (D×G)}{Q:Bool×G->Prop}:l2 (d6 o) Q=l2 o λr=>∃b,r.1 = .bl b/\Q (b,r.2):=by
 cases o with
 |none=>simp[d6]
 |some r =>
  obtain⟨d,g⟩:=r;cases d with
  |bl b=>cases b<;>simp[d6]|_=>simp[d6]
@[simp] def ky:aJ (.tup A) (.tup l) r=if aC (A.length+l.length)=true then some (.tup (A++l),r)else none:=rfl
@[simp] def Gz:aJ (.lst A) (.lst l) r=if aC (A.length+l.length)=true then some (.lst (A++l),r)else none:=rfl
@[simp] def Xm {y:Str}:aJ (.str x) (.str y) r=if aC (x.length+y.length)=true then some (.str (x++y),r)else none:=rfl
@[simp] def Y2:eO k r=some (none,r):=rfl
@[simp] def Xn:bq C k r=(C k r).bind λc=>match c.1 with|.int h=>some (some h,c.2)|_=>none:=rfl
def Xp {g:G}{xs:List D}{k:Int}(e:k<=1000)(c:-1000<=k)(b:xs.length<=1000):bj (.int k) (.tup xs) g=some (.tup (m6 k.toNat xs).flatten,g):=by
 show(if(fR k&&aC (xs.length*k.toNat))=true then some (D.tup (m6 k.toNat xs).flatten,g)else none)=_;rw[if_pos];have a:k.toNat<=1000:=by omega
 have:xs.length*k.toNat<=1000*1000:=Vy b a;rw[fR.of (by omega) (by omega),Se (by omega)];rfl
def wY (h:o<=i):bz i i (some (o:Int))=o:=by rw[yS];omega
def iU (h:o<=i):bz i 0 (some (o:Int))=o:=by rw[yS];omega
theorem pf {t:FG}{b:FS}{Q:F×Sg×G->Prop}(I:Nat->Sg->G->Prop):∀(ds:List D) (i:Nat) (n:Sg) (g:G),I i n g ->
  (∀(j:Nat) (d:D) n g,ds[j]? = some d->I (i+j) n g->l2 (t d n g) λq=>l2 (b q.1 q.2) λr=>match r.1 with
   |.nx=>I (i+j+1) r.2.1 r.2.2|.ct=>I (i+j+1) r.2.1 r.2.2|.bk=>Q (.nx,r.2.1,r.2.2)|.rt d=>Q (.rt d,r.2.1,r.2.2))->(∀n g,I (i+ds.length) n g->Q (.nx,n,g))->l2 (forL t b ds n g) Q
 | [],i,n,g,hi,_,p=>by simp only[forL,gw];exact p n g hi
 |d::ds,i,n,g,hi,hs,p=>by
  simp only[forL,Wm];refine bav (hs 0 d n g rfl hi) λq c=>bav c λr a=>?_;have go:I (i+0+1) r.2.1 r.2.2->l2 (forL t b ds r.2.1 r.2.2) Q:=λz =>
   pf I ds (i+1) _ _ z (λj d n g e h=>by have q:=hs (j+1) d n g (by simpa using e) (by rw[show i+(j+1)=i+1+j by omega];exact h);rw[show i+(j+1)+1=i+1+j+1 by omega]at q;exact q) λn g h=>p n g (by rw[yw,show i+(ds.length+1)=i+1+ds.length by omega];exact h)
  obtain⟨f,k⟩:=r;cases f with
  |nx=>exact go a|ct=>exact go a|bk=>simp only[gw];exact a|rt d=>simp only[gw];exact a
theorem iV {t:FG}{c:FT}{e:FE}{Q:List D×G->Prop}(I:Nat->List D->Sg->G->Prop):∀(ds:List D) (i:Nat) (p:Sg) (g:G) (n:List D),I i n p g ->
  (∀(j:Nat) (d:D) n p g,ds[j]? = some d->I (i+j) n p g->l2 (t d p g) λq=>l2 (c q.1 q.2) λk=>if k.1=true then l2 (e q.1 k.2) λr=>I (i+j+1) (n ++ [r.1]) q.1 r.2 else I (i+j+1) n q.1 k.2) ->
  (∀u p g,I (i+ds.length) (n++u) p g->Q (u,g))->l2 (cR t c e ds p g) Q
 | [],i,p,g,n,hi,_,v=>by simp only[cR,gw];exact v [] p g (by simpa using hi)
 |d::ds,i,p,g,n,hi,hs,v=>by
  simp only[cR,Wm];refine bav (hs 0 d n p g rfl hi) λq o=>bav o λk b=>?_;have go:∀(a:List D) (s:Sg) (h:G) (R:List D×G->Prop),I (i+1) a s h->(∀u p g,I (i+1+ds.length) (a++u) p g->R (u,g))->l2 (cR t c e ds s h) R:=λa s h R z v =>
    iV I ds (i+1) s h a z (λj d n p g e h=>by have q:=hs (j+1) d n p g (by simpa using e) (by rw[show i+(j+1)=i+1+j by omega];exact h);rw[show i+(j+1)+1=i+1+j+1 by omega]at q;exact q) v
  have l:i+(d::ds).length=i+1+ds.length:=by rw[yw];omega
  rw[l]at v;by_cases x:k.1=true
  . rw[if_pos x]at b ⊢
    simp only[Wm];refine bav b λr f=>?_;refine go (n ++ [r.1]) q.1 r.2 _ f λu p g h=>?_;simp only[gw];exact v (r.1::u) p g (by simpa using h)
  . rw[if_neg x]at b ⊢
    exact go n q.1 k.2 _ b v
def Ph (k:A.length=i)(h:l2 (b (A.map some++m6 (j-i) none) r) λds=>match ds.1 with
  |.rt d=>ds.2.2.length=r.length/\Q (d,ds.2.2)|.nx=>ds.2.2.length=r.length/\Q (.ay,ds.2.2)|_=>False):l2 (av false j i b A r) Q:=by
 obtain⟨⟨ds,n,f⟩,e,q⟩:=h;unfold av;rw[if_pos k,e];cases ds with
 |rt d =>
  obtain⟨c,a⟩:=q;dsimp only at c a;refine⟨_,?_,a⟩;simp[F2,c]
 |nx =>
  obtain⟨c,a⟩:=q;dsimp only at c a;refine⟨_,?_,a⟩;simp[F2,c]
 |bk=>exact q.elim|ct=>exact q.elim
def KH (c:A.length=o)(h:l2 (b (A.map some++m6 (i-o) none) r) λf=>match f.1 with
  |.rt d=>Q (d,f.2.2)|.nx=>Q (.ay,f.2.2)|_=>False):l2 (av true i o b A r) Q:=by
 obtain⟨⟨f,n,a⟩,e,q⟩:=h;unfold av;rw[if_pos c,e];cases f with
 |rt d=>exact⟨_,rfl,q⟩|nx=>exact⟨_,rfl,q⟩|bk=>exact q.elim|ct=>exact q.elim
def jY (y:A.length=o)(h:l2 (b (A.map some++m6 (i-o) none) r) λx=>match x.1 with
  |.rt d=>bT r.length d=true/\(x.2.2.take r.length).all (aQ r.length)=true/\r.length<=x.2.2.length/\Q (d,x.2.2.take r.length)|.nx=>(x.2.2.take r.length).all (aQ r.length)=true/\r.length<=x.2.2.length/\Q (.ay,x.2.2.take r.length)|_=>False):l2 (av false i o b A r) Q:=by
 obtain⟨⟨x,p,a⟩,e,q⟩:=h;unfold av;rw[if_pos y,e];have fin:∀d,bT r.length d=true->(a.take r.length).all (aQ r.length)=true->r.length<=a.length->Q (d,a.take r.length)->l2 (F2 r.length d a) Q:=λd l s u f=>by
  by_cases n:a.length=r.length
  . rw[Dc (by omega)]at f
    exact⟨_,by unfold F2;rw[if_pos n],f⟩
  . refine⟨_,?_,f⟩
    unfold F2;rw[if_neg n,if_pos s];cases d with
    |ref k =>
     have z:k<r.length:=by simpa[bT]using l
     simp only[if_pos z]
    |_=>simp only[if_pos l]
 cases x with
 |rt d =>
  obtain⟨ds,c,j,v⟩:=q;exact fin d ds c j v
 |nx =>
  obtain⟨c,j,v⟩:=q;exact fin .ay rfl c j v
 |bk=>exact q.elim|ct=>exact q.elim
end
section
open PyProof.Rows
open SeqAt
variable {r:List (Str×D)}
def rE {M:Model}{a:Type}(f:Nat->a->Sem (ForInStep a))(I:List Nat->a->lO->Prop)(Q:a->lO->Prop){b:a}(turn:∀x rest b s,I (x::rest) b s->wpAny M T (f x b) (λr n=>match r with|.yield c=>I rest c n|.done c=>Q c n) E s)(fin:∀b s,I [] b s->Q b s)(h:I (Oj i (o-i)) b s):wpAny M T (forIn [i:o] b f) Q E s:=by
 rw[agV];refine Ya f I Q turn fin _ b ?_;simpa[akv]using h
def ve (l:Addr)(p:Array Value)(n:Nat)(H:Option Addr)(E:Array (Option Value))(x:Value)(e:Value->Bool)(j:Nat)(I:j<p.size)
  (B:e p[j]=true) (C:∀m (hm:m<p.size),m<j->e p[m]=false):
  Meets (tW.«tuple.index» ⟨[.ref l,x],[]⟩)
   (λA R s=>s.heap.get? l=some { cls:=.type "tuple",dict:=H,data:=.seq p n,slots:=E }/\(∀y,y∈p->EqAt A.in1 s y x (e y))/\R (.ok (.ret (.int j s.toks))) { s with toks:=s.toks+1 }):=
 .of_wp λprog w A R s h=>by
  obtain⟨z,g,d,v,os⟩:=s;obtain⟨o,J,h⟩:=h
  wp_walk using wpAny_loadPart' o,rE _ (λrest b c=>b.1=none/\c=⟨z,g,d,v,os⟩ /\ ∃i,rest=Oj i (p.size-i)/\i<=j) _
  case turn =>
   rintro y rest b c ⟨q,rfl,i,a,r⟩;have f:i<p.size:=by omega
   have k:Oj i (p.size-i)=i::Oj (i+1) (p.size-(i+1)):=by rw[show p.size-i=(p.size-(i+1))+1 by omega,af2]
   rw[k]at a;injection a with h1 h2
   subst h1 h2;have u:p[y]? = some p[y]:=by simp[f]
   rw[u];refine la (J _ (afC f) prog w _ _ ?_);by_cases O:y=j
   . subst O
     rw[B]
     wp_walk
     exact⟨_,rfl,h⟩
   . rw[C y f (by omega)]
     wp_walk
     exact⟨rfl,rfl,y+1,rfl,by omega⟩
  case fin =>
   rintro⟨Q,U⟩ c ⟨q,rfl,i,a,r⟩;have:(Oj i (p.size-i)).length=0:=by rw[<- a];rfl
   rw[List.length_range']at this;omega
  case h=>exact⟨rfl,rfl,0,by simp,ro _⟩
noncomputable def ij:D->Bool
 |.ay=>true|.bl _=>true|.int _=>true|.str _=>true|_=>false
noncomputable def toV:D->V
 |.bl b=>.bl b|.int i=>.int i|.str x=>.str x|_=>.ay
def pg {K H ι d v}(h:ij d=true)(r:Rel K H ι d v):v=toV d/\jP v=true:=by
 cases d with
 |ay=>cases r;exact⟨rfl,rfl⟩|bl _=>cases r;exact⟨rfl,rfl⟩|int _=>cases r;exact⟨rfl,rfl⟩|str _=>cases r;exact⟨rfl,rfl⟩|_=>cases h
def sZ {K H ι d}(h:ij d=true):Rel K H ι d (toV d):=by
 cases d with
 |ay=>simp[Rel,toV]|bl _=>simp[Rel,toV]|int _=>simp[Rel,toV]|str _=>simp[Rel,toV]|_=>cases h
theorem wZ {K H ι}:∀{n:List D} {i:List V},n.all ij=true->ao K H ι n i->i=n.map toV/\i.all jP=true
 | [],i,_,r=>by cases r;exact⟨rfl,rfl⟩|d::n,i,h,r=>by obtain⟨v,f,rfl,a,e⟩:=r;rw[aex,l8]at h;obtain⟨c,p⟩:=pg h.1 a;obtain⟨b,q⟩:=wZ h.2 e;subst c b;exact⟨rfl,by rw[aex,p,q];rfl⟩
theorem w4 {K H ι}:∀{c:List D},c.all ij=true->ao K H ι c (c.map toV)
 | [],_=>by simp[ao]|d::c,h=>by rw[aex,l8]at h;simp only[wk,ao];exact⟨_,_,rfl,sZ h.1,w4 h.2⟩
def Si {b:D}(a:ij c=true)(e:ij b=true):uh (toV c) (toV b)=bF c b:=by cases c<;>cases b<;>first| (simp[toV,uh,bF];done)| (simp[ij]at a;done)| (simp[ij]at e;done)
noncomputable def GA (b a:FE):FE:=λh g=>(b h g).bind λr=>(jD r.1 r.2).bind λc=>if c=true then some r else a h r.2
def Of {b:FE}(E:DE X e C)(J:DE X (.BoolOp .Or (K::B) a) b):DE X (.BoolOp .Or (e::K::B) a) (GA C b):=.of (by
 intro R s O H Q I h;obtain⟨Y,o,g,d,z,G0,y,h,p⟩:=h;obtain⟨⟨u,U⟩,h1,h⟩:=bind_some h;obtain⟨c,h2,h⟩:=bind_some h;have Z:=E.un R s O H (λx n=>∃rest,Ext H Y n rest/\aA X.kw n rest U/\bQ X.kw n rest o O/\Rel X.kw n rest u x) I ⟨Y,o,g,u,U,G0,y,h1,λn rest v f i j=>⟨rest,f,i,y.ext f,j⟩⟩;refine BoolOp_or (bf Z λv s1 l=>?_);obtain⟨x,n,I1,j,rest,f,i,S1,r⟩:=l;have hT:=CH R s1 O n x v (λk H'=>k=c/\H'=n) I1 j ⟨c,zg i r h2,rfl,rfl⟩;refine bf hT λk s2 l=>?_;obtain⟨H2,q,e2,e3⟩:=l;subst e2 e3;cases k with
 |true =>
  simp only[if_true]at h ⊢;cases h;exact⟨x,_,q,j,p _ rest x f i r⟩
 |false =>
  simp only[ql,if_false]at h ⊢;exact J.un R s2 O _ Q q ⟨rest,o,U,d,z,i,S1,h,p.mono f⟩)
def w5 (K:KW)(d:D)(v:V):Prop:=(ij d=true/\v=toV d) \/
 ∃c a o h n,d = .tup c/\c.all ij=true/\v = .ref a/\K.fr.lookup a=some o/\o.cls = .type "tuple" /\ o.dict=none/\o.data = .seq h n/\h.size<=mK/\Vals (c.map toV) h.toList
noncomputable def pj (w:World)(K:KW):List sf->List (Str×D)->Prop
 | [],cI=>cI = []|e::c,cI=>∃x d rest,cI=(x,d)::rest/\(∃t,e.key = .str x t)/\e.hash=hashStr w x/\(∃v,lX v e.val/\w5 K d v)/\pj w K c rest
structure i_ (w:World)(K:KW)(a:Addr)(cI:List (Str×D)):Prop where
 ex:∃o es ep,K.fr.lookup a=some o/\o.ExactDict/\o.data = .dict es ep/\pj w K es.toList cI
 sys:(a == Qm)=false
noncomputable def qz (a:List (Str×D))(x:Str):Option D:=(a.find? λp=>decide (p.1=x)).map (·.2)
theorem pj.keys {P:te}{w:World}{K:KW}:∀{n:List sf} {cI:List (Str×D)},pj w K n cI->∀e∈n,∃k,(eX P w).is k e.key=true/\e.hash=(eX P w).hash k
 | [],_,_,e,i=>nomatch i
 |p::n,cI,h,e,i=>by
  obtain⟨x,d,rest,rfl,⟨t,c⟩,b,_,a⟩:=h;rcases nv.mp i with rfl|i
  . exact⟨.inr x,by rw[c];exact pL P w x t,b⟩
  . exact a.keys e i
def Og {y:Str}{t:Tok}:(eX q v).is (.inr x) (.str y t)=decide (y=x):=by
 show aes x (.str y t)=_;by_cases h:y=x
 . subst h;simp[aes]
 . simp[aes,h,qP h]
theorem pj.find {P:te}{w:World}{K:KW}{x:Str}:∀{n:List sf} {cI:List (Str×D)},pj w K n cI ->
  match qz cI x with
  |some d=>∃u v,(n.find? λe=>(eX P w).is (.inr x) e.key).map (·.val)=some u/\lX v u/\w5 K d v|none=>(n.find? λe=>(eX P w).is (.inr x) e.key).map (·.val)=none
 | [],cI,h=>by have b:cI = []:=h;subst b;rfl
 |r::n,cI,h=>by
  obtain⟨y,d,rest,rfl,⟨t,i⟩,k,⟨v,c,j⟩,f⟩:=h;have p:=f.find (P:=P) (x:=x);have a:(eX P w).is (.inr x) r.key=decide (y=x):=by rw[i];exact Og
  unfold qz at p ⊢;rw[ah1,ah1];by_cases q:y=x
  . subst q
    simp only[decide_true,a];exact⟨_,v,rfl,c,j⟩
  . simp only[q,decide_false,a]
    exact p
def i_.map {P:te}{K:KW}(h:i_ v K f r)(y:K.fr.In z):∃a,z.MapOf (eX P v) f a /\ ∀x:Str,match qz r x with
  |some d=>∃u w,a (.inr x)=some u/\lX w u/\w5 K d w|none=>a (.inr x)=none:=by
 obtain⟨o,j,c,i,q,l,b⟩:=h.ex;refine⟨_,⟨o,j,c,y f o i,q,l,λe n=>b.keys e (by simpa using n),λk=>rfl⟩,λx=>?_⟩;have:=b.find (P:=P) (x:=x);unfold findBy;rw[<- Array.find?_toList];exact this
noncomputable def Xq (K:KW)(a:Addr)(b:List (Str×D)):R2:=λx y H Q=>∃k d,x = .ref a/\y = .str k/\qz b k=some d /\ ∀v,w5 K d v->Q v H
def Oh (hD:i_ X.w X.kw f r):nD X (Xq X.kw f r):=by
 intro value slice n s p H x y v u Q I z B h j;obtain⟨k,d,rfl,rfl,hd,q⟩:=h;cases z;obtain⟨a,hm,hf⟩:=hD.map (P:=X.prog) I.nB;have e:=hf k;rw[hd]at e;obtain⟨b,c,o,l,C⟩:=e;obtain⟨t,rfl⟩:=B;exact adt (x:=b) hm.typeIs aen.lookup
  (wpAny_getItem_of (k:=(.inr k:Key)) (Q:=λcI i=>cI=b/\EP X n p Q cI i) (pL X.prog X.w k t) hm o ⟨rfl,c,H,I.tok _,l,q c C⟩) j
noncomputable def Bq (c:List D)(d:D):Option Nat:=c.findIdx? λy=>bF y d
noncomputable def Br (cI:List (Str×D))(c b:FE):FE:=λh g=>(c h g).bind λr=>match r.1 with
 |.str x=>match qz cI x with
  |some (.tup i)=>(b h r.2).bind λq=>if(ij q.1&&i.all ij)=true then(Bq i q.1).map λj=>(.int j,q.2)else none|_=>none
 |_=>none
noncomputable def Sj (K:KW):V->List V->Hp->VK->Prop:=λx a H Q=>∃c y j,w5 K (.tup c) x/\a = [toV y]/\ij y=true/\c.all ij=true/\Bq c y=some j/\Q (.int j) H
def DD:MZ X "tuple.index" (Sj X.kw):=by
 intro a8 s σ H x vs v us Q I R U h;obtain⟨p,y,j,c,rfl,f,k,e,q⟩:=h;rcases c with⟨c,_⟩|⟨DF,a,o,B,n,e0,kQ,rfl,h1,h2,h3,h4,h5,h6⟩
 . cases c
 cases e0;cases R;obtain⟨u,rfl,Y⟩:=U.one;have l:=I.nB a o h1;obtain⟨cls,dd,data,sl⟩:=o;simp only at h2 h3 h4;subst h2 h3 h4;have Z:jP (toV y)=true:=(pg f (sZ (K:=X.kw) (H:=H) (ι:=⟨[],[],λ_=>0⟩) f)).2;have fx:(p.map toV).all jP=true:=(wZ k (w4 (K:=X.kw) (H:=H) (ι:=⟨[],[],λ_=>0⟩) k)).2;unfold Bq at e;rw[aer]at e;obtain⟨dw,E,CO⟩:=e;have C:(p.map toV).length=B.toList.length:=h6.length;rw[n7]at C;have J:j<B.size:=by rw[<- adX];omega
 have item:∀m (hm:m<p.length) (r:m<B.size),HZ (toV y) B[m]=bF p[m] y:=λm hm r=>by obtain⟨u',O,r'⟩:=h6.get (i:=m) (x:=toV p[m]) (by rw[nP,mA hm];rfl);rw[adC,HM r]at O;cases O;have b:ij p[m]=true:=HL.mp k _ (u3 hm);rw[CQ r' (pg b (sZ (K:=X.kw) (H:=H) (ι:=⟨[],[],λ_=>0⟩) b)).2,Si b f]
 refine Q7 F.slot_tuple_index ⟨_,l,rfl⟩ F.entry_tuple_index (F.args_tuple_index_2 _ _) (ve a B n none sl u (HZ (toV y)) j J (by rw[item j dw J];exact E) (λm hm Z8=>by
   have qT:m<p.length:=by omega
   rw[item m qT hm];simpa using CO m Z8)) ⟨l,λz hz=>wg Y Z h6 fx z (by simpa using hz),?_⟩
 exact⟨.int j,H,I.tok _,⟨_,rfl⟩,q⟩
def KI {A B E:Pos}{cI:FE}(hD:i_ X.w X.kw f r)(P:X.mg x=some (.ref f))(L:DE X e C)(O:DE X K cI)(N:Gl X x)(T:oW e)(W:(x == ("__debug__":Str))=false)(S:aey (.Subscript (.Name x a) e A) "index" X.env (eval (.Subscript (.Name x a) e A) X.env)=eval (.Subscript (.Name x a) e A) X.env)(M:((tT E (m2 [K] X.env)).all (λK=>!K.1)&&(backToKw E (ahx [] X.env)).all (λK=>K.1.isSome)
   && decide ([K].length+([]:List Um).length+(if([]:List Um).isEmpty then 0 else 1)<30))=true)(U:(B.endLine == E.line)=true)(I:m2 [K] X.env=(false,eval K X.env)::m2 [] X.env):
  DE X (.Call (.Attribute (.Subscript (.Name x a) e A) "index" B) [K] [] E) (Br r C cI):=.of (
 PE.imp (RS PySem.F.plainAttrs_tuple PySem.F.slot_tuple_index PySem.F.type_tuple_index DD (HY (Oh hD) (sL (v:=.ref f) N P rfl W) L.un T) (lI O.un nW I) S M U I (by rfl)) λσ H Q h=>by
  obtain⟨ι,σd,g,d,g',G0,S0,h,a⟩:=h;obtain⟨⟨y,g1⟩,s,h⟩:=bind_some h;refine tD.bind G0 S0 s λH1 ι1 v p l J r1=>?_;cases y with
  |str k =>
   cases r1;dsimp only at h;cases R:qz r k with
   |none=>rw[R]at h;cases h
   |some d2 =>
    rw[R]at h;cases d2 with
    |tup Z =>
     dsimp only at h;obtain⟨⟨c,g3⟩,h3,h⟩:=bind_some h;refine⟨k,_,rfl,rfl,R,λv b=>⟨?_,?_⟩⟩
     . rcases b with⟨b,_⟩|⟨DF,a',o,aw,n,e0,kQ,rfl,q1,q2,q3,q4,q5,q6⟩
       . cases b
       . exact .inr (.inl ⟨rfl,o,q1,q2,q3⟩)
     . refine tD.bind l J h3 λi q u e2 G2 S2 r2=>?_
       dsimp only at h;split at h
       . rename_i z
         rw[l8]at z;cases Y:Bq Z c with
         |none=>rw[Y]at h;cases h
         |some j =>
          rw[Y]at h;cases h;refine⟨Z,c,j,b,by rw[(pg z.1 r2).1],z.1,z.2,Y,a i q _ (p.trans e2) G2 (by simp[Rel])⟩
       . cases h
    |_=>cases h
  |_=>cases h)
end
section
open PyProof.Rows
variable {Y:Array Value}{R:List D->G->Option (D×G)}{w:FA}{t:FG}{u:FT}{p:Int->Int->Int}{n:Expr}{m l g:Pos}{h:Option Int}{d fs:FO}{vs:Value}
noncomputable def mR (i j:Nat)(fr:FA):FS:=λc g=>(fr c g).bind λr=>match r.1 with
 | [a,b]=>some (.nx,(c.set i (some a)).set j (some b),r.2)|_=>none
def Oi {y:Str}{kt k2 pt2}(J:X.calm=true)(fr:X.N.Nodup)(E:X.N[i]? = some x)(O:X.N[j]? = some y)(L:i≠j)(M:X.env.scope.names.lookup x=some .local)(I:X.env.scope.names.lookup y=some .local)(C:DA X [e,K] w)(hw:Qh [.Tuple [.Name x a,.Name y m] kt l] (.Tuple [e,K] k2 pt2) X.env=pure (some [x,y]))(P:TL [.Tuple [.Name x a,.Name y m] kt l] (.Tuple [e,K] k2 pt2) g.line X.env=pure false):
  DS X (.Assign [.Tuple [.Name x a,.Name y m] kt l] (.Tuple [e,K] k2 pt2) g) (mR i j w):=.of (
 qU.imp (Ms J fr E O L M I C.un hw P) λU Y H h=>by
  obtain⟨Z,n,b,r,cy,g',G0,z,h,p⟩:=h;obtain⟨⟨ds,g1⟩,o,h⟩:=bind_some h;refine iy.bind G0 z o λQ s vs B k R q=>?_;dsimp only at h;split at h
  . rename_i e K
    cases h;obtain⟨v,vr,rfl,f,u,ur,rfl,c,rfl⟩:=q;exact⟨v,u,rfl,p Q s B k _ ((R.set f i).set c j)⟩
  . cases h)
def vf {a:Addr}{x:Value}(l:s.heap.IsTupleIter f a i)(u:s.heap.IsTuple a Y)(w:Y[i]? = some x)(r:∀n,n.IsTupleIter f a (i+1)->Ma f s.heap n->Q x { s with heap:=n }):wpAny (model q v) T (Vj (.ref f)) Q E s:=by
 obtain⟨o,c,h,b⟩:=id l;obtain⟨j,e,_,k,prog⟩:=u;unfold Vj;refine la (Nd (name:=F6 "__next__") l.typeIs F.slot_tuple_iterator_next (zy F.slot_tuple_iterator_next l.typeIs F.entry_tuple_iterator_next ?_ (F.args_tuple_iterator_next_1 _)));change wpAny _ _ (field (.ref f) 0 >>= λ_=>_) _ _ _;refine la (Ci c b (x:=.ref a) rfl ?_);change wpAny _ _ (if(AJ a == zb)=true then _ else _) _ _ _;rw[if_neg (by exact L3)];change wpAny _ _ (field (.ref f) 1 >>= λ_=>_) _ _ _;refine la (Ci c b (x:=.int i 0) rfl ?_);change wpAny _ _ (seqItems? (.ref a) >>= λ_=>_) _ _ _;refine la (Vw e prog ?_);simp only[L7,w];refine la (aeg c b (by simp) ?_);refine lr ⟨x,rfl,lr (r _ ⟨_,Nv _ c (Obj.isFreed_of_fields (ag_ b _)),(Obj.cls_mapFields ..).trans h,?_⟩ (Qs ..))⟩;rw[ag_ b];simp[zk]
def w6 {a:Addr}(hh:T.handled=none)(A:s.heap.IsTupleIter f a i)(w:s.heap.IsTuple a Y)(y:Y[i]? = none)(u:∀n e,agi f s.heap n->(∃o,n.get? e=some o/\o.cls = .type "StopIteration")->E (.ref e) { s with heap:=n }):wpAny (model q v) T (Vj (.ref f)) Q E s:=by
 obtain⟨o,c,l,b⟩:=id A;obtain⟨j,prog,_,k,h⟩:=w;unfold Vj;refine la (Nd (name:=F6 "__next__") A.typeIs F.slot_tuple_iterator_next (zy F.slot_tuple_iterator_next A.typeIs F.entry_tuple_iterator_next ?_ (F.args_tuple_iterator_next_1 _)));change wpAny _ _ (field (.ref f) 0 >>= λ_=>_) _ _ _;refine la (Ci c b (x:=.ref a) rfl ?_);change wpAny _ _ (if(AJ a == zb)=true then _ else _) _ _ _;rw[if_neg (by exact L3)];change wpAny _ _ (field (.ref f) 1 >>= λ_=>_) _ _ _;refine la (Ci c b (x:=.int i 0) rfl ?_);change wpAny _ _ (seqItems? (.ref a) >>= λ_=>_) _ _ _;refine la (Vw prog h ?_);simp only[L7,y];refine la (yo (la (aeg c b (by simp) ?_)));change wpAny _ _ (newExc (.type "StopIteration") [] >>= λ_=>_) _ _ _;refine la ?_;simp only[newExc,newTuple];refine la (x3 ?_ (by size_fits));refine la (m:=ae8 _ _) (ahy (a:=zb) (by first|rfl| (simp only[ae8];rfl)) ?_);refine x3 ?_ (by size_fits);simp only[raiseNew];refine la (wpAny_handled ?_);rw[show T.in1.handled=none from hh];exact la (lr (wpAny_throw (u _ _ (((Qs ..).extBut.push _).push _) ⟨_,pR _ rfl,rfl⟩)))
def s_ {t':Nat}{ch:List Addr}(I:lb X b y H s)(k:∀p o,p ∉ ch->s.heap.get? p=some o->z.get? p=some o)(A:∀p∈ch,fW X b H p):
   lb X b y H { s with heap:=z,toks:=t' }:=by
 have f:∀p u,H p=some u->p ∉ ch:=λp u e B=>by rw[(A p B).1]at e;cases e
 refine I.step (g':=s.gens) (d':=s.drawn) (ch:=ch) (λp x=>?_) (λp o _ _ a e _=>k p o a e) (λp o _ _ a e _=>⟨o.slots,k p o a e⟩) (λ_ _ _ _ n=>n)
   (λp o a e=>⟨o,k p o a e⟩) (λ_ _ e=>e) (λ_ _ _ e=>e) (λ_ _ _ e=>e) (λm hm=>?_) (λp u e=>?_) I.bare
 . obtain⟨O,C,Q,j,E,J⟩:=A p x
   exact⟨j,C,E,J⟩
 . obtain⟨o,i,l,h,r⟩:=hm
   exact⟨o,i,l,k _ o (λB=>(A _ B).2.1 rfl) h,r⟩
 . refine(I.aY p u e).dA (λc v a q=>k c v ?_ q) (λ_ q=>q) (λ_ _ q=>q) λ_ _ q=>q
   rcases a with B|B
   . rw[B];exact f p u e
   . exact f c _ B
def Bs {A:og}(hh:A.handled=none)(prog a:Addr)(items:Array Value)(n:Nat)(r:items.size<=n):
  Draws q v A prog [prog,a] n (λ_ _=>True) (λj h=>j=n/\h.IsListIter prog a n/\h.IsList a items) where
 live:=λ_ _ st=>by obtain⟨o,c,_⟩:=st.2.1;exact⟨o,c⟩
 frame:=λ_ _ _ st b=>⟨st.1,st.2.1.at λo e=>b prog (by simp) o e,st.2.2.at λo e=>b a (by simp) o e⟩
 item:=λi s Q E f st l=>absurd st.1 (p8 f)
 done:=λs Q E st k=>agy hh st.2.1 st.2.2 (by simp;exact r) k
noncomputable def Om (K:n3)(a:Addr):It :=
 ⟨λi H=>∃c x,dF K H a c/\c[i]? = some x,λi H x b=>∃T v,x = .ref T/\H T=none/\b=upd H T (.tup [.int i,v]) /\ ∀c,dF K H a c->c[i]? = some v,λi H=>∃c,dF K H a c/\c.length<=i⟩
def Bt {K:n3}(kt e it:Addr)(C:e≠it):Turn q v K (.Tuple B i a) (Om K kt) [e,it] e (λw h=>(∃old,IsEnum h e it w old)/\h.IsListIter it kt w) where
 mem:=by simp
 obj:=λw h st b c=>by
  obtain⟨⟨old,l⟩,o,j,h3,h4⟩:=st;rcases nv.mp c with rfl|c
  . exact⟨_,l,λP z=>by cases z⟩
  . have iJ:b=it:=by simpa using c
    subst iJ;exact⟨o,j,λP z=>by rw[h4]at z;cases z⟩
 keep:=λw h r st k=>by obtain⟨⟨old,l⟩,j⟩:=st;exact⟨⟨old,k e (by simp) _ l⟩,j.at λo J=>k it (by simp) o J⟩
 item:=by
  intro X hP hw hK hc w a8 s σ H E I hf st hg;subst hP hw hK;obtain⟨⟨old,l⟩,j⟩:=st;obtain⟨xs,x,hq,hx⟩:=hg;obtain⟨aw,rv,p,hz⟩:=I.list hq;obtain⟨u,hu,ru⟩:=rv.get hx;have ai:kt≠it:=λz=>by obtain⟨o,y,q2,_⟩:=p.isList;obtain⟨o',q3,q4,_⟩:=j;rw[z,q3]at y;cases y;rw[q4]at q2;exact absurd q2 (by decide)
  have ae:e≠kt:=λz=>by obtain⟨o,y,q2,_⟩:=p.isList;rw[<- z,l]at y;cases y;exact absurd (show tO "enumerate" = tO "list" from q2) (by decide)
  have hi:w<aw.toArray.size:=by have:=(m5.mp hu).1;simpa using this
  refine wpAny_pyNext_enum_itemD (Draws.list (A:=X.A.in1) (I.ok.hd hc) it kt ai aw.toArray) l ⟨j,p.isList⟩ hi C (by simp[C,ae]) λx' r tk hP Xr da hT jH hk=>?_;have ex:x'=u:=by
    have J:aw.toArray[w]? = some x':=hP;have q':aw[w]? = some x':=by simpa using J
    rw[hu]at q';exact(Az q').symm
  subst ex;refine⟨_,rfl,wpAny_letOwnedTupleGo_enum Xr λrh IB Oq=>?_⟩;have I1:lb X a8 σ (upd H s.heap.objs.size (.tup [.int w,x])) { s with heap:=s.heap.push { cls:=.type "tuple",data:=.seq #[.int w tk,x'] } }:=
    I.laid (t':=s.toks) (o:=.tup [.int w,x]) (λb o J=>nz _ J) (mn _) (show eC X.prog X.w _ _ _ (.tup [.int w,x]) from⟨by show 2<=mK;decide,[.int w tk,x'],.cons ⟨tk,rfl⟩ (.cons ru .nil),fI.new _ _⟩)
  have eT:e≠s.heap.objs.size:=p8 (nC l);have iT:it≠s.heap.objs.size:=by obtain⟨o',q3,_⟩:=j;exact p8 (nC q3)
  have I2:lb X a8 σ (upd H s.heap.objs.size (.tup [.int w,x])) { s with heap:=rh,toks:=tk+1 }:=s_ (s:={ s with heap:=s.heap.push { cls:=.type "tuple",data:=.seq #[.int w tk,x'] } }) (ch:=[e,it]) I1 (λb o c J=>by
    simp only[nv,List.mem_nil_iff,or_false,not_or]at c;have h3:r.get? b=some o:=by
      by_cases UW:b=s.heap.objs.size
      . subst UW
        have:(s.heap.push { cls:=.type "tuple",data:=.seq #[.int w tk,x'] }).get? s.heap.objs.size=some o:=J;rw[pR _ rfl]at this;rw[<- this];exact hT
      . exact hk b o c.1 c.2 ((ahr s.heap b _ UW).symm.trans J)
    exact(Oq.2 b c.1).trans h3) (λb c=>by
      obtain⟨f0,f1,f2,f3,f4,f5⟩:=hf b c;refine⟨?_,f1,f2,f3,f4,f5⟩;rcases nv.mp c with rfl|c
      . rw[aG eT];exact f0
      . have iJ:b=it:=by simpa using c
        subst iJ;rw[aG iT];exact f0)
  refine⟨.ref s.heap.objs.size,_,I2,rfl,⟨_,x,rfl,I.fresh,rfl,λys hy=>by rw[I.mD hy hq];exact hx⟩,⟨⟨_,by simpa using IB⟩,?_⟩,λb c=>?_⟩
  . exact da.1.at λo J=>(Oq.2 it (qP C)).trans J
  . rcases nv.mp c with rfl|c
    . rw[aG eT];exact(hf _ (by simp)).1
    . have iJ:b=it:=by simpa using c
      subst iJ;rw[aG iT];exact(hf _ (by simp)).1
 done:=by
  intro X hP hw hK hc w a8 s σ H E I hf st hg;subst hP hw hK;obtain⟨⟨old,l⟩,j⟩:=st;obtain⟨xs,hq,hx⟩:=hg;obtain⟨aw,rv,p,hz⟩:=I.list hq;have ai:kt≠it:=λz=>by obtain⟨o,y,q2,_⟩:=p.isList;obtain⟨o',q3,q4,_⟩:=j;rw[z,q3]at y;cases y;rw[q4]at q2;exact absurd q2 (by decide)
  have f:=hf it (by simp);have fin:∀r,agi it s.heap r->lb X a8 σ H { s with heap:=r }:=λr eb=>I.turned (t':=s.toks) (λb o c J=>eb b o c J) f.1 f.2.1 f.2.2.2.1 f.2.2.2.2.1 f.2.2.2.2.2;have hl:=rv.length;exact wpAny_pyNext_enum_endD (Bs (A:=X.A.in1) (I.ok.hd hc) it kt aw.toArray w (by simp;omega)) l ⟨rfl,j,p.isList⟩ λr eb=>⟨rfl,fin r eb⟩
 self:=λ_ _ _ _ _ st h=>wpAny_pyIter_enum st.1.choose_spec h
noncomputable def pq (c:List D):List D:=c.zipIdx.map λp=>.tup [.int (p.2:Nat),p.1]
noncomputable def DH (f:FE):FI:=λc g=>(f c g).bind λr=>match r.1 with|.lst h=>some (pq h,r.2)|_=>none
def kg.Sk {K H ι a vs ds}(r:nG K H ι a vs)(s:ao K H ι ds vs):kg K (Om K a) H ι (pq ds):=λi p o u c f =>
 ⟨λj=>⟨vs,(r.eH c).sq,by rw[<- s.length];simpa[pq]using j⟩,λd hd=>by
  unfold pq at hd;rw[nP,agJ]at hd;cases n:ds[i]? with
  |none=>rw[n]at hd;cases hd
  |some B =>
   rw[n]at hd;simp only[Ol,afD,CV]at hd;subst hd;obtain⟨v,e,h⟩:=(ao.eH c _ s).get n;refine⟨⟨vs,v,(r.eH c).sq,e⟩,λx l y=>?_⟩;obtain⟨T,q,rfl,b,rfl,k⟩:=y;have:=k vs (r.eH c).sq;rw[e]at this;cases this;refine⟨Ext.lay b,f.lay b,?_⟩;simp only[Rel];refine⟨T,_,rfl,.inl ⟨.inl aT,f.fresh b⟩,?_⟩;simp only[ao,Rel];exact⟨_,_,rfl,rfl,_,_,rfl,Rel.ext (Ext.lay b) _ h,rfl⟩⟩
def GB (J:Gl X "enumerate")(K:X.mg "enumerate" = none)(L:DE X e C)(p:m2 [e] X.env = [(false,eval e X.env)]):DI X (.Tuple B i l) (.Call (.Name "enumerate" a) [e] [] m) (DH C):=.of (by
 intro Y s Z H R I h;obtain⟨Q,O,g,ds,g',G0,S0,h,q⟩:=h;obtain⟨⟨d1,U⟩,h1,h⟩:=bind_some h;cases d1 with
 |lst xs =>
  cases h;refine Call_ (jh I J K PyProof.Rows.boot_enumerate (ZP (bf ((lI L.un nW p) m Y s Z H (λo n=>∃v c,o = [v]/\Ext H Q n c/\aA X.kw n c U/\Rel X.kw n c (.lst xs) v) I ?_) λus s1 ⟨o,n,M,k,v,c,e0,f,j,rd⟩=>?_) p rfl) (by decide) (by decide))
  . exact⟨Q,O,g,_,U,G0,S0,h1,λn c v f j k=>⟨v,c,rfl,f,j,k⟩⟩
  . subst e0
    obtain⟨u,rfl,y⟩:=Wn k;obtain⟨A,o,rfl,r,z⟩:=rd;cases y;obtain⟨aw,rv,pt,hz⟩:=M.list r.sq;refine call_enumerate_list pt.isList λh' x jr _ hk=>?_;refine wpAny_pyIter_enum x ?_;have fQ:s1.heap.objs.size+1≠s1.heap.objs.size:=ahI _;refine⟨s1.heap.objs.size+1,[s1.heap.objs.size+1,s1.heap.objs.size],_,_,n,rfl,M.kept (t':=s1.toks) hk,Bt A _ _ fQ,⟨⟨_,x⟩,jr⟩,λb E=>?_,q n c _ f j (.Sk r z)⟩;rcases nv.mp E with rfl|E
    . exact M.nT (agm _) (M.aY.fresh (agm _))
    . have iJ:b=s1.heap.objs.size:=by simpa using E
      subst iJ;exact M.nT (mn _) (M.aY.fresh (mn _))
 |_=>cases h)
noncomputable def vy (f:FE):FI:=λc g=>(f c g).bind λr=>match r.1 with|.lst h=>some (pq h,r.2)|_=>none
def KJ (r:Gl X "enumerate")(u:X.mg "enumerate" = none)(x:DE X e C)(v:m2 [e] X.env = [(false,eval e X.env)]):DI X (.Tuple B i l) (.Call (.Name "enumerate" a) [e] [] m) (vy C):=.of (by
 intro n s y H R I h;obtain⟨E,f,g,ds,b,G0,o,h,q⟩:=h;obtain⟨⟨k,J⟩,c,p⟩:=bind_some h;cases k with
 |lst O=>exact(GB r u x v).un n s y H R I ⟨E,f,g,ds,b,G0,o,by unfold DH;rw[c];exact p,q⟩|_=>cases p)
@[simp] def w8:vy C k r=(C k r).bind λa=>match a.1 with|.lst c=>some (pq c,a.2)|_=>none:=rfl
noncomputable def qA (i:Nat)(o:Int->Int->Int)(c:FE):FS:=λh g=>match h[i]? with
 |some (some (.int a))=>(c h g).bind λr=>match r.1 with
  |.int b=>some (.nx,h.set i (some (.int (o a b))),r.2)|_=>none
 |_=>none
def DJ {op:Xu}(J:X.N.Nodup)(K:X.N[i]? = some x)(M:El X.env.scope x)(L:HR X op (Mu p))(E:DE X e C)(I:X.fn x=true\/X.env.scope.names.lookup x=some .local):DS X (.AugAssign (.Name x a) op e m) (qA i p C):=.of (
 qU.imp (Mt J K M E.un L I) λR U H h=>by
  obtain⟨Y,B,g,r,Z,g',G0,c,h,o⟩:=h;unfold qA at h;split at h
  . rename_i A l
    obtain⟨⟨z,g1⟩,y,h⟩:=bind_some h;obtain⟨v,k,f⟩:=c.2 i _ l;cases f;refine⟨.int A,k,?_⟩;refine tD.bind G0 c y λO n u j q s Q=>?_;cases z with
    |int b =>
     cases h;cases Q;exact⟨A,b,rfl,rfl,o O n j q _ (s.set (d:=.int (p A b)) (by simp[Rel]) i)⟩
    |_=>cases h
  . cases h)
@[simp] def Y3:qA i p C k r=(match k[i]? with
 |some (some (.int c))=>(C k r).bind λo=>match o.1 with
  |.int h=>some (.nx,k.set i (some (.int (p c h))),o.2)|_=>none
 |_=>none):=rfl
@[simp] def Y4:mR i j w k r=(w k r).bind λc=>match c.1 with
 | [a,b]=>some (.nx,(k.set i (some a)).set j (some b),c.2)|_=>none:=rfl
@[simp] def Y5 {i:FE}:GA C i k r=(C k r).bind λh=>(jD h.1 h.2).bind λc=>if c=true then some h else i k h.2:=rfl
@[simp] def Sl:jD .ay r=some false:=rfl
@[simp] def Sn:jD (.tup A) r=some (!A.isEmpty):=rfl
@[simp] def So:jD (.lst A) r=some (!A.isEmpty):=rfl
def dA (i:List Addr)(h n:Heap):Prop:=∀c o,c ∉ i->h.get? c=some o->n.get? c=some o
def dA.tr {cs h f h2}(a:dA cs h f)(b:dA cs f h2):dA cs h h2:=λc o n e=>b c o n (a c o n e)
def dA.of {cs h h1 c}(a:Ma c h h1)(m:c∈cs):dA cs h h1:=λb o n e=>(a.2 b λz=>n (z ▸ m)).trans e
def Sq {c:Addr}{r:List V}(I:lb X b y H s)(u:fW X b H c)(i:fu X.kw H f r):f≠c:=λz=>by
 subst z;obtain⟨v,x,B,e,C,h⟩:=u;rcases i with i|⟨o,aw,n,hk,_⟩
 . rcases i with i|⟨o,i⟩<;>rw[v]at i<;>cases i
 . have p:X.base.get? f=some o:=I.ok.mod.lG f o hk
   rcases e with q|q
   . exact I.ok.qm f o p q
   . exact B5 _ (uf (nC (I.ok.bs f o p).1) q)
noncomputable def bC (n:Nat)(c b:Option Int)(a:Int):Int×Nat:=((Sx c b a (n:Int)).1,Xb (Sx c b a (n:Int)).1 (Sx c b a (n:Int)).2 a)
noncomputable def gy {c:Type}(h:List c)(l:Int)(n:Nat)(a:Int):List c:=(nJ n).filterMap λ(k:Nat)=>h[(l+(k:Int)*a).toNat]?
noncomputable def td (d:D)(b a c:Option Int)(g:G):Option (D×G):=match d,c with
 |.tup h,some k=>if(!(k == 0) && !(k == 1)&&aC (bC h.length b a k).2)=true then some (.tup (gy h (bC h.length b a k).1 (bC h.length b a k).2 k),g)else none|_,_=>none
def DL {n:D}{a d:Option Int}{p:G}(b:td c h a d r=some (n,p)):∃i k,c = .tup i/\d=some k/\k≠0/\k≠1/\aC (bC i.length h a k).2=true/\n = .tup (gy i (bC i.length h a k).1 (bC i.length h a k).2 k)/\p=r:=by
 unfold td at b;split at b
 . rename_i i k
   split at b
   . rename_i z
     rw[l8,l8]at z;cases b;exact⟨i,k,rfl,rfl,by simpa using z.1.1,by simpa using z.1.2,z.2,rfl,rfl⟩
   . cases b
 . cases b
noncomputable def w9 (b:FE)(c a fs:FO):FE:=λi g=>(b i g).bind λr=>(c i r.2).bind λl=>(a i l.2).bind λh=>(fs i h.2).bind λk=>td r.1 l.1 h.1 k.1 k.2
def uA {a:Type}(c:List a)(l:Int)(n:Nat)(b:Int):(gy c l n b).length<=n:=by unfold gy;exact pe (List.length_filterMap_le _ _) (by simp)
theorem ao.pick {K H ι}{h:List D}{vs:List V}(r:ao K H ι h vs)(l:Int)(c:Int):∀n k,ao K H ι ((Oj k n).filterMap λ(k:Nat)=>h[(l+(k:Int)*c).toNat]?) ((Oj k n).filterMap λ(k:Nat)=>vs[(l+(k:Int)*c).toNat]?)
 | 0,k=>by simp[ao]
 |n+1,k=>by
  rw[af2,Dw,Dw];have p:=ao.pick r l c n (k+1);cases i:h[(l+(k:Int)*c).toNat]? with
  |none =>
   have a:vs[(l+(k:Int)*c).toNat]? = none:=by rw[ac4]at i ⊢;rw[<- r.length];exact i
   rw[a];exact p
  |some d =>
   obtain⟨v,a,b⟩:=r.get i;rw[a];simp only[ao];exact⟨v,_,rfl,b,p⟩
theorem uB {vs:List V}{e:List Value}(r:Vals vs e)(l:Int)(c:Int):∀n k,Vals ((Oj k n).filterMap λ(k:Nat)=>vs[(l+(k:Int)*c).toNat]?) ((Oj k n).filterMap λ(k:Nat)=>e[(l+(k:Int)*c).toNat]?)
 | 0,k=>.nil
 |n+1,k=>by
  rw[af2,Dw,Dw];have i:=uB r l c n (k+1);cases h:vs[(l+(k:Int)*c).toNat]? with
  |none =>
   have a:e[(l+(k:Int)*c).toNat]? = none:=by rw[ac4]at h ⊢;rw[<- r.length];exact h
   rw[a];exact i
  |some d =>
   obtain⟨v,a,b⟩:=r.get h;rw[a];exact .cons b i
def GC {j l:Value}{e:Option Int}{Q:Int×Int×Nat->lO->Prop}(r:s.heap.IsSliceOf f j l vs)(k:Ay j h)(prog:Ay l e)(u:Ay vs (some M))(o:M≠0)(n:Q ((bC i h e M).1,M,(bC i h e M).2) s):wpAny (model q v) T (ac0 (.ref f) (pure (i:Int))) Q E s:=by
 obtain⟨os,b,c,a⟩:=id r;unfold ac0 afK;refine la (la (Ci b a (x:=j) rfl (la (Ci b a (x:=l) rfl (la (Ci b a (x:=vs) rfl (lr ?_)))))));refine la (iq u ?_);change wpAny _ _ (if(M == 0)=true then _ else _) _ _ s;rw[if_neg (by simpa using o)];exact la (iq k (la (iq prog (la (lr (lr n))))))
def Sr {l:Addr}{r o:Value}{t:Option Int}(j:IsTup s.heap f Y)(u:s.heap.IsSliceOf l r o vs)(x:Ay r h)(y:Ay o t)(n:Ay vs (some M))(z:M≠0)(B:M≠1)(i:Q (.ref s.heap.objs.size) { s with heap:=s.heap.push { cls:=.type "tuple",data:=.seq (gy Y.toList (bC Y.size h t M).1 (bC Y.size h t M).2 M).toArray } })(hz:(bC Y.size h t M).2<=mK):wpAny (model q v) T (OI (.ref f) (.ref l)) Q E s:=by
 have ok:sizeOk (.seq (gy Y.toList (bC Y.size h t M).1 (bC Y.size h t M).2 M).toArray):=by show(gy Y.toList (bC Y.size h t M).1 (bC Y.size h t M).2 M).toArray.size<=mK;rw[ox];exact pe (uA ..) hz
 obtain⟨os,b,a,c⟩:=id u;have ty:s.TypeIs (.ref l) "slice":=⟨os,b,a⟩
 unfold OI;try with_reducible refine vn ?_
 first|refine la (lr ?_)|skip
 refine la (adw j.typeIs (by decide) (la (Nd (name:=F6 "__getitem__") j.typeIs L2 (zy L2 j.typeIs ae1 ?_ (afi _ _)))));change wpAny _ _ (ac1 (.ref f) >>= λ_=>_) _ _ s;refine la (agO j (la (U0 ty ?_)));rw[if_pos (by decide)];refine la (GC u x y n z ?_);have p:¬(((bC Y.size h t M).1 == 0&&M == 1&&(bC Y.size h t M).2 == Y.size)=true):=by intro k;rw[l8,l8]at k;exact B (eq_of_beq k.1.2)
 change wpAny _ _ (if((bC Y.size h t M).1 == 0&&M == 1&&(bC Y.size h t M).2 == Y.size)=true then _ else _) _ _ s;rw[if_neg p];have e:((nJ (bC Y.size h t M).2).filterMap λ(m:Nat)=>Y[((bC Y.size h t M).1+(m:Int)*M).toNat]?).toArray=(gy Y.toList (bC Y.size h t M).1 (bC Y.size h t M).2 M).toArray:=by unfold gy;simp only[adC]
 rw[e];first
  |exact la (m:=Uv _) (x3 (lr ⟨_,rfl,lr i⟩) ok)
  |exact la (m:=Uv _) (x3 (la (lr (lr ⟨_,rfl,lr i⟩))) ok)
  |exact la (la (m:=Uv _) (x3 (lr (lr ⟨_,rfl,lr i⟩)) ok))
  |exact la (la (m:=Uv _) (x3 (lr ⟨_,rfl,lr i⟩) ok))
def DM {J N:Option Expr}{M:FO}(O:DE X e C)(P:DO X J d)(hu:DO X N M)(S:DO X (some K) fs):DE X (.Subscript e (.Slice J N (some K) a) m) (w9 C d M fs):=.of (by
 intro a8 s σ H Q I h;obtain⟨ι,R,g,E,g',G0,S0,h,p⟩:=h;obtain⟨⟨d1,g1⟩,h1,h⟩:=bind_some h;obtain⟨⟨l,g2⟩,h2,h⟩:=bind_some h;obtain⟨⟨u,g3⟩,h3,h⟩:=bind_some h;obtain⟨⟨k,g4⟩,h4,h⟩:=bind_some h;refine Subscript_ (bf (O.un a8 s σ H (λx U=>∃f,Ext H ι U f/\aA X.kw U f g1/\bQ X.kw U f R σ/\Rel X.kw U f d1 x) I ⟨ι,R,g,d1,g1,G0,S0,h1,λU f v e1 G1 r1=>⟨f,e1,G1,S0.ext e1,r1⟩⟩) λv s1 j=>?_);obtain⟨x,U,I1,r1,f,e1,G1,S1,rd⟩:=j;refine wpAny_Slice (bf (P.un a8 s1 σ U (λo y=>o=l /\ ∃r,Ext U f y r/\aA X.kw y r g2) I1 ⟨f,R,g1,l,g2,G1,S1,h2,λy r e2 G2=>⟨rfl,r,e2,G2⟩⟩) λvl s2 j=>?_);obtain⟨o,y,I2,pl,eo,r,e2,G2⟩:=j;subst eo;refine bf (hu.un a8 s2 σ y (λo z=>o=u /\ ∃i,Ext y r z i/\aA X.kw z i g3) I2 ⟨r,R,g2,u,g3,G2,S1.ext e2,h3,λz i e3 G3=>⟨rfl,i,e3,G3⟩⟩) λvu s3 j=>?_;obtain⟨o',z,I3,pu,eo,i,e3,G3⟩:=j;subst eo;refine bf (S.un a8 s3 σ z (λo H4=>o=k /\ ∃B,Ext z i H4 B/\aA X.kw H4 B g4) I3 ⟨i,R,g3,k,g4,G3,S1.ext (e2.trans e3),h4,λH4 B e4 G4=>⟨rfl,B,e4,G4⟩⟩) λvs Y j=>?_;obtain⟨ab,H4,I4,ps,eo,B,e4,G4⟩:=j;subst eo;have zx:=Rel.ext (e2.trans (e3.trans e4)) _ rd;obtain⟨xs,kk,rfl,ek,z0,z1,z2,rfl,rfl⟩:=DL h;cases ek;obtain⟨L,ws,rfl,hq,hr⟩:=zx;cases r1;have I5:lb X a8 σ H4 { Y with heap:=Y.heap.push { cls:=.type "slice",data:=.fields #[vl,vu,vs] } }:=I4.kept (t':=Y.toks) λb ob q=>nz _ q;obtain⟨aw,rv,pt,hz⟩:=I5.tuple hq.sq;have Z:aw.toArray.size=xs.length:=by rw[ox,<- rv.length,<- hr.length]
 change wpAny (model X.prog X.w) X.A (agP e (.Slice J N (some K) a) (.ref L) (.ref Y.heap.objs.size)) (EP X a8 σ Q) X.xe { Y with heap:=Y.heap.push { cls:=.type "slice",data:=.fields #[vl,vu,vs] } };refine tail_any (ops:=[.ref L,.ref Y.heap.objs.size]) pt.typeIs L2.lookup ?_ (by with_unfolding_all rfl);refine Sr pt (ag5 ..) pl pu ps z0 z1 ?_ (by rw[Z];exact aC.le z2);rw[Z];have hp:∀{α:Type} (ys:List α) (l:Int) (n:Nat) (c:Int),gy ys l n c=(Oj 0 n).filterMap λ(k:Nat)=>ys[(l+(k:Int)*c).toNat]?:=λys l n c=>by unfold gy;rw[List.range_eq_range']
 have kh:=I5.fresh;refine⟨.ref _,_,I5.laid (t':=Y.toks) (o:=.tup (gy ws (bC xs.length o o' kk).1 (bC xs.length o o' kk).2 kk)) (λb ob q=>nz _ q) (mn _) ⟨pe (uA ..) (aC.le z2),_,by rw[hp,hp];exact uB rv _ _ _ _,fI.new _ _⟩,rfl,?_⟩;refine p _ B _ ((e1.trans (e2.trans (e3.trans e4))).trans (Ext.lay kh)) (G4.lay kh) ?_;simp only[Rel];refine⟨_,_,rfl,.inl ⟨.inl aT,G4.fresh kh⟩,?_⟩;rw[hp,hp];exact ao.ext (Ext.lay kh) _ (ao.pick hr _ _ _ _))
@[simp] def KL {c:FO}:w9 C d c fs k r=(C k r).bind λb=>(d k b.2).bind λl=>(c k l.2).bind λh=>(fs k h.2).bind λa=>td b.1 l.1 h.1 a.1 a.2:=rfl
noncomputable def di (a b:D)(g:G):Option (D×G):=if(flat a&&flat b&&decide (dep a<=60))=true then some (.bl (!bF a b),g)else none
def Ot (hu:X.A.units+64<cLine):bS X (tA .NotEq) (dW X.kw di):=by
 intro r s B H x y v u Q I b f q;obtain⟨n,g,a,h,d,i,G0,c,e,q,p⟩:=q;unfold di at q;split at q
 . rename_i z
   simp only[l8,decide_eq_true_eq]at z;cases q;exact(Iy I a h z.1.1 z.1.2 c e b f (by omega)).2 _ _ _ _ ⟨.bl _,H,I,rfl,p H n _ Ext.refl G0 (by simp[Rel])⟩
 . cases q
@[simp] def Y6 {b:D}:di c b r=if(flat c&&flat b&&decide (dep c<=60))=true then some (.bl (!bF c b),r)else none:=rfl
noncomputable def fE:List D->Option (List Int)
 | []=>some []|.int i::ds=>(fE ds).map (i :: ·)|_=>none
def Bu (h:fE (c::A)=some J):∃i n,c = .int i/\J=i::n/\fE A=some n:=by
 cases c with
 |int i =>
  simp only[fE,pM]at h;obtain⟨n,a,rfl⟩:=h;exact⟨i,n,rfl,rfl,a⟩
 |_=>simp[fE]at h
theorem oo {K H ι}:∀{u:List D} {vs:List V} {n:List Value} {p:List Int},fE u=some p->ao K H ι u vs->Vals vs n->zY n p
 | [],vs,n,p,h,r,q=>by cases r;cases q;cases h;exact .nil
 |d::ds,vs,n,p,h,r,q=>by
  obtain⟨i,B,rfl,rfl,a⟩:=Bu h;obtain⟨v,c,rfl,rfl,b⟩:=r;cases q with
  |cons x y =>
   obtain⟨t,rfl⟩:=x;exact .cons i t (oo a b y)
theorem mS:∀{i:List Value} {q:List Int},zY i q->∃c:List (Int×Tok),i=c.map (λp=>afd p.1 p.2)/\q=c.map (·.1)
 |_,_,.nil=>⟨[],rfl,rfl⟩|_,_,.cons n t h=>by obtain⟨c,rfl,rfl⟩:=mS h;exact⟨(n,t)::c,rfl,rfl⟩
noncomputable def iA (ds:List D)(g:G):Option (D×G):=match ds with| [d]=>(i8 d g).bind λc=>(fE c).bind λh=>h.min?.map λm=>(.int m,g)|_=>none
def KN (hh:X.A.handled=none):dX X (.builtin "min") (kS X.kw iA):=by
 intro a8 s σ H xs us Q I r q;obtain⟨n,g,ds,d,g',G0,B,q,p⟩:=q;cases ds with
 |nil=>cases q|cons e C =>
 cases C with
 |cons _ _=>cases q
 |nil =>
  simp only[iA]at q;obtain⟨ys,E,q⟩:=bind_some q;obtain⟨ns,l,q⟩:=bind_some q;obtain⟨m,hm,q⟩:=pM.mp q;cases q;obtain⟨v,_,rfl,o,rfl⟩:=B;obtain⟨a,vs,rfl,hq,u⟩:=mQ G0 o E;cases r with
  |cons J O =>
   cases O;cases J;obtain⟨aw,R,z,_⟩:=I.list hq;obtain⟨b,rfl,rfl⟩:=mS (oo l u R);obtain⟨k,x⟩:=agz.mp hm;have hi:(b.map (λp=>afd p.1 p.2)).toArray=intItems b.toArray:=by simp[intItems]
   have c:=z.isList;rw[hi]at c;have h:0<b.toArray.size:=by
    cases b with
    |nil=>simp at k|cons _ _=>simp
   refine min_intList hh c h λv h' tk y U=>?_;obtain⟨t,rfl⟩:=intItems_at y;obtain⟨h1,h2⟩:=argBest_lt (numAt b.toArray) (b.toArray.size-1);have e:numAt b.toArray (argBest (λi j=>decide (numAt b.toArray i<numAt b.toArray j)) (b.toArray.size-1))=m:=by
    have Y:∀j,j<b.length->numAt b.toArray j=(b.map (·.1)).getD j 0:=λj f=>by rw[agK]
    have Z:numAt b.toArray (argBest (λi j=>decide (numAt b.toArray i<numAt b.toArray j)) (b.toArray.size-1))∈b.map (·.1):=by rw[agK];exact getD_mem (by rw[n7];simp at h h1 ⊢;omega)
    refine Int.le_antisymm ?_ (x _ Z);obtain⟨j,f,ej⟩:=mem_getD k;rw[<- ej];have:=h2 j (by simp at f ⊢;omega);rw[agK]at this;rw[agK];simpa[agK]using this
   rw[e];exact⟨.int m,H,I.kept U,⟨_,rfl⟩,p H n _ Ext.refl G0 (by simp[Rel])⟩
theorem baR:∀{c:List Value} {i:List Int},zY c i->Vals (i.map V.int) c
 |_,_,.nil=>.nil|_,_,.cons n t h=>.cons ⟨t,rfl⟩ (baR h)
theorem rF {K:KW}{H:Hp}{h:Ix}:∀c:List Int,ao K H h (c.map D.int) (c.map V.int)
 | []=>by simp[ao]|n::c=>by simp only[wk,ao];exact⟨_,_,rfl,by simp[Rel],rF c⟩
noncomputable def Ss (i j k:Nat)(b:TA):TS:=λD c H=>b c H λa h=>∃v w z,a = [v,w,z]/\D.nx (((c.set i (some v)).set j (some w)).set k (some z)) h
def KO {y z:Str}{M:TA}{B:Pos}{kt k2 pt2}(U:X.calm=true)(E:X.N.Nodup)(P:X.N[i]? = some x)(Y:X.N[j]? = some y)(S:X.N[o]? = some z)(W:i≠j)(Q:i≠o)(T:j≠o)(L:X.env.scope.names.lookup x=some .local)(k:X.env.scope.names.lookup y=some .local)(hz:X.env.scope.names.lookup z=some .local)(O:PA X [e,K,n] M)(hw:Qh [.Tuple [.Name x a,.Name y m,.Name z l] kt g] (.Tuple [e,K,n] k2 pt2) X.env=pure (some [x,y,z]))(Z:TL [.Tuple [.Name x a,.Name y m,.Name z l] kt g] (.Tuple [e,K,n] k2 pt2) B.line X.env=pure false):
  qU X (.Assign [.Tuple [.Name x a,.Name y m,.Name z l] kt g] (.Tuple [e,K,n] k2 pt2) B) (Ss i j o M):=by
 intro a8 s σ H D I h;rw[exec_Assign_arm];refine la (aeu ?_);rw[Z];refine la (lr ?_);rw[if_neg (by decide)];refine la (Tuple_ (bf (O _ a8 s σ H _ I h) λus s1 aS=>?_));obtain⟨vs,H1,I1,r1,r⟩:=aS;obtain⟨v,w,u,e1,r⟩:=r;subst e1;obtain⟨c,f,C,rfl,rv,vZ,ru⟩:∃c f C,us = [c,f,C]/\lX v c/\lX w f/\lX u C:=by
  cases r1 with
  |cons p q =>
   cases q with
   |cons p' q' =>
    cases q' with
    |cons R q'' =>
     cases q'';exact⟨_,_,_,rfl,p,p',R⟩
 refine x3 ?_ (by show 3<=mK;decide);have I2:lb X a8 σ H1 { s1 with heap:=s1.heap.push { cls:=.type "tuple",data:=.seq [c,f,C].toArray } }:=I1.kept (t':=s1.toks) λK b J=>nz _ J;rw[hw];refine la (lr ?_);show wpAny (model X.prog X.w) X.A (do rule "assign.swapped-stores";let items <- unpackItems (.ref s1.heap.objs.size) 3 none;aet [λv=>OF X.env z v,λv=>OF X.env y v,λv=>OF X.env x v] items.reverse;pure ag2) _ _ _;refine la (yo (la (unpackItems_tuple (items:=#[c,f,C]) (I.ok.hd U) (IsTup.new s1.heap _) λh' kQ=>?_)));have I3:=I2.kept (h':=h') (t':=s1.toks) λK b J=>kQ K b (p8 (nC J)) J;show wpAny _ _ (aet [λv=>OF X.env z v,λv=>OF X.env y v,λv=>OF X.env x v] [C,f,c] >>= λ_=>pure ag2) _ _ _;refine la (Zx (aec (fV I3 E S (.inl hz) ru (λs2 I4=>?_) (.inr hz))));refine Zx (aec (fV I4 E Y (.inl k) vZ (λs3 I5=>?_) (.inr k)));refine Zx (aec (fV I5 E P (.inl L) rv (λs4 I6=>afA (lr ?_)) (.inr L)));rw[afu _ _ (qP W),afu _ _ (qP Q),afu _ _ (qP T)]at I6;exact⟨_,H1,I6,r⟩
noncomputable def rG (i j k:Nat)(fr:FA):FS:=λh g=>(fr h g).bind λr=>match r.1 with
 | [a,b,c]=>some (.nx,((h.set i (some a)).set j (some b)).set k (some c),r.2)|_=>none
def KP {y z:Str}{A:Pos}{kt k2 pt2}(O:X.calm=true)(P:X.N.Nodup)(I:X.N[i]? = some x)(T:X.N[j]? = some y)(b:X.N[o]? = some z)(Q:i≠j)(J:i≠o)(M:j≠o)(S:X.env.scope.names.lookup x=some .local)(L:X.env.scope.names.lookup y=some .local)(hz:X.env.scope.names.lookup z=some .local)(E:DA X [e,K,n] w)(hw:Qh [.Tuple [.Name x a,.Name y m,.Name z l] kt g] (.Tuple [e,K,n] k2 pt2) X.env=pure (some [x,y,z]))(U:TL [.Tuple [.Name x a,.Name y m,.Name z l] kt g] (.Tuple [e,K,n] k2 pt2) A.line X.env=pure false):
  DS X (.Assign [.Tuple [.Name x a,.Name y m,.Name z l] kt g] (.Tuple [e,K,n] k2 pt2) A) (rG i j o w):=.of (
 qU.imp (KO O P I T b Q J M S L hz E.un hw U) λDn σ H h=>by
  obtain⟨ι,C,k,r,cy,g',G0,R,h,p⟩:=h;obtain⟨⟨ds,g1⟩,s,h⟩:=bind_some h;refine iy.bind G0 R s λY B vs f c q Z=>?_;dsimp only at h;split at h
  . rename_i e K n
    cases h;obtain⟨v,vr,rfl,fr,u,ur,rfl,px,t,tr,rfl,rc,rfl⟩:=Z;exact⟨v,u,t,rfl,p Y B f c _ (((q.set fr i).set px j).set rc o)⟩
  . cases h)
@[simp] def Xs:rG i j o w k r=(w k r).bind λh=>match h.1 with
 | [a,b,c]=>some (.nx,((k.set i (some a)).set j (some b)).set o (some c),h.2)|_=>none:=rfl
@[simp] def Xt:iA [c] r=(i8 c r).bind λh=>(fE h).bind λi=>i.min?.map λm=>(.int m,r):=rfl
def nO {l:Addr}{i:Value}{k:Option Int}(j:IsTup s.heap f Y)(o:s.heap.IsSliceOf l vs i .none)(n:Ay vs h)(u:Ay i k)(hw:bz Y.size 0 h=0/\bz Y.size Y.size k=Y.size)(r:Q (.ref f) s):wpAny (model q v) T (OI (.ref f) (.ref l)) Q E s:=by
 obtain⟨os,e,a,t⟩:=id o;have c:s.TypeIs (.ref l) "slice":=⟨os,e,a⟩
 unfold OI;try with_reducible refine vn ?_
 first|refine la (lr ?_)|skip
 refine la (adw j.typeIs (by decide) ?_);refine la (Nd (name:=F6 "__getitem__") j.typeIs L2
  (zy L2 j.typeIs ae1 ?_ (afi _ _)))
 show wpAny _ _ (ac1 (.ref f) >>= _) _ _ s;refine la (agO j ?_);refine la (U0 c ?_);rw[if_pos (by decide)];refine la (j7 o n u ?_);have b:((((bz Y.size 0 h:Nat):Int)== 0&&(1:Int)== 1&&(bz Y.size Y.size k-bz Y.size 0 h)== Y.size)=true):=by rw[hw.1,hw.2];simp
 show wpAny _ _ (if(((bz Y.size 0 h:Nat):Int)== 0&&(1:Int)== 1&&(bz Y.size Y.size k-bz Y.size 0 h)== Y.size)=true then _ else _) _ _ s;rw[if_pos b];unfold Builtin.Tuple.tupleIsExact;refine la (la (U0 j.typeIs (lr ?_)));rw[if_pos (by decide)];refine la (yo (lr ⟨_,rfl,lr r⟩))
noncomputable def Xv (K:KW):V->Option Int->Option Int->Hp->VK->Prop:=λx h b H Q=>∃a c,x = .ref a/\fu K H a c/\(bz c.length 0 h=0/\bz c.length c.length b=c.length)/\Q (.ref a) H
def GD:pT X (Xv X.kw):=by
 intro B s C H x v y o E u l Q I e c i pu h;obtain⟨a,p,rfl,f,hw,q⟩:=h;cases e;obtain⟨j,r,b,k⟩:=I.tuple f;have n:j.toArray.size=p.length:=by rw[ox];exact r.length.symm
 refine⟨"tuple",_,L2.lookup,b.typeIs,?_⟩;exact nO b c i pu (by rw[n];exact hw) ⟨.ref a,H,I,rfl,q⟩
noncomputable def gH (d:D)(b a:Option Int)(g:G):Option (D×G):=match d with
 |.tup c=>some (.tup (qt c b a),g)|d=>Ob d b a g
def DN {a:Option Int}(c:lR A.length h a=true):qt A h a=A:=by unfold lR at c;rw[l8,decide_eq_true_eq,decide_eq_true_eq]at c;unfold qt;rw[c.1,c.2];simp
noncomputable def dj (b:FE)(c a:FO):FE:=λi g=>(b i g).bind λr=>(c i r.2).bind λl=>(a i l.2).bind λh=>gH r.1 l.1 h.1 h.2
def DP {K E:Option Expr}(A:DE X e C)(M:DO X K d)(hh:DO X E fs):DE X (.Subscript e (.Slice K E none a) m) (dj C d fs):=.of (
 PE.imp (FU (pT.or Kx GD) A.un M.un hh.un) λσ H Q h=>by
  obtain⟨ι,O,g,I,g',G0,S0,h,p⟩:=h;obtain⟨⟨d1,g1⟩,h1,h⟩:=bind_some h;obtain⟨⟨l,Z⟩,h2,h⟩:=bind_some h;obtain⟨⟨u,g3⟩,h3,h⟩:=bind_some h;refine tD.bind G0 S0 h1 λH1 R v e1 G1 S1 r1=>?_;refine⟨R,O,g1,l,Z,G1,S1,h2,λH2 U s G2=>?_⟩;refine⟨U,O,Z,u,g3,G2,S1.ext s,h3,λr Y y i=>?_⟩;have k:=Rel.ext (s.trans y) _ r1;have x:=p.mono (e1.trans (s.trans y));have lst:∀{B:List D} {e:Addr} {f:List V},v = .ref e->dF X.kw r e f->ao X.kw r Y B f->some (D.lst (qt B l u),g3)=some (I,g')->Od X.kw v l u r Q:=fun {B e f} ev j J hh=>by cases hh;refine .inr ⟨e,f,ev,j,λq b=>x _ _ _ (Ext.lay b) (i.lay b) ?_⟩;simp only[Rel];exact⟨q,_,rfl,.inl ⟨.inl aT,i.fresh b,i.iw b⟩,ao.ext (Ext.lay b) _ (J.Oc l u)⟩
  dsimp only at h;cases d1 with
  |tup B =>
   simp only[gH]at h;cases h;have r4:=k;obtain⟨e,f,rfl,j,J⟩:=k;by_cases z:lR B.length l u=true
   . refine .inr ⟨e,f,rfl,j.sq,?_,x _ _ _ Ext.refl i ?_⟩
     . unfold lR at z
       rw[J.length,l8,decide_eq_true_eq,decide_eq_true_eq]at z;exact z
     . rw[DN z];exact r4
   . refine .inl (.inl ⟨e,f,rfl,j.sq,λc=>z ?_,λq b=>x _ _ _ (Ext.lay b) (i.lay b) ?_⟩)
     . unfold lR
       rw[J.length,l8,decide_eq_true_eq,decide_eq_true_eq];exact c
     . simp only[Rel]
       exact⟨q,_,rfl,.inl ⟨.inl aT,i.fresh b⟩,ao.ext (Ext.lay b) _ (J.Oc l u)⟩
  |lst B =>
   simp only[gH,Ob]at h;obtain⟨e,f,o,j,J⟩:=k;exact .inl (lst o j.sq J h)
  |ref n =>
   simp only[gH,Ob]at h;split at h
   . rename_i B hx
     obtain⟨e,o,A⟩:=k;obtain⟨f,hv,J⟩:=i.at hx A;exact .inl (lst o (.of hv) J h)
   . cases h
  |_=>cases h)
@[simp] def zz:dj C d fs k r=(C k r).bind λb=>(d k b.2).bind λl=>(fs k l.2).bind λh=>gH b.1 l.1 h.1 h.2:=rfl
mutual
noncomputable def sm:D->Bool
 |.ay=>true|.bl _=>true|.int i=>decide (i.natAbs<10 ^ 19)|.str x=>decide ((reprText x).length<=20)|.tup c=>UX c|.lst _=>false|.eM=>false|.ref _=>false|.bu _=>false|.fn _ _=>false
noncomputable def UX:List D->Bool
 | []=>true|d::ds=>sm d&&UX ds
end
mutual
noncomputable def nd:D->Nat
 |.tup c=>UY c+1|_=>1
noncomputable def UY:List D->Nat
 | []=>0|d::ds=>nd d+UY ds
end
noncomputable def kz (nn L:Nat)(t:FG)(c:FT)(e:FE):Nat->Sg->G->Option (List D×G)
 | 0,_,g=>(g[nn]?).bind λh=>if h.length=L then some ([],g)else none|r+1,i,g=>(g[nn]?).bind λh=>if h.length=L then(h[L-(r+1)]?).bind λd=>(t d i g).bind λq=>(c q.1 q.2).bind λk=>if k.1=true then(e q.1 k.2).bind λa=>(kz nn L t c e r q.1 a.2).bind λz=>some (a.1::z.1,z.2)else kz nn L t c e r q.1 k.2 else none
abbrev pZ:=Sg->G->Option (Nat×Nat×G)
def Bv (K:KW)(J:It)(H:Hp)(r:Ix)(nn L:Nat):Prop :=
 ∀(i:Nat) h c p,jI H r h c->aA K h c p->∀q,p[nn]? = some q->q.length=L->(L<=i->J.stop i h) /\ ∀d,q[i]? = some d->J.go i h /\ ∀x n,J.Cw i h x n->Ext h c n c/\aA K n c p/\Rel K n c d x
inductive Ov (K:KW)(f:pZ)(σ:lU)(H:Hp)(R:(It->Hp->Prop)):Prop
 |mk (ι:Ix) (σd:Sg) (g:G) (nn:Nat) (L:Nat) (g':G) (h0:aA K H ι g) (h1:bQ K H ι σd σ) (h2:f σd g=some (nn,L,g')) (h3:∀H' ι' J,Ext H ι H' ι'->aA K H' ι' g'->Bv K J H' ι' nn L->R J H'):Ov K f σ H R
structure IC (X:Cx)(tg iter:Expr)(f:pZ):Prop where of ::
 un:PI X tg iter (Ov X.kw f)
noncomputable def GF (f:FE):pZ:=λc g=>(f c g).bind λr=>match r.1 with|.ref n=>(r.2[n]?).bind λh=>some (n,h.length,r.2)|_=>none
def Bv.ref {K H ι a n L}(h:eG ι n a false):Bv K (HU K a) H ι n L:=λi p s u k e B o r=>by obtain⟨vs,l,c⟩:=e.at o (k.at h);have b:dF K p a vs:=.inl (.inl l);refine⟨λh=>⟨vs,b,by rw[<- c.length];omega⟩,λd hd=>?_⟩;obtain⟨v,f,j⟩:=c.get hd;refine⟨⟨vs,v,b,f⟩,λx q y=>?_⟩;obtain⟨rfl,y⟩:=y;have:=y vs b;rw[f]at this;cases this;exact⟨Ext.refl,e,j⟩
def zA (B:DE X K C):IC X e K (GF C):=.of (PI.imp (yR B.un) λI H Q h=>by
 obtain⟨J,z,g,nn,L,u,G0,s,h,p⟩:=h;obtain⟨⟨j,O⟩,i,h⟩:=bind_some h;cases j with
 |ref n =>
  obtain⟨R,r,h⟩:=bind_some h;cases h;refine tD.bind G0 s i λE o v tg c y k=>?_;obtain⟨a,rfl,b⟩:=k;obtain⟨q,f,x⟩:=c.at r b;exact⟨a,rfl,⟨q,.inl (.inl f)⟩,p E o _ tg c (.ref b)⟩
 |_=>cases h)
noncomputable def lT (mk:List D->G->Option (D×G))(a:pZ)(fr:List (Option Nat))(t:FG)(c:FT)(e:FE):FE:=λh g=>(a h g).bind λr=>if aC r.2.1=true then(kz r.1 r.2.1 t c e r.2.1 (cz fr h) r.2.2).bind λq=>mk q.1 q.2 else none
noncomputable def Ow (a:pZ):q_:=λc g=>(a c g).map λr=>(λg=>g[r.1]?,r.2.1,r.2.2)
def zB {v:pZ}(h:IC X e K v):wJ X e K (Ow v):=.of (PI.imp h.un λx H Q q=>by obtain⟨n,o,g,sh,L,s,G0,r,j,p⟩:=q;obtain⟨⟨nn,f,u⟩,k,tg⟩:=pM.mp j;cases tg;exact⟨n,o,g,nn,f,u,G0,r,k,λb c J a i l=>p b c J a i l⟩)
theorem w_ {nn L:Nat}{t:FG}{c:FT}{e:FE}:∀(k:Nat) (h:Sg) (g:G),kz nn L t c e k h g=dY (λg=>g[nn]?) L t c e k h g
 | 0,h,g=>by simp only[kz,dY]|k+1,h,g=>by simp only[kz,dY,w_ k]
def xa {a:pZ}:lT R a I t u C=kj R (Ow a) I t u C:=by
 funext σ g;unfold lT kj Ow;cases a σ g with
 |none=>rfl|some r=>simp only[mI,Ol,w_]
def GG {v:pZ}(i:X.xe=λ_ _=>False)(b:X.calm=true)(ok:eZ X Z I O)(c:IC X e K v)(f:∀tg p H q r,DG (bw X Z O tg p H q r) e t/\gP (bw X Z O tg p H q r) B u/\DE (bw X Z O tg p H q r) n C)(h:∀x,A8 K X.env x=pure x):DE X (.ListComp n [⟨e,K,B,0⟩] O a) (lT bR v I t u C):=by
 rw[xa];exact wM i b ok (zB c) f h
@[simp] def Y7:GF C k r=(C k r).bind λc=>match c.1 with|.ref h=>(c.2[h]?).bind λi=>some (h,i.length,c.2)|_=>none:=rfl
@[simp] def UZ {a:pZ}:lT R a I t u C k r=(a k r).bind λmk=>if aC mk.2.1=true then(kz mk.1 mk.2.1 t u C mk.2.1 (cz I k) mk.2.2).bind λq=>R q.1 q.2 else none:=rfl
def GH {v:FI}(i:X.xe=λ_ _=>False)(b:X.calm=true)(ok:eZ X Z I O)(c:DI X e K v)(f:∀tg p H q r,DG (bw X Z O tg p H q r) e t/\gP (bw X Z O tg p H q r) B u/\DE (bw X Z O tg p H q r) n C)(h:∀x,A8 K X.env x=pure x):DE X (.ListComp n [⟨e,K,B,0⟩] O a) (bO jE v I t u C):=by
 rw[oY];exact uz i b ok (oh c) f h
noncomputable def cj:FE:=λ_ _=>none
def bX:DE X e cj:=.of (λi s n H Q I h=>by obtain⟨q,b,g,d,a,G0,c,h,p⟩:=h;cases h)
@[simp] def Xw:cj k r=none:=rfl
end
section
open PyProof.Rows
open Sem (wp)
open Builtin
def bax:fillsNumberSlot (.type "list") "mul" = pure false :=
 afO (id:="list.__mul__") (r:=some (.builtin "list.__rmul__")) F.slot_list_mul.lookup (by decide +kernel) F.slot_list_rmul.lookup (by decide +kernel)
def bay:agH (.type "list")=pure (some (.builtin "list.__mul__")):=by unfold agH;rw[aeC (T:="list") (name:="__mul__") (id:="list.__mul__") F.slot_list_mul.lookup (by decide +kernel),aeC (T:="list") (name:="__rmul__") (id:="list.__rmul__") F.slot_list_rmul.lookup (by decide +kernel)];rfl
def vg (a:Int)(t:Tok)(l:Addr)(p:Array Value)(n:Nat)(i:Option Addr)(f:Array (Option Value)):
  Meets (tW.«int.__rmul__» ⟨[.int a t,.ref l],[]⟩) (λ_ R s=>s.heap.get? l=some { cls:=.type "list",dict:=i,data:=.seq p n,slots:=f }/\R (.ok (.ret agI)) s):=
 .of_wp λprog w A R s h=>by obtain⟨e,g,d,c,os⟩:=s;obtain⟨b,h⟩:=h;wp_walk;exact⟨_,rfl,h⟩
def DQ (l:Addr)(p:Array Value)(n:Nat)(i:Option Addr)(f:Array (Option Value))(x:Int)(u:Tok)(j:¬(!adT x)=true)
  (q:¬p.size*x.toNat>(2 ^ 63-1) / 8) (k:¬adh (p.size*x.toNat)=true) (e:p.isEmpty=false) (o:((m6 x.toNat p).foldl (· ++ ·) #[]).size<=mK):
  Meets (tW.«list.__mul__» ⟨[.ref l,.int x u],[]⟩) (λ_ R s=>s.heap.get? l=some { cls:=.type "list",dict:=i,data:=.seq p n,slots:=f }/\R (.ok (.ret (AJ s.heap.objs.size))) { s with heap:=s.heap.push { cls:=tO "list",data:=Data.seq ((m6 x.toNat p).foldl (· ++ ·) #[]) },toks:=s.toks }):=
 .of_wp λprog w A R s h=>by
  obtain⟨c,g,d,b,os⟩:=s;obtain⟨a,h⟩:=h;have r:=adO;have v:=agk
  wp_walk using M9 a
  exact⟨_,rfl,by rw[if_neg (by simp[e])];exact h⟩
noncomputable def Su (K:KW):R2:=λx y H Q=>∃a k c,x = .ref a/\y = .int k/\dF K H a c/\c ≠ []/\0<=k/\k<2 ^ 62/\c.length*k.toNat<=16777216 /\ ∀p,H p=none->Q (.ref p) (upd H p (.lst (m6 k.toNat c).flatten))
def zC:bS X (th .Mult) (Su X.kw):=by
 intro a8 s σ H x y v u Q I B C h;obtain⟨a,k,E,rfl,rfl,hq,J,h1,h2,l,O⟩:=h;cases B;obtain⟨t,rfl⟩:=C;obtain⟨c,r,ht,ZX⟩:=I.list hq;have R:=r.length;obtain⟨⟨cls,dd,data,o⟩,n,f,z,j,hd⟩:=id ht;simp only at z hd j;subst z hd j;refine wpAny_binaryOp_repeat_ref (T:="list") (U:="int") (by decide) ⟨_,f,rfl⟩ (λY=>afL Y k t) bax F.fills_int_mul F.slot_int_rmul bay F.slot_int_index.lookup
   (Q7 F.slot_int_rmul (afL s k t) F.entry_int_rmul (F.args_int_rmul_2 _ _) (vg k t a c.toArray n none o) ⟨f,rfl,⟨_,f,rfl⟩,?_⟩)
 have hi:c ≠ []:=λe=>J (by subst e;cases r;rfl);have fresh:H s.heap.objs.size=none:=I.aY.fresh (mn _);have p:ahU (λZ x2=>Z++x2) #[] (m6 k.toNat c.toArray)=(m6 k.toNat c).flatten.toArray:=by have:=bam c k.toNat [];rw[P_]at this;exact this
 have i:mK=16777216:=HX;have q:c.length*k.toNat<=16777216:=by rw[<- R];exact l
 have Xx:¬(!adT k)=true:=by unfold adT;simp;omega
 have Sv:¬adh (c.toArray.size*k.toNat)=true:=by rw[FW (by rw[ox,i];exact q)];simp
 refine Q7 F.slot_list_mul ⟨_,f,rfl⟩ F.entry_list_mul (F.args_list_mul_2 _ _) (DQ a c.toArray n none o k t Xx (by rw[ox];omega) Sv (by simp[hi]) ?_) ⟨f,?_⟩
 . rw[p,ox,len_rep,XG,i];exact q
 . rw[p]
   refine⟨.ref _,_,I.laid (t':=s.toks) (λb u e=>nz _ e) (mn _) (show eC X.prog X.w _ _ _ (.lst (m6 k.toNat E).flatten) from⟨by rw[len_rep,XG,i];exact l,_,0,r.rep k.toNat,pR _ rfl⟩),rfl,O _ fresh⟩
noncomputable def pv (a b:D)(g:G):Option (D×G):=match a,b with
 |.lst c,.int k=>if(!c.isEmpty&&decide (0<=k)&&fR k&&aC (c.length*k.toNat))=true then some (.lst (m6 k.toNat c).flatten,g)else none|a,b=>bj a b g
def KQ:bS X (th .Mult) (dW X.kw pv):=by
 intro n s B H x y v u Q I j l q;obtain⟨C,g,E,J,d,o,G0,f,h,q,p⟩:=q;unfold pv at q;split at q
 . rename_i U k
   split at q
   . rename_i z
     simp only[l8,decide_eq_true_eq,wQ]at z;cases q;simp only[Rel]at f h;subst h;obtain⟨a,O,rfl,hq,c⟩:=f;have r:=fR.and z.1.2;have i:=aC.le z.2;rw[HX]at i;refine zC n s B H _ _ v u Q I j l ⟨a,k,O,rfl,rfl,hq.sq,?_,z.1.1.2,r.2,by rw[<- c.length];exact i,λR b=>?_⟩
     . intro e
       subst e;have:=c.length;simp at this;subst this;simp at z
     . refine p _ _ _ (Ext.lay b) (G0.lay b) ?_
       simp only[Rel];exact⟨R,_,rfl,.inl ⟨.inl aT,G0.fresh b,G0.iw b⟩,ao.ext (Ext.lay b) _ (c.rep _)⟩
   . cases q
 . exact wR n s B H x y v u Q I j l ⟨C,g,E,J,d,o,G0,f,h,q,p⟩
@[simp] def U1 {j:Int}:pv (.int M) (.int j) r=if cu M j=true then some (.int (M*j),r)else none:=rfl
@[simp] def U2:pv (.tup A) (.int M) r=bj (.tup A) (.int M) r:=rfl
@[simp] def U3:pv (.lst A) (.int M) r=if(!A.isEmpty&&decide (0<=M)&&fR M&&aC (A.length*M.toNat))=true then some (.lst (m6 M.toNat A).flatten,r)else none:=rfl
end
section
open PyProof.Rows
def Ox {c:Addr}{r:List V}(I:lb X b y H s)(u:fW X b H c)(i:dF X.kw H f r):f≠c:=λz=>by
 subst z;obtain⟨v,x,B,e,C,h⟩:=u;rcases i with i|⟨o,aw,n,hk,_⟩
 . rcases i with i|⟨o,i⟩<;>rw[v]at i<;>cases i
 . have p:X.base.get? f=some o:=I.ok.mod.lG f o hk
   rcases e with q|q
   . exact I.ok.qm f o p q
   . exact B5 _ (uf (nC (I.ok.bs f o p).1) q)
end
section
open PyProof.Rows SeqAt
variable {Z:Array sf}{U:Value}{R:Ix}
def gz (s:lO)(m:Nat)(u:Value):Prop:=∀(prog:te) (w:World) (A:og) (E:Value->lO->Prop) (Q:Bool->lO->Prop),Q true s->wpAny (model prog w) A (agd m u) Q E s
structure ID (A:og)(s:lO)(key:Value)(h:Int)(es:Array sf)(t:Nat->Bool):Prop where
 eq:∀i e,es[i]? = some e->e.hash=h->EqAt A s e.key key (t i)
 hs:∀i e,es[i]? = some e->t i=true->e.hash=h
 qk:gz s 8 key
 qe:∀e∈es,gz s 8 e.key
 rf:∀e∈es,e.key=key->e.hash=h
 un:∀i j,i<es.size->j<es.size->t i=true->t j=true->i=j
 st:∀x tk,key = .str x tk->∀i e,es[i]? = some e->isExactStrKey e.key=true->e.key.isStr x=t i
def qB {Q:Bool->lO->Prop}(f:gz s 8 U)(e:∀c∈Y,gz s 8 c)(prog:Q false s):wpAny (model q v) T (tableMayTell U Y) Q E s:=by
 unfold tableMayTell;split
 . exact lr prog
 refine la (f q v _ _ _ ?_);simp only[adR,ql,if_false];refine la (Ya _ (λrest r z=>z=s/\r=(none,()) /\ ∀c∈rest,gz s 8 c) _ ?_ ?_ _ _ ⟨rfl,rfl,e⟩)
 . rintro x rest r z ⟨rfl,rfl,a⟩
   refine la (a x rj q v _ _ _ ?_);simp only[adR,ql,if_false];exact lr ⟨rfl,rfl,λc b=>a c (pP _ b)⟩
 . rintro r z ⟨rfl,rfl,_⟩
   exact lr prog
def mT:i∈Cu Z.size (λi=>Z[i]?.map (·.hash)) M ↔ ∃e,Z[i]? = some e/\e.hash=M:=by
 unfold Cu;simp only[xX,ug,beq_iff_eq,pM];constructor
 . rintro⟨_,e,a,b⟩;exact⟨e,a,b⟩
 . rintro⟨e,a,b⟩;exact⟨(ac2.mp a).1,e,a,b⟩
def xb {es:Array sf}{h:Int}:(Cu es.size (λi=>es[i]?.map (·.hash)) h).Nodup:=by unfold Cu;exact aeD.sublist Pp
def tf {o:Obj}{es:Array sf}{h:Int}{t:Nat->Bool}{Q:Option Nat->lO->Prop}(C:s.heap.get? f=some o)(B:o.data = .dict es i)(K:ID T s U h es t)(I:(∀A,A<es.size->t A=false)->Q none s)(H:∀A,A<es.size->t A=true->Q (some A) s):
  wpAny (model q v) T (dictFind f U h) Q E s:=by
 have none_of:(∀A∈Cu es.size (λA=>es[A]?.map (·.hash)) h,t A=false)->Q none s:=λz=>I λA c=>by
  cases ht:t A with
  |false=>rfl
  |true =>
    have k:=HM c;rw[z A (mT.mpr ⟨_,k,K.hs A _ k ht⟩)]at ht;cases ht
 have gen:∀tells:Bool,tells=false->wpAny (model q v) T (do
    let mut p:Option Nat:=none
    for A in Cu es.size (λA=>es[A]?.map (·.hash)) h do
      if let some e:=es[A]? then
        if e.hash == h then
          let before <- dictEpoch f (keyPart U);let same <- eqBool e.key U
          if(<- dictEpoch f (keyPart U)) != before then unsupported "dict.changed-during-lookup"
          if same then
            if p.isSome then unsupported "dict.find:order-among-keys-of-one-hash"
            rule "dict.find.hit"
            if((Cu es.size (λA=>es[A]?.map (·.hash)) h).filterMap λA=>es[A]?.map (·.key)).length<2 then return some A
            p:=some A
          else
            rule "dict.find.same-hash-other-key"
            if tells && !(0<=h&&h<32)then unsupported "dict.find:asked-again-or-not-hangs-on-the-table"
    return p) Q E s:=λtells u=>by
  subst u
  refine la (Ya _ (λrest (b:Option (Option Nat)×Option Nat) z=>z=s /\ ∃done,Cu es.size (λA=>es[A]?.map (·.hash)) h=done++rest/\b.1=none /\
    ((b.2=none /\ ∀A∈done,t A=false) \/ ∃A,b.2=some A/\A∈done/\A<es.size/\t A=true)) _ ?_ ?_ _ _ ⟨rfl,[],rfl,rfl,.inl ⟨rfl,λA z=>by simp at z⟩⟩)
  . rintro x rest ⟨Z,p⟩ z ⟨rfl,done,j,rfl,prog⟩
    have O:x∈Cu es.size (λA=>es[A]?.map (·.hash)) h:=by rw[j];simp
    obtain⟨e,n,d⟩:=mT.mp O;have r:x<es.size:=(ac2.mp n).1
    have R:Cu es.size (λA=>es[A]?.map (·.hash)) h=(done ++ [x])++rest:=by rw[j];simp
    rw[n];dsimp only at prog ⊢;rw[if_pos (by simpa using d)];refine la (ZE C B (la (K.eq x e n d q v _ _ (la (ZE C B ?_)))));rw[if_neg (by simp)];cases ht:t x with
    |true =>
      have J:p=none:=by
        rcases prog with⟨J,_⟩|⟨A,_,c,pY,jr⟩
        . exact J
        . have:=K.un A x pY r jr ht
          subst this;have nd:=xb (es:=es) (h:=h);rw[j,Ux]at nd;exact absurd rfl (nd.2.2 A c A rj)
      subst J;simp only[if_true,aha,ql,if_false];try refine la (lr ?_)
      refine la (yo ?_);split
      . exact lr (lr (H x r ht))
      . exact lr ⟨rfl,done ++ [x],R,rfl,.inr ⟨x,rfl,by simp,r,ht⟩⟩
    |false =>
      simp only[ql,if_false,ah7];refine la (yo ?_);refine lr ⟨rfl,done ++ [x],R,rfl,?_⟩;rcases prog with⟨J,hz⟩|⟨A,l,c,pY,jr⟩
      . exact .inl ⟨J,λA c=>by
          rcases m3.mp c with c|c
          . exact hz A c
          . simp at c;subst c;exact ht⟩
      . exact .inr ⟨A,l,m3.mpr (.inl c),pY,jr⟩
  . rintro⟨Z,p⟩ z ⟨rfl,done,j,rfl,prog⟩
    dsimp only at prog ⊢;refine lr ?_;rcases prog with⟨rfl,hz⟩|⟨A,rfl,_,pY,jr⟩
    . exact none_of (by rw[j];simpa using hz)
    . exact H A pY jr
 have plain:wpAny (model q v) T (dictWalkPlain f U h es (Cu es.size (λA=>es[A]?.map (·.hash)) h)) Q E s:=by
  unfold dictWalkPlain
  refine la (Ya _ (λrest b z=>z=s /\ ∃done,Cu es.size (λA=>es[A]?.map (·.hash)) h=done++rest/\b=(none,()) /\ ∀A∈done,t A=false) _ ?_ ?_ _ _ ⟨rfl,[],rfl,rfl,λA z=>by simp at z⟩)
  . rintro x rest b z ⟨rfl,done,j,rfl,prog⟩
    have O:x∈Cu es.size (λA=>es[A]?.map (·.hash)) h:=by rw[j];simp
    obtain⟨e,n,d⟩:=mT.mp O;have r:x<es.size:=(ac2.mp n).1;rw[n];dsimp only;rw[if_pos (by simpa using d)];refine la (ZE C B (la (K.eq x e n d q v _ _ (la (ZE C B ?_)))));rw[if_neg (by simp)];cases ht:t x with
    |true =>
      simp only[if_true];refine la (yo ?_);exact lr (lr (H x r ht))
    |false =>
      simp only[ql,if_false];refine la (yo ?_);refine lr ⟨rfl,done ++ [x],by rw[j];simp,rfl,λA c=>?_⟩;rcases m3.mp c with c|c
      . exact prog A c
      . simp at c;subst c;exact ht
  . rintro b z ⟨rfl,done,j,rfl,prog⟩
    exact lr (none_of (by rw[j];simpa using prog))
 have keys:∀w∈(Cu es.size (λA=>es[A]?.map (·.hash)) h).filterMap (λA=>es[A]?.map (·.key)),gz s 8 w:=λw hv=>by obtain⟨A,_,c⟩:=Ql.mp hv;obtain⟨e,n,rfl⟩:=pM.mp c;exact K.qe e (aeJ n)
 unfold dictFind;refine vn ?_;refine la (afE C B ?_);cases U with
 |str x tk =>
  refine Ba (λnZ=>?_) (λ_=>?_)
  . unfold foundByValue
    have Y:∀A e,es[A]? = some e->e.key.isStr x=t A:=λA e n=>K.st x tk rfl A e n (Array.all_eq_true_iff_forall_mem.mp nZ e (aeJ n))
    cases hf:es.findIdx? (·.key.isStr x)with
    |none =>
      refine lr (I λA c=>?_);rw[<- Y A _ (HM c)];simpa using (Array.findIdx?_eq_none_iff.mp hf) es[A] (afC c)
    |some A =>
      obtain⟨c,l,_⟩:=Array.findIdx?_eq_some_iff_getElem.mp hf;have k:=HM c;rw[Y A _ k]at l;dsimp only;rw[k];refine la (ZE C B (la (K.eq A _ k (K.hs A _ k l) q v _ _ (la (ZE C B ?_)))));refine Ba (λz=>by simp at z) (λ_=>?_);rw[l];exact la (yo (lr (H A c l)))
  . refine Ba (λ_=>plain) (λ_=>?_)
    refine Ba (λ_=>la (lr ?_)) (λ_=>la (qB K.qk keys ?_))<;>
      exact Ba (λz=>by simp at z) (λ_=>gen false rfl)
 |ref a =>
  refine Ba (λz=>by simp[carriedByValue]at z) (λ_=>?_);refine Ba (λz=>?_) (λ_=>?_)
  . rw[<- Array.any_toList,aeB]at z
    obtain⟨e,n,y⟩:=z;simp only[l8,beq_iff_eq,bne_iff_ne,ne_eq]at y;exact absurd (K.rf e (Array.mem_toList_iff.mp n) y.1) y.2
  . refine Ba (λ_=>la (lr ?_)) (λ_=>la (qB K.qk keys ?_))<;>
      exact Ba (λz=>by simp at z) (λ_=>gen false rfl)
 |_ =>
  refine Ba (λ_=>plain) (λ_=>?_);refine Ba (λ_=>la (lr ?_)) (λ_=>la (qB K.qk keys ?_))<;>
    exact Ba (λz=>by simp at z) (λ_=>gen false rfl)
mutual
theorem rJ:∀(d:D) {n:Nat} {s:lO} {A:og} {x:V} {u:Value} {Q:Int->lO->Prop},lb X b y H s->aO n d=true->Rel X.kw H R d x->lX x u->A.units+n<cLine ->
  (∀C,Q (hD X.w d) { s with toks:=C })->wpAny (model q X.w) A (pyHash u) Q E s
 |.ay,n,s,A,x,u,Q,I,k,r,B,hu,p=>by cases r;cases B;simp only[hD]at p;exact agW (T:="NoneType") rfl F.slot_NoneType_hash F.entry_NoneType_hash (F.args_NoneType_hash_1 _) (af3 _) (.inr (by omega)) (la (lr (la (wpAny_mkInt (lr ⟨_,_,rfl,p _⟩)))))|.int i,n,s,A,x,u,Q,I,k,r,B,hu,p=>by cases r;obtain⟨t,rfl⟩:=B;simp only[hD]at p;exact wpAny_pyHash_int (p _)
 |.str σ,n,s,A,x,u,Q,I,k,r,B,hu,p=>by cases r;obtain⟨t,rfl⟩:=B;simp only[hD]at p;exact wpAny_pyHash_str (p _)
 |.tup Y,n+1,s,A,x,u,Q,I,k,r,B,hu,p=>by obtain⟨a,z,rfl,e,h⟩:=r;cases B;obtain⟨aw,j,⟨o,c,v,m,l⟩,_⟩:=I.tuple e.sq;simp only[hD]at p;simp only[aO]at k;refine agW (T:="tuple") ⟨o,c,v⟩ F.slot_tuple_hash F.entry_tuple_hash (F.args_tuple_hash_1 _) (af3 _) (.inr (by omega)) ?_;show wpAny _ _ (ac1 (.ref a) >>= _) _ _ s;refine la (wpAny_tupleItemsOf c l (la ?_));rw[<- ahb];refine zD Y (acc:=#[]) I k h j (by rw[in1_units];omega) λC J f=>?_;show wpAny _ _ (retInt (afM J.toList)) _ _ _;rw[f];exact la (wpAny_mkInt (lr ⟨_,_,rfl,p _⟩))
 |.tup Y,0,s,A,x,u,Q,I,k,r,B,hu,p=>by simp[aO]at k|.bl _,n,s,A,x,u,Q,I,k,r,B,hu,p=>by simp[aO]at k|.lst _,n,s,A,x,u,Q,I,k,r,B,hu,p=>by simp[aO]at k|.eM,n,s,A,x,u,Q,I,k,r,B,hu,p=>by simp[aO]at k|.ref _,n,s,A,x,u,Q,I,k,r,B,hu,p=>by simp[aO]at k|.bu _,n,s,A,x,u,Q,I,k,r,B,hu,p=>by simp[aO]at k|.fn _ _,n,s,A,x,u,Q,I,k,r,B,hu,p=>by simp[aO]at k
theorem zD:∀(ds:List D) {n:Nat} {s:lO} {A:og} {O:List V} {U:List Value} {acc:Array Int} {Q:Array Int->lO->Prop},lb X b y H s->j_ n ds=true->ao X.kw H R ds O->Vals O U->A.units+n<cLine ->
  (∀C J,J.toList=acc.toList++C5 X.w ds->Q J { s with toks:=C }) ->
  wpAny (model q X.w) A (forIn U acc λx r=>do let h <- pyHash x;pure PUnit.unit;pure (Wd (r.push h))) Q E s
 | [],n,s,A,O,U,acc,Q,I,k,r,B,hu,p=>by cases r;cases B;exact lr (p s.toks acc (by simp[C5]))
 |d::ds,n,s,A,O,U,acc,Q,I,k,r,B,hu,p=>by
  obtain⟨v,i,rfl,c,e⟩:=r;simp only[j_,l8]at k;cases B with
  |cons Z rr =>
   rw[aeX];refine la (la (rJ d I k.1 c Z hu λC=>la (lr (lr ?_))));exact zD ds (I.tok C) k.2 e rr hu λf J a=>p f J (by simp[a,C5])
end
mutual
theorem tv:∀(d:D) {n m:Nat} {s:lO} {x:V} {u:Value},lb X b y H s->aO n d=true->n<=m->Rel X.kw H R d x->lX x u->gz s m u
 |.ay,n,m,s,x,u,I,k,hm,r,p=>by cases r;cases p;intro q w A E Q C;unfold agd;exact lr C|.int i,n,m,s,x,u,I,k,hm,r,p=>by cases r;obtain⟨t,rfl⟩:=p;intro q w A E Q C;unfold agd;exact lr C
 |.str σ,n,m,s,x,u,I,k,hm,r,p=>by cases r;obtain⟨t,rfl⟩:=p;intro q w A E Q C;unfold agd;exact lr C
 |.tup U,n+1,m,s,x,u,I,k,hm,r,p=>by
  obtain⟨a,J,rfl,hq,B⟩:=r;cases p;obtain⟨Y,Z,⟨o,h,h2,z,h3⟩,_⟩:=I.tuple hq.sq;simp only[aO]at k;intro q w A E Q C;have f:s.TypeIs (.ref a) "tuple":=⟨o,h,h2⟩
  obtain⟨m,rfl⟩:∃j,m=j+1:=⟨m-1,by omega⟩
  unfold agd;refine la (agb f F.slot_tuple_eq.lookup ?_);show wpAny _ _ (isInstance (.ref a) (.type "tuple") >>= _) _ _ s;refine la (aez f isSubtype_tuple_tuple ?_);simp only[adR,ql,if_false];refine la (Vw h h3 (la ?_));show wpAny _ _ (forIn Y.toArray _ _) _ _ s;rw[<- ahb];have Oy:=xg U (m:=m) I k (by omega) B Z;refine Ya _ (λrest r c=>r.1=none/\c=s /\ ∀v∈rest,gz s m v) _ ?_ ?_ _ _ ⟨rfl,rfl,Oy⟩
  . rintro v rest r c ⟨B,rfl,l⟩
    refine la (l v rj q w _ _ _ ?_);simp only[adR,ql,if_false];exact lr ⟨rfl,rfl,λu e=>l u (pP _ e)⟩
  . rintro⟨r1,r2⟩ c ⟨B,rfl,_⟩
    simp only at B;subst B;exact lr C
 |.tup U,0,m,s,x,u,I,k,hm,r,p=>by simp[aO]at k|.bl _,n,m,s,x,u,I,k,hm,r,p=>by simp[aO]at k|.lst _,n,m,s,x,u,I,k,hm,r,p=>by simp[aO]at k|.eM,n,m,s,x,u,I,k,hm,r,p=>by simp[aO]at k|.ref _,n,m,s,x,u,I,k,hm,r,p=>by simp[aO]at k|.bu _,n,m,s,x,u,I,k,hm,r,p=>by simp[aO]at k|.fn _ _,n,m,s,x,u,I,k,hm,r,p=>by simp[aO]at k
theorem xg:∀(ds:List D) {n m:Nat} {s:lO} {J:List V} {O:List Value},lb X b y H s->j_ n ds=true->n<=m->ao X.kw H R ds J->Vals J O->∀v∈O,gz s m v
 | [],n,m,s,J,O,I,k,hm,r,p=>by cases r;cases p;intro v B;simp at B
 |d::ds,n,m,s,J,O,I,k,hm,r,p=>by
  obtain⟨v,e,rfl,B,c⟩:=r;simp only[j_,l8]at k;cases p with
  |cons r0 rr =>
   intro z a;rcases nv.mp a with rfl|a
   . exact tv d I k.1 hm B r0
   . exact xg ds I k.2 hm c rr z a
end
mutual
theorem kA:∀(d:D) {n:Nat},aO n d=true->flat d=true/\dep d<=n
 |.ay,n,h=>⟨rfl,ro _⟩|.int _,n,h=>⟨rfl,ro _⟩|.str _,n,h=>⟨rfl,ro _⟩|.tup i,n+1,h=>by simp only[aO]at h;obtain⟨a,b⟩:=uC i h;exact⟨a,by simp only[dep];omega⟩
 |.tup i,0,h=>by simp[aO]at h|.bl _,n,h=>by simp[aO]at h|.lst _,n,h=>by simp[aO]at h|.eM,n,h=>by simp[aO]at h|.ref _,n,h=>by simp[aO]at h|.bu _,n,h=>by simp[aO]at h|.fn _ _,n,h=>by simp[aO]at h
theorem uC:∀(ds:List D) {n:Nat},j_ n ds=true->bJ ds=true/\dM ds<=n
 | [],n,h=>⟨rfl,ro _⟩|d::ds,n,h=>by simp only[j_,l8]at h;obtain⟨a,b⟩:=kA d h.1;obtain⟨c,e⟩:=uC ds h.2;exact⟨by simp[bJ,a,c],by simp only[dM];omega⟩
end
mutual
theorem fZ:∀(d e:D) {n m:Nat},aO n d=true->aO m e=true->(bF d e=true ↔ d=e)
 |.ay,e,n,m,h,k=>by cases e<;>simp_all[aO,bF]|.int _,e,n,m,h,k=>by cases e<;>simp_all[aO,bF]|.str _,e,n,m,h,k=>by cases e<;>simp_all[aO,bF]
 |.tup i,e,n+1,m,h,k=>by
  cases e with
  |tup p =>
   cases m with
   |zero=>simp[aO]at k
   |succ m =>
    simp only[aO]at h k;simp only[bF,D.tup.injEq];exact zE i p h k
  |_=>simp_all[aO,bF]
 |.tup i,e,0,m,h,k=>by simp[aO]at h|.bl _,e,n,m,h,k=>by simp[aO]at h|.lst _,e,n,m,h,k=>by simp[aO]at h|.eM,e,n,m,h,k=>by simp[aO]at h|.ref _,e,n,m,h,k=>by simp[aO]at h|.bu _,e,n,m,h,k=>by simp[aO]at h|.fn _ _,e,n,m,h,k=>by simp[aO]at h
theorem zE:∀(ds c:List D) {n m:Nat},j_ n ds=true->j_ m c=true->(gQ ds c=true ↔ ds=c)
 | [],c,n,m,h,k=>by cases c<;>simp[gQ]|d::ds,[],n,m,h,k=>by simp[gQ]|d::ds,e::c,n,m,h,k=>by simp only[j_,l8]at h k;simp only[gQ,l8,List.cons.injEq,fZ d e h.1 k.1,zE ds c h.2 k.2]
end
end
section
noncomputable def aM:List D->D->Option D
 |k::v::r,c=>if bF k c=true then some v else aM r c|_,_=>none
noncomputable def aX:List D->D->D->List D
 |k::v::r,c,val=>if bF k c=true then k::val::r else k::v::aX r c val|_,c,val=>[c,val]
noncomputable def tq:List D->D->Nat->Bool
 |k::_::_,c,0=>bF k c|_::_::r,c,i+1=>tq r c i|_,_,_=>false
end
section
open PyProof.Rows SeqAt
variable {j Y:List sf}{Z:Ix}{u v:Value}{m:D->List D->G->Option (D×G)}{J I:V}{U O:String}{R:D}{Q:D->Bool}{M:Pos}
inductive Ent (K:KW)(H:Hp)(ι:Ix):List D->List sf->Prop
 |nil:Ent K H ι [] []
 |cons {k v:D} {kv vv:V} {r:List D} {e:sf} {es:List sf}:aO 6 k=true->e.hash=hD K.w k->Rel K H ι k kv->lX kv e.key->Rel K H ι v vv->lX vv e.val->Ent K H ι r es->Ent K H ι (k::v::r) (e::es)
theorem Ent.of {K H ι}:∀{q:List sf} {p:List D} {u:List V},Vals u (qV q)->ke K.w p q->ao K H ι p u->Ent K H ι p q
 | [],p,u,n,h,r=>by cases h;exact .nil
 |e::q,p,u,n,h,r=>by
  cases h with
  |cons h1 h2 v =>
   obtain⟨a,j,rfl,i,b,k,rfl,c,f⟩:=r;cases n with
   |cons x n=>cases n with
    |cons y n=>exact .cons h1 h2 i x c y (Ent.of n v f)
theorem Ent.out {K H ι}:∀{n:List sf} {i:List D},Ent K H ι i n->ke K.w i n /\ ∃p,Vals p (qV n)/\ao K H ι i p
 | [],i,h=>by cases h;exact⟨.nil,[],.nil,by simp[ao]⟩
 |e::n,i,h=>by
  cases h with
  | @cons k v q u r _ _ h1 h2 x y B C E =>
   obtain⟨a,p,b,c⟩:=E.out;refine⟨.cons h1 h2 a,q::u::p,.cons y (.cons C b),?_⟩;simp only[ao];exact⟨q,_,rfl,x,u,_,rfl,B,c⟩
theorem Ent.at {K H ι}:∀{u:List sf} {p:List D} {i:Nat} {e:sf},Ent K H ι p u->u[i]? = some e->∃k r,aO 6 k=true/\(cP p)[i]? = some k/\e.hash=hD K.w k/\Rel K H ι k r/\lX r e.key /\ ∀n,tq p n i=bF k n
 | [],p,i,e,h,q=>by simp at q
 |B::u,p,i,e,h,q=>by
  cases h with
  |cons h1 h2 v x C E y =>
   cases i with
   |zero=>simp at q;subst q;exact⟨_,_,h1,rfl,h2,v,x,λ_=>rfl⟩
   |succ i =>
    obtain⟨k,r,a,b,c,d,j,f⟩:=y.at (i:=i) (by simpa using q);exact⟨k,r,a,by simpa[cP]using b,c,d,j,λn=>f n⟩
theorem Ent.len {K H ι}:∀{i:List sf} {c:List D},Ent K H ι c i->(cP c).length=i.length
 | [],c,h=>by cases h;rfl
 |e::i,c,h=>by
  cases h with
  |cons h1 h2 p q r u n=>simp[cP,n.len]
theorem Ent.none_ {K H ι}:∀{p:List sf} {n:List D} {key:D},Ent K H ι n p->(∀i,i<p.length->tq n key i=false)->aM n key=none /\ ∀v,aX n key v=n ++ [key,v]
 | [],n,key,h,q=>by cases h;exact⟨rfl,λ_=>rfl⟩
 |e::p,n,key,h,q=>by
  cases h with
  |cons h1 h2 u x y B r =>
   have c:=q 0 (by simp);simp only[tq]at c;obtain⟨a,b⟩:=r.none_ (key:=key) λi f=>by have:=q (i+1) (by simpa using f);simpa[tq]using this
   exact⟨by simp[aM,c,a],λv=>by simp[aX,c,b]⟩
theorem Ent.vz {K H ι}{key:D}:∀{p:List sf} {n:List D} {i:Nat},Ent K H ι n p->i<p.length->tq n key i=true->(∀j,j<p.length->tq n key j=true->j=i) ->
  ∃e v C,p[i]? = some e/\aM n key=some v/\Rel K H ι v C/\lX C e.val/\cP (aX n key v)=cP n /\
   ∀(w:D) (B:V) (u:Value),Rel K H ι w B->lX B u->Ent K H ι (aX n key w) (p.modify i λe=>{ e with val:=u })/\cP (aX n key w)=cP n
 | [],n,i,h,hi,q,un=>by simp at hi
 |R::p,n,i,h,hi,q,un=>by
  cases h with
  | @cons k v kv C r _ _ h1 h2 E I J O Q =>
   cases i with
   |zero =>
    simp only[tq]at q;refine⟨R,v,C,rfl,by simp[aM,q],J,O,by simp[aX,q,cP],λw B u l o=>⟨?_,by simp[aX,q,cP]⟩⟩;simp only[aX,q,if_true,List.modify_zero_cons];exact .cons h1 h2 E I l o Q
   |succ i =>
    have x:bF k key=false:=by
     cases U:bF k key with
     |false=>rfl|true=>exact absurd (un 0 (by simp) (by simpa[tq]using U)) (by omega)
    obtain⟨e,Y,s,a,b,c,d,f,g⟩:=Q.vz (i:=i) (by simpa using hi) (by simpa[tq]using q) λj y z=>by have:=un (j+1) (by simpa using y) (by simpa[tq]using z);omega
    refine⟨e,Y,s,by simpa using a,by simp[aM,x,b],c,d,by simp[aX,x,cP,f],λw B u l o=>?_⟩;obtain⟨Z,g2⟩:=g w B u l o;simp only[aX,x,ql,if_false,List.modify_succ_cons];exact⟨.cons h1 h2 E I J O Z,by simp[cP,g2]⟩
theorem Ent.push {K H ι}{k v:D}{i o:V}{e:sf}(l:aO 6 k=true)(q:e.hash=hD K.w k)(j:Rel K H ι k i)(c:lX i e.key)(r:Rel K H ι v o)(f:lX o e.val):
  ∀{p:List sf} {n:List D},Ent K H ι n p->Ent K H ι (n ++ [k,v]) (p ++ [e])/\cP (n ++ [k,v])=cP n ++ [k]
 | [],n,h=>by cases h;exact⟨.cons l q j c r f .nil,rfl⟩
 |J::p,n,h=>by
  cases h with
  |cons u x y B C E I =>
   obtain⟨a,b⟩:=Ent.push l q j c r f I;exact⟨.cons u x y B C E a,by simp[cP,b]⟩
def DR (d:lb X b y H s){A:og}(j:flat c=true)(o:flat R=true)(n:Rel X.kw H Z c J)(k:Rel X.kw H Z R I)(i:lX J u)(l:lX I v)(hu:A.units+dep c<cLine):EqAt A s u v (bF c R):=by refine rB (Iy d c R (A:=A) j o n k i l hu).1 (λx=>?_) (λe t a=>Rel.zo n (by rw[a]at i;exact i));subst x;have h:=i.inj l;subst h;have f:=Rel.inj d c R j o n k;subst f;exact mP c j
def lV (I:lb X b y H s){A:og}(hu:A.units+8<cLine)(en:Ent X.kw H Z l j)(nd:(cP l).Nodup)(B:aO 6 c=true)(r:Rel X.kw H Z c J)(C:lX J u):
  ID A s u (hD X.w c) j.toArray (tq l c) where
 eq:=λi e he hh=>by obtain⟨k,es,a,xs,key,d,f,g⟩:=en.at (i:=i) (by simpa using he);rw[g c];obtain⟨f1,f2⟩:=kA k a;exact DR I f1 (kA c B).1 d r f C (by omega)
 hs:=λi e he ht=>by obtain⟨k,es,a,xs,key,d,f,g⟩:=en.at (i:=i) (by simpa using he);rw[g c]at ht;rw[key,(fZ k c a B).mp ht]
 qk:=tv c I B (by omega) r C
 qe:=λe he=>by obtain⟨i,o⟩:=aeK.mp (by simpa using he);obtain⟨k,es,a,xs,key,d,f,g⟩:=en.at o;exact tv k I a (by omega) d f
 rf:=λe he ek=>by obtain⟨i,o⟩:=aeK.mp (by simpa using he);obtain⟨k,es,a,xs,key,d,f,g⟩:=en.at o;rw[ek]at f;have:=f.inj C;subst this;rw[key,Rel.inj I k c (kA k a).1 (kA c B).1 d r]
 un:=λi a8 o hj ti tj=>by
  obtain⟨e,he⟩:∃e,j[i]? = some e:=⟨_,mA (by simpa using o)⟩
  obtain⟨e',v⟩:∃e,j[a8]? = some e:=⟨_,mA (by simpa using hj)⟩
  obtain⟨k,es,a,xs,key,d,f,g⟩:=en.at he;obtain⟨k',ab,a',b',c',d',f',g'⟩:=en.at v;rw[g c]at ti;rw[g' c]at tj;rw[(fZ k c a B).mp ti]at xs;rw[(fZ k' c a' B).mp tj]at b';exact(afF (m5.mp xs).1 nd).mp (xs.trans b'.symm)
 st:=λx tk e0 i e he h=>by
  subst e0;obtain⟨k,es,a,xs,key,d,f,g⟩:=en.at (i:=i) (by simpa using he);rw[g c];have kx:c = .str x:=by
   cases c with
   |str z=>cases r;obtain⟨t,q⟩:=C;cases q;rfl
   |ay=>cases r;cases C|int z=>cases r;obtain⟨t,q⟩:=C;cases q
   |tup z=>obtain⟨_,_,rfl,_⟩:=r;cases C
   |_=>simp[aO]at B
  subst kx;cases k with
  |str z =>
   cases d;obtain⟨t,q⟩:=f;rw[q];simp only[Value.isStr,bF]
  |ay=>cases d;rw[f]at h;cases h|int z=>cases d;obtain⟨t,q⟩:=f;rw[q]at h;cases h
  |tup z=>obtain⟨_,_,rfl,_⟩:=d;rw[show e.key=_ from f]at h;cases h
  |_=>simp[aO]at a
def DU (I:lb X b y H s)(c:H f=some (dO f j i)):s.heap.get? f=some { cls:=.type "dict",data:=.dict j.toArray (j.length-i) }:=
 (show eC X.prog X.w H s.heap f (dO f j i) from I.aY f _ c).1
def vA (I:lb X b y H s)(c:H f=some (dO f j i)):∃h,s.heap.get? f=some { cls:=.type "dict",data:=.dict j.toArray h }:=⟨_,DU I c⟩
def Bw (I:lb X b y H s)(c:H f=some (dO f j i)):s.TypeIs (.ref f) "dict":=by obtain⟨_,h⟩:=vA I c;exact⟨_,h,rfl⟩
def uD {A:og}{key:D}(I:lb X b y H s)(hu:A.units+8<cLine)(U:H f=some (dO f j i))(en:Ent X.kw H Z l j)(nd:(cP l).Nodup)(C:aO 6 key=true)(r:Rel X.kw H Z key J)(B:lX J u){Q:Option Value->lO->Prop}(M:aM l key=none->∀n,Q none { s with toks:=n })(L:∀v,aM l key=some v->∀n p z,Rel X.kw H Z v p->lX p z->Q (some z) { s with toks:=n }):wpAny (model X.prog X.w) A (Vg f u) Q E s:=by
 obtain⟨ep,R⟩:=vA I U;unfold Vg;refine vn (la (rJ key I C r B (by omega) λn=>la (tf (s:={ s with toks:=n }) R rfl (lV (I.tok n) hu en nd C r B) (λz=>?_) (λx O h=>?_))))
 . exact lr (M (en.none_ λx O=>z x (by simpa using O)).1 n)
 . have K:=lV (I.tok n) hu en nd C r B (A:=A)
   obtain⟨e,v,p,k,q,Y,o,_⟩:=en.vz (key:=key) (by simpa using O) h λc a z=>(K.un x c O (by simpa using a) h z).symm;refine la (afE (s:={ s with toks:=n }) R rfl ?_);have:j.toArray[x]? = some e:=by simpa using k
   rw[this];exact lr (L v q n p _ Y o)
def DV {key:D}(I:lb X b y H s)(K:H f=some (dO f j i))(en:Ent X.kw H Z A j)(nd:(cP A).Nodup)(B:aO 6 key=true)(r:Rel X.kw H Z key J)(Y:lX J u)(C:aM A key=some c):
   ∃R z,Rel X.kw H Z c R/\lX R z /\ ∀{a:og} {E:Value->lO->Prop} {Q:Option Value->lO->Prop},a.units+8<cLine->(∀x,Q (some z) { s with toks:=x })->wpAny (model X.prog X.w) a (Vg f u) Q E s:=by
 obtain⟨ep,xs⟩:=vA I K;have U:∃n,n<j.length/\tq A key n=true:=by
   refine ac5 λno=>?_;have:=(en.none_ (key:=key) λn O=>by
    cases h:tq A key n with
    |false=>rfl|true=>exact absurd ⟨n,O,h⟩ no).1
   rw[C]at this;cases this
 obtain⟨n,O,v⟩:=U;have un:∀p,p<j.length->tq A key p=true->p=n:=λp l z=>by obtain⟨k,kv,a1,b1,_,_,_,g⟩:=en.at (mA O);obtain⟨k',ab,a2,o,_,_,_,g'⟩:=en.at (mA l);rw[g]at v;rw[g']at z;rw[(fZ k key a1 B).mp v]at b1;rw[(fZ k' key a2 B).mp z]at o;exact(afF (m5.mp o).1 nd).mp (o.trans b1.symm)
 obtain⟨e,v',R,h1,h2,h3,h4,_⟩:=en.vz (key:=key) O v un;rw[C]at h2;cases h2;refine⟨R,e.val,h3,h4,fun {a E Q} hu q=>?_⟩;unfold Vg;refine vn (la (rJ key I B r Y (by omega) λx=>la (tf (s:={ s with toks:=x }) xs rfl (lV (I.tok x) hu en nd B r Y) (λz=>?_) (λp l tj=>?_))))
 . have:=z n (by simpa using O);rw[v]at this;cases this
 . have:=un p (by simpa using l) tj
   subst this;refine la (afE (s:={ s with toks:=x }) xs rfl ?_);have:j.toArray[p]? = some e:=by simpa using h1
   rw[this];exact lr (q x)
def uE {A:og}{key:D}(z:lb X b y H s)(hu:A.units+8<cLine)(O:H f=some (dO f j i))(N:i<=j.length)(hz:j.length<=mK)(en:Ent X.kw H Z l j)(nd:(cP l).Nodup)(B:aO 6 key=true)(r:Rel X.kw H Z key I)(C:lX I u)(L:Rel X.kw H Z c J)(M:lX J v){Q:Unit->lO->Prop}(h:∀n Y R,Ent X.kw H Z (aX l key c) R->(cP (aX l key c)).Nodup->R.length<=j.length+1->i<=R.length->Y.get? f=some { cls:=.type "dict",data:=.dict R.toArray (R.length-i) }->Ma f s.heap Y->Q () { s with heap:=Y,toks:=n }):
   wpAny (model X.prog X.w) A (dictSet f u v) Q E s:=by
 have U:=DU z O;unfold dictSet;refine vn (la (rJ key z B r C (by omega) λn=>?_));unfold dictSetHashed;refine vn (la (tf (s:={ s with toks:=n }) U rfl (lV (z.tok n) hu en nd B r C) (λa=>?_) (λp x xs=>?_)))
 . obtain⟨_,U5⟩:=en.none_ (key:=key) λp x=>a p (by simpa using x)
   obtain⟨e1,e2⟩:=Ent.push (e:=⟨hD X.w key,u,v⟩) B rfl r C L M en;refine la (yo (wpAny_updateDictKeys (hz:=by simpa using hz) (s:={ s with toks:=n }) U rfl ?_));refine h n _ (j ++ [⟨hD X.w key,u,v⟩]) (by rw[U5];exact e1) ?_ (by simp) (by simp;omega) ?_ (Qs ..)
   . rw[U5,e2,Ux]
     refine⟨nd,by simp,λk N9 k' zF=>?_⟩;simp at zF;subst zF;rintro rfl;obtain⟨p,x,e⟩:=Qe.mp N9;have pY:p<j.length:=by rw[<- en.len];exact x
     obtain⟨k,kv,a1,o,_,_,_,g⟩:=en.at (mA pY);rw[mA x,e]at o;cases o;have:=a p (by simpa using pY);rw[g,(fZ _ _ B B).mpr rfl]at this;cases this
   . have q:=Nv (h:=s.heap) (ah2 (·.push ⟨hD X.w key,u,v⟩)) U rfl
     rw[q];simp[ah2];omega
 . have K:=lV (z.tok n) hu en nd B r C (A:=A)
   obtain⟨e,v0,ab,h1,h2,h3,h4,_,h5⟩:=en.vz (key:=key) (by simpa using x) xs λes hj a=>(K.un p es x (by simpa using hj) xs a).symm;obtain⟨h6,h7⟩:=h5 c J v L M;refine la (yo (la (wpAny_updateDict (s:={ s with toks:=n }) U rfl ?_)));refine wpAny_point ?_;refine h n _ (j.modify p λe=>{ e with val:=v }) h6 (by rw[h7];exact nd) (by simp) (by simpa using N) ?_ (Qs ..)
   have q:=Nv (h:=s.heap) (Obj.mapDict (·.modify p λe=>{ e with val:=v })) U rfl
   rw[q];simp[Obj.mapDict]
noncomputable def au (a b:D)(g:G):Option (D×G):=match a with
 |.bu n=>(g[n]?).bind λc=>if aO 6 b=true then(aM c b).map λd=>(d,g)else none|a=>d7 a b g
def KR (hu:X.A.units+64<cLine):nD X (dW X.kw au):=by
 intro value slice E s J H x y v u Q I j o q h;obtain⟨C,g,O,e,d,r,G0,k,l,q,p⟩:=q;cases O with
 |bu n =>
  simp only[au]at q;obtain⟨R,U,q⟩:=bind_some q;split at q
  . rename_i Y
    obtain⟨a,rfl,ha⟩:=k;cases j;obtain⟨es,vs,c,i,uF,iL,Z,hh,nd,sy,sz,rl⟩:=G0.zf U ha;have en:=Ent.of Z hh rl;cases B:aM R e with
    |none=>rw[B]at q;cases q
    |some dv =>
     rw[B]at q;cases q;obtain⟨f,z,h1,h2,h3⟩:=DV I i en nd Y l o B;have b:=Bw I i;refine adt (x:=z) b aen.lookup ?_ h;unfold OI;refine vn (la (adw b (by decide) ?_));refine la (Nd (name:=F6 "__getitem__") b aen (zy aen b entry_dict_getitem ?_ (args_dict_getitem _ _)));show wpAny _ _ (Vg a u >>= _) _ _ s;refine la (h3 (by rw[in1_units];omega) λtk=>?_);exact lr ⟨z,rfl,lr ⟨rfl,f,H,I.tok tk,h2,p H C f Ext.refl G0 h1⟩⟩
  . cases q
 |_=>exact Kt value slice E s J H x y v u Q I j o ⟨C,g,_,e,d,r,G0,k,l,q,p⟩ h
def Oz {b:FE}(hu:X.A.units+64<cLine)(i:DE X e C)(j:DE X K b)(k:oW K):DE X (.Subscript e K a) (ak au C b):=.of (
 PE.imp (HY (KR hu) i.un j.un k) λc H Q h=>qX h)
noncomputable def IE (a:D)(c:List D):Option Bool:=if(flat a&&bJ c&&decide (dM c<=50))=true then some (c.any λy=>bF y a)else none
noncomputable def p_ (a b:D)(g:G):Option Bool:=match b with
 |.bu n=>(g[n]?).bind λc=>if aO 6 a=true then some (aM c a).isSome else none|b=>(bA b g).bind (IE a)
noncomputable def mU (a c:D)(g:G):Option (D×G):=(p_ a c g).map λb=>(.bl b,g)
noncomputable def tw (a c:D)(g:G):Option (D×G):=(p_ a c g).map λb=>(.bl (!b),g)
def DX {b:Bool}(h:p_ c R r=some b):(∃n,R = .bu n) \/ ∃i,bA R r=some i/\IE c i=some b:=by
 cases R with
 |bu n=>exact .inl ⟨n,rfl⟩|_=>simp only[p_]at h;exact .inr (bind_some h)
theorem uG:∀{c:List D} {i:Nat} {d:D},bJ c=true->c[i]? = some d->flat d=true/\dep d<=dM c
 | [],i,d,h,e=>by simp at e|x::c,0,d,h,e=>by simp at e;subst e;simp only[bJ,l8]at h;exact⟨h.1,by simp only[dM];omega⟩|x::c,i+1,d,h,e=>by simp only[bJ,l8]at h;obtain⟨a,b⟩:=uG (i:=i) h.2 (by simpa using e);exact⟨a,by simp only[dM];omega⟩
def xh (I:lb X b y H s){A:og}(C:flat c=true)(r:Rel X.kw H Z c J)(B:lX J u){n:Nat}(hu:A.units+n<cLine):
   ∀{x:List D} {E:List V} {O:List Value},bJ x=true->dM x<=n->ao X.kw H Z x E->Vals E O->∃e:Value->Bool,(∀p,p∈O->EqAt A s p u (e p))/\O.any e=x.any (λp=>bF p c):=by
 classical
 intro x E O j hn rl l;refine⟨λp=>decide (∃d v,Rel X.kw H Z d v/\lX v p/\flat d=true/\bF d c=true),λp hy=>?_,?_⟩
 . obtain⟨i,hi,e⟩:=Qe.mp hy
   have o:i<E.length:=by rw[l.length];exact hi
   have Y:i<x.length:=by rw[rl.length];exact o
   obtain⟨v,h1,f⟩:=rl.get (mA Y);obtain⟨z,h3,q⟩:=l.get h1;rw[mA hi,e]at h3;cases h3;obtain⟨Q,f2⟩:=uG j (mA Y);have h:=DR I Q C f r q B (A:=A) (by omega);have:decide (∃d v,Rel X.kw H Z d v/\lX v p/\flat d=true/\bF d c=true)=bF x[i] c:=by
    cases hq:bF x[i] c with
    |true=>exact decide_eq_true ⟨_,_,f,q,Q,hq⟩
    |false =>
     refine decide_eq_false ?_;rintro⟨d,v',a,R,U,k⟩;have:=R.inj q;subst this;rw[Rel.inj I d _ U Q a f,hq]at k;cases k
   show EqAt A s p u (decide _);rw[this];exact h
 . induction x generalizing E O with
   |nil=>cases rl;cases l;rfl
   |cons d ds ih =>
    obtain⟨v,vr,rfl,f,hr⟩:=rl;cases l with
    |cons r0 rr =>
     simp only[bJ,l8]at j;simp only[dM]at hn;rw[yc,yc,ih j.2 (by omega) hr rr];congr 1;cases hq:bF d c with
     |true=>exact decide_eq_true ⟨_,_,f,r0,j.1,hq⟩
     |false =>
      refine decide_eq_false ?_;rintro⟨d',v',a,R,U,k⟩;have:=R.inj r0;subst this;rw[Rel.inj I d' _ U j.1 a f,hq]at k;cases k
def zG (B:Bool)(hu:X.A.units+64<cLine):bS X (tA (if B then .NotIn else .In)) (dW X.kw λC Y g=>(p_ C Y g).map λb=>(.bl (if B then !b else b),g)):=by
 intro a8 s σ H x y v u Q I E Z q;obtain⟨ι,g,C,Y,d,g',G0,J,r2,q,p⟩:=q;obtain⟨b,h,q⟩:=pM.mp q;cases q;have fin:∀f,EP X a8 σ Q (.bool (if B then !b else b)) { s with toks:=f }:=λf=>⟨.bl _,H,I.tok f,rfl,p H ι _ Ext.refl G0 (by simp[Rel])⟩
 rcases DX h with⟨n,rfl⟩|⟨xs,O,h⟩
 . simp only[p_]at h
   obtain⟨xs,O,h⟩:=bind_some h;split at h
   . rename_i hk
     cases h;obtain⟨a,rfl,ha⟩:=r2;cases Z;obtain⟨es,vs,c,hH,uF,iL,rv,hh,nd,sy,sz,rl⟩:=G0.zf O ha;have en:=Ent.of rv hh rl;have o:=Bw I hH;have core:∀{R:Bool->lO->Prop},(∀f,R (aM xs C).isSome { s with toks:=f })->wpAny (model X.prog X.w) X.A (contains (.ref a) v) R X.xe s:=fun {R} fin=>by
       unfold contains;refine vn (la (agb o afo.lookup ?_));refine Ba (λz=>by rw[af3]at z;cases z) (λ_=>?_);refine la (wpAny_callSpecialUnlessNone?_slot (name:=F6 "__contains__") o afo (zy afo o entry_dict_contains ?_ (args_dict_contains _ _)));show wpAny _ _ (Vg a v >>= _) _ _ s;refine la (uD I (by rw[in1_units];omega) hH en nd hk J E (λhn f=>?_) (λw hs f vv z _ _=>?_))
       . rw[hn]at fin
         show wpAny _ _ (Builtin.Dict.pendingKey? a v >>= _) _ _ _;exact la (wpAny_pendingKey_other sy (lr ⟨_,rfl,XN (fin f)⟩))
       . rw[hs]at fin
         show wpAny _ _ (ret (.bool true)) _ _ _;exact lr ⟨_,rfl,XN (fin f)⟩
     cases B with
     |false=>exact(show wpAny _ _ (do return afI (<- contains (.ref a) v)) _ _ s from la (core λf=>lr (fin f)))
     |true=>exact(show wpAny _ _ (do return afI (!(<- contains (.ref a) v))) _ _ s from la (core λf=>lr (fin f)))
   . cases h
 . unfold IE at h
   split at h
   . rename_i z
     simp only[l8,decide_eq_true_eq]at z;cases h;obtain⟨a,vs,rfl,l,hr⟩:=kX G0 r2 O;cases Z;rcases l with l|l
     . obtain⟨aw,U,j,_⟩:=I.list l
       obtain⟨e,k,r⟩:=xh I (A:=X.A.in1) z.1.1 J E (n:=50) (by rw[in1_units];omega) z.1.2 z.2 hr U;have fin:=fin s.toks;rw[<- r]at fin;cases B with
       |false=>exact in_listAt e j.isList (λy i=>k y (by simpa using i)) (by simpa using fin)|true=>exact notIn_listAt e j.isList (λy i=>k y (by simpa using i)) (by simpa using fin)
     . obtain⟨aw,U,j,_⟩:=I.tuple l
       obtain⟨e,k,r⟩:=xh I (A:=X.A.in1) z.1.1 J E (n:=50) (by rw[in1_units];omega) z.1.2 z.2 hr U;have fin:=fin s.toks;rw[<- r]at fin;cases B with
       |false=>exact in_tupleAt e j (λy i=>k y (by simpa using i)) (by simpa using fin)|true=>exact notIn_tupleAt e j (λy i=>k y (by simpa using i)) (by simpa using fin)
   . cases h
def OA (hu:X.A.units+64<cLine):bS X (tA .In) (dW X.kw mU):=zG false hu
def DY (hu:X.A.units+64<cLine):bS X (tA .NotIn) (dW X.kw tw):=zG true hu
def xi (I:lb X b y H s)(v:H f=some (dO f Y i)){tk:Nat}(l:z.get? f=some { cls:=.type "dict",data:=.dict j.toArray (j.length-i) })(r:Ma f s.heap z):
  lb X b y (upd H f (dO f j i)) { s with heap:=z,toks:=tk }:=by
 refine I.write (x:=f) (e:=f) (o:=dO f j i) (t':=tk) (by rw[v];exact True.intro) (.inl rfl) (λc u n q=>?_) ⟨_,l⟩ ⟨l,⟨_,l⟩,λh p q k=>k _ q⟩;rw[r.2 c n];exact q
def xj (G0:aA X.kw H Z r)(a:eG Z i f true)(g:Z.kd i=o+1)(q:H f=some (dO f Y o))(en:Ent X.kw H Z A j)(nd:(cP A).Nodup)(l:(f == Qm)=false)(k:o<=j.length)(sz:j.length<=mK):
  aA X.kw (upd H f (dO f j o)) Z (r.set i A):=by
 obtain⟨b,h,e,c⟩:=en.out;exact G0.Nm a q (by rw[g];exact .d o j h k e b nd l sz) c
noncomputable def kZ (c:List D):Bool:=aC (c.length / 2+1)
noncomputable def kB (o i v:D)(g:G):Option G:=match o with
 |.bu n=>(g[n]?).bind λc=>if(aO 6 i&&kZ c)=true then some (g.set n (aX c i v))else none|o=>putD o i v g
inductive IG (K:KW)(o i v:V)(H:Hp)(Q:Hp->Prop):Prop
 |mk (ι:Ix) (g:G) (d1 d2 d3:D) (g':G) (h0:aA K H ι g) (h1:Rel K H ι d1 o) (h2:Rel K H ι d2 i) (h3:Rel K H ι d3 v) (h4:kB d1 d2 d3 g=some g') (h5:∀H' ι',Ext H ι H' ι'->aA K H' ι' g'->Q H'):IG K o i v H Q
def zH {K H ι}(en:Ent K H ι A j):A.length=2*j.length:=by
 induction en with
 |nil=>rfl|cons _ _ _ _ _ _ _ c=>simp[c];omega
def KS (hu:X.A.units+64<cLine):Fz X (IG X.kw):=by
 intro Z s σ H o i v ov iv u Q I C z E q;obtain⟨J,g,d1,d2,d3,g',G0,x,y,O,q,p⟩:=q;cases d1 with
 |bu n =>
  simp only[kB]at q;obtain⟨R,f,q⟩:=bind_some q;split at q
  . rename_i r
    simp only[l8]at r;cases q;obtain⟨a,rfl,b⟩:=x;cases C;obtain⟨es,U,c,e,uF,iL,OB,hh,nd,sy,sz,rl⟩:=G0.zf f b;have en:=Ent.of OB hh rl;have h:=Bw I e;have hz:=aC.le r.2;rw[zH en]at hz;unfold ahi;refine vn (la (adw h (by decide) ?_));refine la (Nd (name:=F6 "__setitem__") h slot_dict_setitem (zy slot_dict_setitem h entry_dict_setitem ?_ (args_dict_setitem _ _ _)));show wpAny _ _ (Builtin.Dict.notOrdered "__setitem__" ⟨[.ref a,iv,u],[]⟩ >>= _) _ _ s;refine la (agA h ?_);show wpAny _ _ (dictSet a iv u >>= _) _ _ s;refine la (uE I (by rw[in1_units];omega) e iL sz en nd r.1 y z O E λtk h' dJ e1 e2 e3 e0 e4 e5=>lr ⟨.none,rfl,lr ?_⟩);exact⟨_,xi I e e4 e5,p _ J (Ext.put b e) (xj G0 b uF e e1 e2 sy e0 (by omega))⟩
  . cases q
 |ref n =>
  refine set_list Z s σ H o i v ov iv u Q I C z E ?_;simp only[kB,putD]at q;cases d2 with
  |int k =>
    simp only[Rel]at x y;obtain⟨a,rfl,b⟩:=x;subst y;dsimp only at q;cases f:g[n]? with
    |none=>rw[f]at q;cases q
    |some R =>
     rw[f]at q;dsimp only at q;cases B:lJ R.length k with
     |none=>rw[B]at q;cases q
     |some j =>
      rw[B]at q;cases q;obtain⟨U,l,Y⟩:=G0.at f b;exact⟨a,U,k,j,rfl,rfl,l,by rw[<- Y.length];exact B,p _ J (Ext.put b l) (G0.put b l (ao.set O j Y))⟩
  |_=>cases q
 |_=>cases q
noncomputable def fF (c b:FE):FG:=λv h g=>(c h g).bind λr=>(b h r.2).bind λq=>(kB r.1 q.1 v q.2).map λa=>(h,a)
def KU {E:FE}(hu:X.A.units+64<cLine)(o:DE X e C)(J:DE X K E)(I:∀v,Dd (.Subscript e K a) X.env v=(do
   let n <- Ct [v] (eval e X.env);let iv <- Ct [v,n] (eval K X.env)
   ags a
   Ct [v,n,iv] (ahi n iv v)
   release [v,n,iv] [])):DG X (.Subscript e K a) (fF C E):=.of (PG.imp (Mp o.un J.un (KS hu) I) λv O H Q h=>by
 obtain⟨ι,R,g,d,cy,B,G0,U,r,h,p⟩:=h;obtain⟨⟨z,g1⟩,y,h⟩:=bind_some h;obtain⟨⟨Y,Z⟩,s,h⟩:=bind_some h;refine tD.bind G0 U y λH1 ι1 v1 b q x r1=>?_;refine tD.bind q x s λH2 u v2 i G2 f r2=>?_;obtain⟨g3,h3,h⟩:=pM.mp h;cases h;exact⟨u,Z,z,Y,d,B,G2,Rel.ext i _ r1,r2,Rel.ext (b.trans i) _ r,h3,λj l c k=>p j l O ((b.trans i).trans c) k (f.ext c)⟩)
inductive U6 (K:KW)(iM:D->Bool)(m:D->List D->G->Option (D×G))(x:V)(xs:List V)(H:Hp)(Q:VK):Prop
 |mk (ι:Ix) (g:G) (d:D) (ds:List D) (d':D) (g':G) (h0:aA K H ι g) (h1:Rel K H ι d x) (h2:ao K H ι ds xs) (h3:iM d=true) (h4:m d ds g=some (d',g')) (h5:fY K H ι d' g' Q):U6 K iM m x xs H Q
structure MR (X:Cx)(T:String)(name:Str)(id:String)(iM:D->Bool)(m:D->List D->G->Option (D×G)):Prop where
 pa:PlainAttrs T
 slot:Slot T name id
 ty:typeOf (.builtin id)=pure (.type "method_descriptor")
 is:∀{a8:List (Addr×Obj)} {σ:lU} {H:Hp} {s:lO} {ι:Ix} {g:G} {d:D} {x:V} {v:Value},lb X a8 σ H s->aA X.kw H ι g->Rel X.kw H ι d x->lX x v->iM d=true->s.TypeIs v T /\ ∀a,v = .ref a->∃ob,s.heap.get? a=some ob/\ob.dict=none
 run:MZ X id (U6 X.kw iM m)
noncomputable def gI (b:D->Bool)(m:D->List D->G->Option (D×G))(a:FE)(fr:FA):FE:=λc g=>(a c g).bind λr=>if b r.1=true then(fr c r.2).bind λq=>m r.1 q.1 q.2 else none
def OC {fr:FA}(R:MR X U x O Q m)(L:DE X K C)(A:DA X (e::B) fr)(E:aey K x X.env (eval K X.env)=eval K X.env)(id:((tT M (m2 (e::B) X.env)).all (λo=>!o.1)&&(backToKw M (ahx [] X.env)).all (λo=>o.1.isSome)
    && decide ((e::B).length+([]:List Um).length+(if([]:List Um).isEmpty then 0 else 1)<30))=true)(iM:(a.endLine == M.line)=true)(J:m2 (e::B) X.env=(false,eval e X.env)::m2 B X.env)(name:(tT M (m2 B X.env)).any (·.1)=false):
   DE X (.Call (.Attribute K x a) (e::B) [] M) (gI Q m C fr):=.of (by
 intro a8 s Z H T I h;obtain⟨ι,σd,g,d,g',G0,S0,h,p⟩:=h;obtain⟨⟨d1,g1⟩,h1,h⟩:=bind_some h;dsimp only at h;split at h
 . rename_i z
   obtain⟨⟨ds,g2⟩,h2,h⟩:=bind_some h;refine agh E id iM rfl (bf (L.un a8 s Z H (λo n=>∃Y,Ext H ι n Y/\aA X.kw n Y g1/\bQ X.kw n Y σd Z/\Rel X.kw n Y d1 o) I (tD.bind G0 S0 h1 λn Y v l i r j=>⟨Y,l,i,r,j⟩)) λv s1 q=>?_);obtain⟨o,n,I1,rx,Y,l,i,r,j⟩:=q;obtain⟨t1,t2⟩:=R.is I1 i j rx z;refine⟨U,O,R.pa,R.slot,R.ty,t1,t2,?_⟩;have hA:=A.un M a8 s1 Z n _ I1 (iy.bind i r h2 λb c f k y S2 u=>(⟨c,k,y,u⟩:(λ(f:List V) (b:Hp)=>∃c,Ext n Y b c/\aA X.kw b c g2/\ao X.kw b c ds f) f b));rw[J]at hA ⊢
   refine aep (by show(false||(tT M (m2 B X.env)).any (·.1))=false;rw[name]<;>rfl) (agE ?_)
   refine bf hA λus s2 q=>?_;obtain⟨f,b,I2,u,c,k,y,rs⟩:=q;exact R.run a8 s2 Z b o f v us T I2 rx u ⟨c,g2,d1,ds,d,g',y,Rel.ext k _ j,rs,z,h,p.mono (l.trans k)⟩
 . cases h)
def KY (R:MR X U x O Q m)(B:DE X e C)(name:aey e x X.env (eval e X.env)=eval e X.env)(A:(a.endLine == M.line)=true):
   DE X (.Call (.Attribute e x a) [] [] M) (gI Q m C aj):=.of (by
 intro Y s E H T I h;obtain⟨ι,J,g,d,q,G0,S0,h,p⟩:=h;obtain⟨⟨j,Z⟩,z,h⟩:=bind_some h;dsimp only at h;split at h
 . rename_i f
   obtain⟨⟨ds,g2⟩,y,h⟩:=bind_some h;cases y;refine wpAny_Call_method0_late name A (bf (B.un Y s E H (λid n=>∃iM,Ext H ι n iM/\aA X.kw n iM Z/\bQ X.kw n iM J E/\Rel X.kw n iM j id) I (tD.bind G0 S0 z λn iM v o b i c=>⟨iM,o,b,i,c⟩)) λv s1 r=>?_);obtain⟨id,n,l,k,iM,o,b,i,c⟩:=r;obtain⟨t1,u⟩:=R.is l b c k f;refine⟨U,O,R.pa,R.slot,R.ty,t1,u,aep rfl (PySem.evalArgs_none ?_)⟩;exact R.run Y s1 E n id [] v [] T l k .nil ⟨iM,Z,j,[],d,q,b,c,by simp[ao],f,h,p.mono o⟩
 . cases h)
noncomputable def ja:D->Bool
 |.bu _=>true|_=>false
def xk (I:lb X b y H s)(G0:aA X.kw H Z r)(x:Rel X.kw H Z c J)(u:lX J v)(h:ja c=true):
  s.TypeIs v "dict" /\ ∀a,v = .ref a->∃p,s.heap.get? a=some p/\p.dict=none:=by
 cases c with
 |bu n =>
  obtain⟨a,rfl,i⟩:=x;cases u;have j:n<r.length:=by rw[<- G0.len];exact(m5.mp i.1).1
  obtain⟨q,o,B,k,_⟩:=G0.zf (mA j) i;obtain⟨l,f⟩:=vA I k;refine⟨⟨_,f,rfl⟩,λC e=>?_⟩;cases e;exact⟨_,f,rfl⟩
 |_=>cases h
noncomputable def jF (d:D)(ds:List D)(g:G):Option (D×G):=match d,ds with
 |.bu n,[k]=>(g[n]?).bind λc=>if aO 6 k=true then some ((aM c k).getD .ay,g)else none|.bu n,[k,x]=>(g[n]?).bind λc=>if aO 6 k=true then some ((aM c k).getD x,g)else none|_,_=>none
def OD (hu:X.A.units+64<cLine):MR X "dict" "get" "dict.get" ja jF where
 pa:=PySem.F.plainAttrs_dict
 slot:=aeL
 ty:=PySem.F.type_dict_get
 is:=xk
 run:=by
  intro a8 s σ H x xs v us Q I rx rs q;obtain⟨ι,g,d,ds,d',g',G0,r1,rl,hT,q,p⟩:=q;have H0:=(xk I G0 r1 rx hT).1;cases d with
  |bu n =>
   obtain⟨a,rfl,ha⟩:=r1;cases rx;have core:∀{k dflt:D} {j:List D} {e dv:V} {o du:Value} {Q':Fin->lO->Prop},g[n]? = some j->aO 6 k=true->Rel X.kw H ι k e->lX e o->Rel X.kw H ι dflt dv->lX dv du->fY X.kw H ι ((aM j k).getD dflt) g Q ->
      (∀v r,EP X a8 σ Q v r->Q' (.done (.ret v)) r)->wpAny (model X.prog X.w) X.A.in1 (do
       if let some v <- Vg a o then return <- ret v
       match <- Builtin.Dict.missed a o with
       |some v=>ret v|none=>ret du) Q' X.xe s:=by
    intro k dflt j e dv o du Q' l i f OE rd ab p hQ;obtain⟨es,vs,c,hH,uF,iL,rv,hh,nd,sy,sz,rl⟩:=G0.zf l ha;have en:=Ent.of rv hh rl;refine la (uD I (by rw[in1_units];omega) hH en nd i f OE (λhn tk=>?_) (λw hs tk vv z b rz=>?_))
    . rw[hn]at p
      exact la (wpAny_missed_other sy (lr (hQ _ _ ⟨_,H,I.tok tk,ab,p H ι _ Ext.refl G0 rd⟩)))
    . rw[hs]at p
      exact lr (hQ _ _ ⟨_,H,I.tok tk,rz,p H ι _ Ext.refl G0 b⟩)
   match ds,q,rl with
   | [k],q,rl =>
    simp only[jF]at q;obtain⟨j,l,q⟩:=bind_some q;split at q
    . rename_i i
      cases q;obtain⟨e,_,rfl,f,rfl⟩:=rl;obtain⟨u,rfl,ru⟩:=Wn rs;exact zy aeL H0 agn (core (dflt:=.ay) (dv:=.ay) (du:=.none) l i f ru (by simp[Rel]) rfl p λv r h=>⟨v,rfl,h⟩) (PySem.F.args_dict_get_2 _ _)
    . cases q
   | [k,y],q,rl =>
    simp only[jF]at q;obtain⟨j,l,q⟩:=bind_some q;split at q
    . rename_i i
      cases q;obtain⟨e,_,rfl,f,yv,_,rfl,ry,rfl⟩:=rl;obtain⟨u,w',rfl,ru,b⟩:=baj rs;exact zy aeL H0 agn (core (dflt:=y) l i f ru ry b p λv r h=>⟨v,rfl,h⟩) (PySem.F.args_dict_get_3 _ _ _)
    . cases q
   | [],q,rl=>cases q|_::_::_::_,q,rl=>cases q
  |_=>cases hT
noncomputable def rK:FE:=λ_ g=>some (.bu g.length,g ++ [[]])
def KZ:DE X (.Dict [] [] a) rK:=.of (by
 intro n s r H Q I h;obtain⟨v,j,g,d,c,G0,l,h,p⟩:=h;cases h;have hf:H s.heap.objs.size=none:=I.aY.fresh (mn _);have o:∀h:Heap,(h.push { cls:=.type "dict",data:=.dict #[] }).get? h.objs.size=some { cls:=.type "dict",data:=.dict #[] }:=λh=>pR _ rfl;refine wpAny_Dict_empty ⟨.ref s.heap.objs.size,upd H s.heap.objs.size (dO s.heap.objs.size [] 0),I.laid (t':=s.toks) (λb u e=>nz _ e) (mn _) ?_,rfl,p _ _ _ (Ext.i6 (b:=1) hf) (G0.i6 hf (.d 0 [] [] (ro _) .nil .nil (by simp[cP]) (beq_eq_false_iff_ne.mpr (qP (p8 (big I)))) (ro _)) (by simp[ao])) ?_⟩
 . exact⟨o _,⟨_,o _⟩,λi f q k=>k _ q⟩
 . simp only[Rel]
   exact⟨_,rfl,eG.new G0.len⟩)
noncomputable def baz (n:Nat):List (D×D)->G->Option G
 | [],g=>some g|p::r,g=>(kB (.bu n) p.1 p.2 g).bind λa=>baz n r a
end
section
open PyProof.Rows
variable {l:List (Bool×Addr)}{R ι':Ix}{c:List (Str×Addr)}{K:Bool}{J:KW}{I j:List V}{w:FA}{t:Hp}{p:Obj}{n:Heap}{h:Value}{g:d_}{d:Addr}{outer:List Env}{env:Env}
noncomputable def sN:Bool->String
 |true=>"list"|false=>"tuple"
noncomputable def iN:Bool->String
 |true=>"list_iterator"|false=>"tuple_iterator"
def fS (b:Bool)(h:Heap)(a:Addr)(c:Array Value):Prop:=∃o,h.get? a=some o/\o.cls = .type (sN b) /\ ∃n,o.data = .seq c n
def k5 (b:Bool)(h:Heap)(j a:Addr)(i:Nat):Prop:=∃o,h.get? j=some o/\o.cls = .type (iN b)/\o.data = .fields #[.ref a,.int i 0]
def k5.at {j a i}(x:k5 K z j a i)(k:∀o,z.get? j=some o->n.get? j=some o):k5 K n j a i:=by obtain⟨o,b,r⟩:=x;exact⟨o,k o b,r⟩
noncomputable def js (K:n3):Bool->Hp->Addr->List V->Prop
 |true=>dF K|false=>fu K
def Bx {items}(a:k5 K s.heap f d i)(b:fS K s.heap d items)(c:items[i]? = some h)(e:∀n,k5 K n f d (i+1)->Ma f s.heap n->Q h { s with heap:=n }):wpAny (model q v) T (Vj (.ref f)) Q E s:=by
 cases K
 . exact vf a b c e
 . exact wpAny_nextOf_list_item a b c e
def DZ {items}(hh:T.handled=none)(a:k5 K s.heap f d i)(h:fS K s.heap d items)(j:items[i]? = none)(b:∀c e,agi f s.heap c->(∃o,c.get? e=some o/\o.cls = .type "StopIteration")->E (.ref e) { s with heap:=c }):wpAny (model q v) T (Vj (.ref f)) Q E s:=by
 cases K
 . exact w6 hh a h j b
 . exact agy hh a h j b
def rL {items}(c:fS K s.heap f items)(b:Q (.ref s.heap.objs.size) { s with heap:=s.heap.push { cls:=.type (iN K),data:=.fields #[.ref f,.int 0 0] } }):wpAny (model q v) T (SJ (.ref f)) Q E s:=by
 cases K
 . exact wpAny_pyIter_tuple c b
 . exact ael c b
def GI (i:lb X b y H s)(h:js X.K K H f I):∃c:List Value,Vals I c/\fS K s.heap f c.toArray/\I.length<=mK:=by
 cases K
 . exact i.tuple h
 . obtain⟨c,r,p,z⟩:=i.list h
   exact⟨c,r,p.isList,z⟩
def xl (c:lb X b y H s)(h:js X.K K H f I)(i:js X.K K H f j):I=j:=by
 cases K
 . exact c.nS h i
 . exact c.mD h i
def D0 (c:lb X b y H s)(h:fW X b H d)(e:js X.K K H f I):f≠d:=by
 cases K
 . exact Sq c h e
 . exact Ox c h e
abbrev fG (h:Heap)(T:Addr)(c:List Value):Prop:=h.get? T=some { cls:=.type "tuple",data:=.seq c.toArray }
structure Src where
 κ:Bool
 j:Addr
 a:Addr
noncomputable def f_ (z tu:Addr)(rs:List Src):List Addr:=z::tu::rs.map (·.j)
structure ZD (z ti tu:Addr)(rs:List Src):Prop where
 n2:tu≠z
 tm:ti ∉ f_ z tu rs
 jn:(rs.map (·.j)).Nodup
 jz:∀r∈rs,r.j≠z/\r.j≠tu
 am:∀r∈rs,r.a ∉ f_ z tu rs
 le:rs.length<=8
 ne:rs ≠ []
theorem fS.dA {c:Bool}{h i:Heap}{a:Addr}{items}{p:List Addr}(x:fS c h a items)(k:dA p h i)(n:a ∉ p):fS c i a items:=by obtain⟨o,b,r⟩:=x;exact⟨o,k _ _ n b,r⟩
structure ZL (h0:Heap)(z ti tu:Addr)(rs:List Src)(i:Nat)(os:List Value)(xs:Src->Array Value)(k:Nat)(h:Heap)(us:List Value):Prop where
 kl:k<=rs.length
 ul:us.length=k
 uv:∀(m:Nat) (r:Src),m<k->rs[m]? = some r->∃u,(xs r)[i]? = some u/\us[m]? = some u
 hz:IsZip h z ti tu .ellipsis
 ht:fG h tu (us++os.drop k)
 it:∀(m:Nat) (r:Src),rs[m]? = some r->k5 r.κ h r.j r.a (if m<k then i+1 else i)
 st:dA (f_ z tu rs) h0 h
 sz:h.objs.size=h0.objs.size
def D1 {tu:Addr}{rs:List Src}{xs:Src->Array Value}(hh:T.handled=none)(D:ZD f d tu rs)(hz:IsZip s.heap f d tu .none)(I:fG s.heap d (rs.map λr=>.ref r.j))(K:fG s.heap tu Y)(M:Y.length=rs.length)(B:∀r∈rs,k5 r.κ s.heap r.j r.a i)(H:∀r∈rs,fS r.κ s.heap r.a (xs r))(J:∀(p:List Value) (O:Heap),p.length=rs.length->(∀(m:Nat) (r:Src),rs[m]? = some r->∃u,(xs r)[i]? = some u/\p[m]? = some u)->IsZip O f d tu (zk s.heap.objs.size)->fG O tu p->(∀r∈rs,k5 r.κ O r.j r.a (i+1))->fG O s.heap.objs.size p->dA (f_ f tu rs) s.heap O->Q (.ref s.heap.objs.size) { s with heap:=O })(C:(∃r∈rs,(xs r)[i]? = none)->∀O e,dA (f_ f tu rs) s.heap O->(∃o,O.get? e=some o/\o.cls = .type "StopIteration")->E (.ref e) { s with heap:=O }):
   wpAny (model q v) T (tW.«zip.__next__» ⟨[.ref f],[]⟩) (λfin s'=>∃w,fin = .done (.ret w)/\Q w s') E s:=by
 have mz:f∈f_ f tu rs:=by simp[f_]
 have mu:tu∈f_ f tu rs:=by simp[f_]
 have mj:∀r∈rs,r.j∈f_ f tu rs:=λr prog=>by simp only[f_,nv];exact .inr (.inr (HB prog))
 have ab:=D.le;have hs:mK=16777216:=HX;change wpAny _ _ (field (.ref f) 2 >>= λ_=>_) _ _ _;refine la (Ci hz rfl (x:=.bool false) rfl ?_);change wpAny _ _ (field (.ref f) 3 >>= λ_=>_) _ _ _;refine la (Ci hz rfl (x:=.ref d) rfl ?_);refine la (Vw I rfl ?_);refine adY (by simp[D.ne]) ?_;change wpAny _ _ (aej (.ref f) >>= λ_=>_) _ _ _;refine la ?_;unfold aej;refine la (Ci hz rfl (x:=.none) rfl (lr ?_));simp only[if_true];refine la (yo (la (Ci hz rfl (x:=.ref tu) rfl (la (ad7 hz (by simp) λb1 z1 c1=>la ?_)))));have y1:IsZip b1 f d tu .ellipsis:=z1;have ez:∀{b:Heap} {e:Addr} {oe:Obj},IsZip b f d tu .ellipsis->b.get? e=some oe->oe.cls = .type "StopIteration"->e≠f:=λyb q1 q2 x=>by subst x;rw[yb]at q1;cases q1;exact absurd (show tO "zip" = tO "StopIteration" from q2) (by decide)
 refine Ya _ (λrest b s'=>∃k p O,rest=((rs.map λr=>AJ r.j).zipIdx).drop k/\b=(none,())/\s'={ s with heap:=O }/\ZL s.heap f d tu rs i Y xs k O p) _ ?_ ?_ _ _ ?_
 . rintro x rest b s' ⟨k,p,h,prog,rfl,rfl,L⟩
   have hk:k<rs.length:=by refine Nat.lt_of_not_le λhc=>?_;rw[ago (by simpa using hc)]at prog;cases prog
   obtain⟨r,zI⟩:∃r,rs[k]? = some r:=⟨_,mA hk⟩
   have hm:=p7 zI;rw[N8 (by simpa using hk)]at prog;injection prog with hx Sw
   have hx:x=(.ref r.j,k):=by rw[hx];obtain⟨_,e⟩:=m5.mp zI;simp[e]
   subst hx;have i1:=L.it k r zI;rw[if_neg (B5 k)]at i1;have s1:=(H r hm).dA L.st (D.am r hm);refine la (wpAny_onRaise ?_);change wpAny _ _ (Vj (.ref r.j) >>= λ_=>_) _ _ _;cases hv:(xs r)[i]? with
   |none =>
     refine la (DZ hh i1 s1 hv λU e R he=>?_);obtain⟨oe,q1,q2⟩:=he;have y2:IsZip U f d tu .ellipsis:=R _ _ (D.jz r hm).1.symm L.hz;refine ad7 y2 (by simp) λb3 _ y=>C ⟨r,hm,hv⟩ b3 e ?_ ⟨oe,(y.2 _ (ez y2 q1 q2)).trans q1,q2⟩;exact(L.st.tr λc o n e=>R c o (λA=>n (A ▸ mj r hm)) e).tr (dA.of y mz)
   |some u =>
     refine la (Bx i1 s1 hv λU u2 R=>lr ?_);have w2:fG U tu (p++Y.drop k):=(R.2 _ (D.jz r hm).2.symm).trans L.ht;have ol:k<Y.length:=by omega
     have ul:=L.ul;have len:(p++Y.drop k).length=rs.length:=by rw[nN,adf,ul];omega
     refine la (Vw w2 rfl (la (agc w2 rfl ?_ (by simp only[ox];omega) (by simp only[Array.size_setIfInBounds,ox];omega))));refine la (wpAny_letGo (lr ?_))
     have y:Ma tu U (U.update tu (Du (·.setIfInBounds k u))):=Qs ..
     have w3:fG (U.update tu (Du (·.setIfInBounds k u))) tu ((p ++ [u])++Y.drop (k+1)):=by
       show(U.update tu _).get? tu=_;rw[Nv _ w2 rfl];have:(p++Y.drop k).set k u=(p ++ [u])++Y.drop (k+1):=by rw[adF _ _ (by omega),ul,Vt,N8 ol,afm,ta];rfl
       have ln:((p ++ [u])++Y.drop (k+1)).length=(p++Y.drop k).length:=by rw[<- this,aga]
       simp only[Du,List.setIfInBounds_toArray,this];rw[if_pos (by rw[ox,ox,ln,beq_self_eq_true])]
     refine⟨k+1,p ++ [u],_,Sw,rfl,rfl,hk,by simp[ul],λm Z lL l=>?_,?_,w3,λm Z l=>?_,?_,?_⟩
     . by_cases e:m=k
       . subst e
         rw[zI]at l;cases l;exact⟨u,hv,by rw[wm (by omega),ul,Vt];rfl⟩
       . obtain⟨w,h1,h2⟩:=L.uv m Z (by omega) l
         exact⟨w,h1,by rw[ra (by omega)];exact h2⟩
     . exact(y.2 _ D.n2.symm).trans ((R.2 _ (D.jz r hm).1.symm).trans L.hz)
     . have qT:=p7 l
       by_cases e:m=k
       . subst e
         rw[zI]at l;cases l;rw[if_pos (adj m)];exact u2.at λo e=>(y.2 _ (D.jz r hm).2).trans e
       . have:=L.it m Z l
         have nj:Z.j≠r.j:=λA=>by
          have h1:(rs.map (·.j))[m]? = some Z.j:=by rw[nP,l];rfl
          have h2:(rs.map (·.j))[k]? = some Z.j:=by rw[nP,zI,A];rfl
          exact e ((afF (by simpa using (m5.mp l).1) D.jn).mp (h1.trans h2.symm))
         rw[show(if m<k+1 then i+1 else i)=if m<k then i+1 else i by
          by_cases e2:m<k
          . rw[if_pos e2,if_pos (by omega)]
          . rw[if_neg e2,if_neg (by omega)]]
         exact this.at λo e=>(y.2 _ (D.jz Z qT).2).trans ((R.2 _ nj).trans e)
     . exact(L.st.tr (dA.of R (mj r hm))).tr (dA.of y mu)
     . rw[y.1,R.1,L.sz]
 . rintro b s' ⟨k,p,h,prog,rfl,rfl,L⟩
   have hk:k=rs.length:=by have:=congrArg afb prog;simp at this;have:=L.kl;omega
   subst hk;have ul:=L.ul;have w1:fG h tu p:=by have:=L.ht;rw[ago (by omega),wz]at this;exact this
   refine la (Vw w1 rfl (la (wpAny_newTuple ?_ (by simp;omega))));change wpAny _ _ (ad8 (.ref f) (.ref h.objs.size) >>= λ_=>_) _ _ _;refine la ?_;unfold ad8;have y6:IsZip (h.push { cls:=.type "tuple",data:=.seq p.toArray }) f d tu .ellipsis:=nz _ L.hz;refine la (ad7 y6 (by simp) λb7 z7 c7=>?_);have y7:IsZip b7 f d tu (zk h.objs.size):=z7;refine ad7 y7 (by simp) λb8 z8 c8=>lr ⟨_,rfl,?_⟩;have y8:IsZip b8 f d tu (zk h.objs.size):=z8;have U7:f<h.objs.size:=nC L.hz;have up:∀c o,c≠f->h.get? c=some o->b8.get? c=some o:=λc o n e=>(c8.2 c n).trans ((c7.2 c n).trans (nz _ e));have T8:fG b8 h.objs.size p:=(c8.2 _ (aeR U7)).trans ((c7.2 _ (aeR U7)).trans (pR _ rfl));change Q (.ref h.objs.size) _;have sz:=L.sz;rw[sz]at y8 T8 ⊢;refine J p b8 ul (λm r prog=>L.uv m r (m5.mp prog).1 prog) y8 (up _ _ D.n2 w1) (λr prog=>?_) T8 λc o n e=>up c o (λA=>n (A ▸ mz)) (L.st c o n e);obtain⟨m,hm⟩:=Qt prog;have:=L.it m r hm;rw[if_pos (m5.mp hm).1]at this;exact this.at λo e=>up _ o (D.jz r prog).1 e
 . refine⟨0,[],b1,rfl,rfl,rfl,ro _,rfl,λ_ _ h=>absurd h (adZ _),y1,?_,λm r prog=>?_,dA.of c1 mz,c1.1⟩
   . exact(c1.2 _ D.n2).trans K
   . have hm:=p7 prog
     rw[if_neg (adZ _)];exact(B r hm).at λo e=>(c1.2 _ (D.jz r hm).1).trans e
def D2 {A:og}{tu:Addr}{rs:List Src}{os:List Value}{xs:Src->Array Value}{Q:Option Value->lO->Prop}(hh:A.handled=none)(D:ZD f d tu rs)(hz:IsZip s.heap f d tu .none)(I:fG s.heap d (rs.map λr=>.ref r.j))(L:fG s.heap tu os)(K:os.length=rs.length)(B:∀r∈rs,k5 r.κ s.heap r.j r.a i)(C:∀r∈rs,fS r.κ s.heap r.a (xs r))(J:∀(p:List Value) (n:Heap),p.length=rs.length->(∀(m:Nat) (r:Src),rs[m]? = some r->∃u,(xs r)[i]? = some u/\p[m]? = some u)->IsZip n f d tu (zk s.heap.objs.size)->fG n tu p->(∀r∈rs,k5 r.κ n r.j r.a (i+1))->fG n s.heap.objs.size p->dA (f_ f tu rs) s.heap n->Q (some (.ref s.heap.objs.size)) { s with heap:=n })(H:(∃r∈rs,(xs r)[i]? = none)->∀n,dA (f_ f tu rs) s.heap n->Q none { s with heap:=n }):wpAny (model q v) A (Dv (.ref f)) Q E s:=by
 have ty:s.TypeIs (.ref f) "zip":=⟨_,hz,rfl⟩
 unfold Dv;refine la (agR (Nd (name:=F6 "__next__") ty F.slot_zip_next (zy F.slot_zip_next ty F.entry_zip_next (D1 hh D hz I L K B C (λp n l prog O y w z h=>lr (J p n l prog O y w z h)) λk n e x R=>?_) (F.args_zip_next_1 _))));obtain⟨o,c,U⟩:=R;exact la (aez (T:="StopIteration") (b:=true) ⟨o,c,U⟩ isSubtype_stop (lr (H k _ x)))
noncomputable abbrev hJ (q:Bool×Addr):Obj:={ cls:=.type (iN q.1),data:=.fields #[.ref q.2,.int 0 0] }
noncomputable def rM (h:Heap):List (Bool×Addr)->Heap
 | []=>h|q::r=>rM (h.push (hJ q)) r
noncomputable def xm (h:Heap):List (Bool×Addr)->List Addr
 | []=>[]|q::r=>h.objs.size::xm (h.push (hJ q)) r
noncomputable abbrev IH (h:Heap)(l:List (Bool×Addr)):Heap:=(rM h l).push { cls:=.type "tuple",data:=.seq ((xm h l).map AJ).toArray }
noncomputable abbrev II (h:Heap)(l:List (Bool×Addr)):Heap:=(IH h l).push { cls:=.type "tuple",data:=.seq (l.map λ_=>zb).toArray }
noncomputable abbrev IJ (h:Heap)(l:List (Bool×Addr)):Heap:=(II h l).push { cls:=.type "zip",data:=.fields #[.none,.bool false,.bool false,.ref (rM h l).objs.size,.ref (IH h l).objs.size] }
theorem fS.push {items}(x:fS K z f items)(o:Obj):fS K (z.push o) f items:=by obtain⟨u,hu,r⟩:=x;exact⟨u,nz _ hu,r⟩
abbrev By (l:List (Bool×Addr)):Prop:=Meets (tW.«zip.__new__» ⟨.type "zip" :: l.map λq=>.ref q.2,[]⟩) (λ_ R s=>(∀q∈l,∃c,fS q.1 s.heap q.2 c)/\R (.ok (.ret (.ref (II s.heap l).objs.size))) { s with heap:=IJ s.heap l })
def K0 (p q:Bool×Addr):By [p,q]:=.of_wp λprog w A R s h=>by
 obtain⟨a,g,d,b,os⟩:=s;obtain⟨t,h⟩:=h;have sub:=sub_zip;obtain⟨i,n⟩:=t p (by simp);obtain⟨r,c⟩:=t q (by simp);have e:fS p.1 (afc ⟨a,g,d,b,os⟩) p.2 i:=n;have tB:fS q.1 (afc ⟨a.push (hJ p),g,d,b,os⟩) q.2 r:=c.push _;show wpAny _ _ (tW.«zip.__new__» ⟨[.type "zip",.ref p.2,.ref q.2],[]⟩) _ _ _;clear t
 wp_walk using rL e,rL tB
 exact⟨_,rfl,h⟩
set_option maxHeartbeats 1000000 in
def K1 (p q r:Bool×Addr):By [p,q,r]:=.of_wp λprog w A R s h=>by
 obtain⟨a,g,d,b,os⟩:=s;obtain⟨t,h⟩:=h;have sub:=sub_zip;obtain⟨i,n⟩:=t p (by simp);obtain⟨u,c⟩:=t q (by simp);obtain⟨zs,v⟩:=t r (by simp);have e:fS p.1 (afc ⟨a,g,d,b,os⟩) p.2 i:=n;have tB:fS q.1 (afc ⟨a.push (hJ p),g,d,b,os⟩) q.2 u:=c.push _;have tC:fS r.1 (afc ⟨(a.push (hJ p)).push (hJ q),g,d,b,os⟩) r.2 zs:=(v.push _).push _;show wpAny _ _ (tW.«zip.__new__» ⟨[.type "zip",.ref p.2,.ref q.2,.ref r.2],[]⟩) _ _ _;clear t
 wp_walk using rL e,rL tB,rL tC
 exact⟨_,rfl,h⟩
theorem Bz {c:Addr}{o:Obj}:∀{l:List (Bool×Addr)} {h:Heap},h.get? c=some o->(rM h l).get? c=some o
 | [],_,e=>e|_::l,_,e=>Bz (l:=l) (nz _ e)
theorem IK:∀{l:List (Bool×Addr)} {h:Heap},(rM h l).objs.size=h.objs.size+l.length
 | [],_=>rfl|q::l,h=>by have:=IK (l:=l) (h:=h.push (hJ q));rw[H9]at this;rw[yw,rM,this];omega
theorem BA:∀{l:List (Bool×Addr)} {h:Heap} {m:Nat} {q:Bool×Addr},l[m]? = some q->(xm h l)[m]? = some (h.objs.size+m)/\(rM h l).get? (h.objs.size+m)=some (hJ q)
 | [],_,_,_,e=>by simp at e|p::l,h,0,q,e=>by simp at e;subst e;exact⟨rfl,Bz (l:=l) (pR _ rfl)⟩|p::l,h,m+1,q,e=>by have:=BA (l:=l) (h:=h.push (hJ p)) (m:=m) (q:=q) (by simpa using e);rw[H9,show h.objs.size+1+m=h.objs.size+(m+1) by omega]at this;exact⟨by simpa[xm]using this.1,this.2⟩
theorem zJ:∀{l:List (Bool×Addr)} {h:Heap},(xm h l).length=l.length
 | [],_=>rfl|q::l,h=>by simp[xm,zJ (l:=l)]
noncomputable def cZ (n:Nat)(l:List (Bool×Addr)):List Src:=l.zipIdx.map λp=>⟨p.1.1,n+p.2,p.1.2⟩
def lW:(cZ i l)[o]? = l[o]?.map λq=>⟨q.1,i+o,q.2⟩:=by unfold cZ;rw[nP,agJ];cases l[o]?<;>simp
def gS {n:Nat}:(cZ n l).length=l.length:=by simp[cZ]
def mV {r:Src}(h:r∈cZ i l):∃m q,l[m]? = some q/\r=⟨q.1,i+m,q.2⟩:=by obtain⟨m,e⟩:=Qt h;rw[lW]at e;obtain⟨q,a,rfl⟩:=pM.mp e;exact⟨m,q,a,rfl⟩
def OG:(xm z l).map AJ=(cZ z.objs.size l).map λr=>.ref r.j:=by
 refine ady λm=>?_;rw[nP,nP,lW];cases e:l[m]? with
 |none=>rw[Pw (by rw[zJ];exact ac4.mp e)];rfl|some q=>rw[(BA e).1];rfl
def uI (mk:By l)(B:checkTypeCall "zip" ⟨l.map λw=>.ref w.2,[]⟩=pure ())(H:af1 "zip.__new__" ⟨.type "zip" :: l.map λw=>.ref w.2,[]⟩=pure ())(C:∀o,Vv "object.__init__" ⟨o::l.map λw=>.ref w.2,[]⟩)(t:∀w∈l,∃I,fS w.1 s.heap w.2 I)(h:∀p,IsZip p (s.heap.objs.size+l.length+2) (s.heap.objs.size+l.length) (s.heap.objs.size+l.length+1) .none->fG p (s.heap.objs.size+l.length) ((cZ s.heap.objs.size l).map λr=>.ref r.j)->fG p (s.heap.objs.size+l.length+1) (l.map λ_=>zb) ->
   (∀r∈cZ s.heap.objs.size l,k5 r.κ p r.j r.a 0)->(∀c o,s.heap.get? c=some o->p.get? c=some o)->Q (.ref (s.heap.objs.size+l.length+2)) { s with heap:=p }):
  wpAny (model q v) T (call (.type "zip") (l.map λw=>.ref w.2)) Q E s:=by
 refine callType_new F.called_zip (by decide) B H C F.entry_zip_new mk ⟨t,?_⟩;have b:(rM s.heap l).objs.size=s.heap.objs.size+l.length:=IK;have f:(IH s.heap l).objs.size=s.heap.objs.size+l.length+1:=by rw[H9,b]
 have k:(II s.heap l).objs.size=s.heap.objs.size+l.length+2:=by rw[H9,f]
 have n:∀{h:Heap} {o J:Obj} {c:Addr},h.get? c=some o->(h.push J).get? c=some o:=λe=>nz _ e;have i:(IJ s.heap l).get? (II s.heap l).objs.size=some _:=pR _ rfl;have prog:(IJ s.heap l).get? (IH s.heap l).objs.size=some _:=n (pR _ rfl);have u:(IJ s.heap l).get? (rM s.heap l).objs.size=some _:=n (n (pR _ rfl));show _/\_;rw[b,f,k]at i;rw[f]at prog;rw[b,OG]at u;rw[k];refine⟨⟨_,i,rfl⟩,h _ i u prog (λr z=>?_) λc o x=>n (n (n (Bz x)))⟩;obtain⟨m,w,y,rfl⟩:=mV z;exact⟨_,n (n (n (BA y).2)),rfl,rfl⟩
noncomputable def GJ (K : n3) (l : List (Bool × Addr)): It :=
 ⟨λi H => ∀ q ∈ l, ∃ c x, js K q.1 H q.2 c /\ c[i]? = some x,
  λi H x a => ∃ T h, x = .ref T /\ H T = none /\ a = upd H T (.tup h) /\ h.length = l.length /\ ∀ (m : Nat) (q : Bool × Addr), l[m]? = some q -> ∀ c, js K q.1 H q.2 c -> ∃ v, c[i]? = some v /\ h[m]? = some v,
  λi H => (∀ q ∈ l, ∃ c, js K q.1 H q.2 c) /\ ∃ q ∈ l, ∃ c, js K q.1 H q.2 c /\ c.length <= i⟩
theorem zK {P:Nat->V->Prop}:∀(c:List Value) (k:Nat),(∀(m:Nat) (u:Value),c[m]? = some u->∃v,P (k+m) v/\lX v u)->∃i,Vals i c /\ ∀(m:Nat) (v:V),i[m]? = some v->P (k+m) v
 | [],_,_=>⟨[],.nil,λm v h=>by simp at h⟩
 |u::c,k,h=>by
  obtain⟨v,p,r⟩:=h 0 u rfl;obtain⟨i,rs,a⟩:=zK (P:=P) c (k+1) λm u e=>by have:=h (m+1) u (by simpa using e);rwa[show k+(m+1)=k+1+m by omega]at this
  refine⟨v::i,.cons r rs,λm w e=>?_⟩;cases m with
  |zero=>simp at e;subst e;exact p|succ m=>have:=a m w (by simpa using e);rwa[show k+1+m=k+(m+1) by omega]at this
structure ZT (h:Heap)(z ti tu:Addr)(n0:Nat)(l:List (Bool×Addr))(i:Nat):Prop where
 hz:IsZip h z ti tu .none
 jr:fG h ti ((cZ n0 l).map λr=>.ref r.j)
 uH:∃os:List Value,fG h tu os/\os.length=l.length
 it:∀r∈cZ n0 l,k5 r.κ h r.j r.a i
noncomputable def kC (z a tu:Addr)(b:Nat)(l:List (Bool×Addr)):List Addr:=a::f_ z tu (cZ b l)
def D3:(cZ i l).map (·.j)=(nJ l.length).map (i + ·):=by
 refine ady λm=>?_;rw[nP,nP,lW];by_cases h:m<l.length
 . rw[mA h,acM h];rfl
 . rw[Pw (by omega),Pw (by simp;omega)];rfl
def D4 {P:te}{K:n3}(A:Nat)(l:List (Bool×Addr))(J:l.length<=8)(C:l ≠ []):
   Turn P v K (.Tuple B i a) (GJ K l) (kC (A+l.length+2) (A+l.length) (A+l.length+1) A l) (A+l.length+2) (λQ h=>ZT h (A+l.length+2) (A+l.length) (A+l.length+1) A l Q):=by
 generalize OH:A+l.length+2=z;generalize ay:A+l.length+1=tu;generalize ai:A+l.length=O;have a1:(tu:Nat)≠z:=by omega
 have a2:(O:Nat)≠z:=by omega
 have a3:(O:Nat)≠tu:=by omega
 have U8:∀r∈cZ A l,r.j≠O/\r.j≠z/\r.j≠tu:=λr f=>by
   obtain⟨m,q,hq,rfl⟩:=mV f;have:=(m5.mp hq).1;have b1:(A+m:Nat)≠O:=by omega
   have b2:(A+m:Nat)≠z:=by omega
   have b3:(A+m:Nat)≠tu:=by omega
   exact⟨b1,b2,b3⟩
 have memC:∀{c},c∈f_ z tu (cZ A l)->c=z\/c=tu \/ ∃r∈cZ A l,c=r.j:=fun {c} h=>by
   simp only[f_,nv,mO]at h;rcases h with h|h|⟨r,f,h⟩
   . exact .inl h
   . exact .inr (.inl h)
   . exact .inr (.inr ⟨r,f,h.symm⟩)
 have zd:(∀r∈cZ A l,r.a ∉ f_ z tu (cZ A l))->ZD z O tu (cZ A l):=λam=>by
   refine⟨a1,λh=>?_,?_,λr f=>(U8 r f).2,am,by rw[gS];exact J,λh=>C (acL.mp (by rw[<- gS (n:=A),h];rfl))⟩
   . rcases memC h with h|h|⟨r,f,h⟩
     . exact a2 h
     . exact a3 h
     . exact(U8 r f).1 h.symm
   . rw[D3,List.Nodup,ahv]
     exact aeD.imp λh e=>h (Nat.add_left_cancel e)
 have own:∀{Q h},ZT h z O tu A l Q->∀b∈kC z O tu A l,∃o,h.get? b=some o /\ ∀w,o.data ≠ .cell w:=fun {Q h} st c x=>by
   obtain⟨os,Y,_⟩:=st.uH;simp only[kC,nv]at x;rcases x with rfl|x
   . exact⟨_,st.jr,λw z=>by cases z⟩
   . rcases memC x with rfl|rfl|⟨r,f,rfl⟩
     . exact⟨_,st.hz,λw z=>by cases z⟩
     . exact⟨_,Y,λw z=>by cases z⟩
     . obtain⟨o,g,_,d⟩:=st.it r f
       exact⟨_,g,λw z=>by rw[d]at z;cases z⟩
 have mz:z∈kC z O tu A l:=by simp[kC,f_]
 have mt:O∈kC z O tu A l:=by simp[kC]
 have mu:tu∈kC z O tu A l:=by simp[kC,f_]
 have mj:∀r∈cZ A l,r.j∈kC z O tu A l:=λr f=>by simp only[kC,f_,nv];exact .inr (.inr (.inr (HB f)))
 refine⟨mz,λQ h st=>own st,λQ h h' st k=>?_,?_,?_,λ_ _ _ _ _ st h=>wpAny_pyIter_zip st.hz h⟩
 . obtain⟨os,Y,h4⟩:=st.uH
   exact⟨k z mz _ st.hz,k O mt _ st.jr,⟨os,k tu mu _ Y,h4⟩,λr f=>(st.it r f).at λo e=>k _ (mj r f) o e⟩
 . intro X hP hw hK x Q a8 s σ H E I hf st hg
   subst hP hw hK;obtain⟨os,Y,h4⟩:=st.uH;have ex:∀r∈cZ A l,∃(y:List V) (R:List Value) (w:V) (u:Value),js X.K r.κ H r.a y/\fS r.κ s.heap r.a R.toArray/\y[Q]? = some w/\R[Q]? = some u/\lX w u:=λr f=>by obtain⟨m,q,hq,rfl⟩:=mV f;obtain⟨y,w,h1,h2⟩:=hg q (p7 hq);obtain⟨R,rv,p,_⟩:=GI I h1;obtain⟨u,hu,ru⟩:=rv.get h2;exact⟨y,R,w,u,h1,p,h2,hu,ru⟩
   have D:=zd λr f h=>by obtain⟨y,_,_,_,h1,_⟩:=ex r f;exact D0 I (hf _ (pP _ h)) h1 rfl
   classical
   let xs:Src->Array Value:=λr=>if h:r∈cZ A l then(aeE (UJ (ex r h))).toArray else #[];have nK:∀r∈cZ A l,∃(y:List V) (w:V) (u:Value),js X.K r.κ H r.a y/\fS r.κ s.heap r.a (xs r)/\y[Q]? = some w/\(xs r)[Q]? = some u/\lX w u:=λr f=>by obtain⟨w,u,L,b,c,d,e⟩:=UJ (UJ (ex r f));have e1:xs r=(aeE (UJ (ex r f))).toArray:=dif_pos f;rw[<- e1]at b;exact⟨_,w,u,L,b,c,by rw[e1];simpa using d,e⟩
   refine D2 (xs:=xs) (os:=os) (I.ok.hd x) D st.hz st.jr Y (by rw[h4,gS]) st.it (λr f=>let⟨_,_,_,_,p,_⟩:=nK r f;p) (λZ h' ul uv g1 g2 g3 g5 g6=>?_) λ⟨r,f,e⟩=>by obtain⟨_,_,u,_,_,_,e2,_⟩:=nK r f;rw[e]at e2;cases e2
   refine⟨_,rfl,wpAny_letOwnedTupleGo_zip g1 λrh g7 g8=>?_⟩;obtain⟨U,ab,pw⟩:=zK (P:=λm w=>∀q,l[m]? = some q->∀y,js X.K q.1 H q.2 y->y[Q]? = some w) Z 0 λm u hm=>by
     have hl:m<l.length:=by rw[<- gS (n:=A),<- ul];exact(m5.mp hm).1
     have hq:l[m]? = some l[m]:=mA hl;have f:(cZ A l)[m]? = some ⟨l[m].1,A+m,l[m].2⟩:=by rw[lW,hq];rfl
     obtain⟨u',h1,h2⟩:=uv m _ f;rw[hm]at h2;cases h2;obtain⟨y,w,u2,p1,_,p3,p4,p5⟩:=nK _ (p7 f);rw[h1]at p4;cases p4;refine⟨w,λq e ys hy=>?_,p5⟩;rw[CV,hq]at e;cases e;rw[xl I hy p1];exact p3
   have wl:U.length=l.length:=by rw[ab.length,ul,gS]
   have I1:lb X a8 σ (upd H s.heap.objs.size (.tup U)) { s with heap:=s.heap.push { cls:=.type "tuple",data:=.seq Z.toArray } }:=
     I.laid (t':=s.toks) (o:=.tup U) (λb o q=>nz _ q) (mn _) (show eC X.prog X.w _ _ _ (.tup U) from⟨by rw[wl,HX];omega,Z,ab,fI.new _ _⟩)
   have lt:∀c∈kC z O tu A l,c≠s.heap.objs.size:=λc x=>by obtain⟨o,h,_⟩:=own st c x;exact p8 (nC h)
   have I2:lb X a8 σ (upd H s.heap.objs.size (.tup U)) { s with heap:=rh }:=s_ (t':=s.toks) (s:={ s with heap:=s.heap.push { cls:=.type "tuple",data:=.seq Z.toArray } }) (ch:=kC z O tu A l) I1 (λc o x e=>by
     have HN:c ∉ f_ z tu (cZ A l):=λq=>x (pP _ q);have h6:h'.get? c=some o:=by
       by_cases U9:c=s.heap.objs.size
       . subst U9
         have e':(s.heap.push { cls:=.type "tuple",data:=.seq Z.toArray }).get? s.heap.objs.size=some o:=e;rw[pR _ rfl]at e';rw[<- e'];exact g5
       . exact g6 c o HN ((ahr s.heap c _ U9).symm.trans e)
     exact(g8.2 c λq=>x (q ▸ mz)).trans h6) (λc x=>by obtain⟨f0,f1,f2,f3,f4,f5⟩:=hf c x;exact⟨by rw[aG (lt c x)];exact f0,f1,f2,f3,f4,f5⟩)
   refine⟨.ref s.heap.objs.size,_,I2,rfl,⟨_,U,rfl,I.fresh,rfl,wl,λm q hq ys hy=>?_⟩,⟨g7,?_,⟨Z,?_,by rw[ul,gS]⟩,λr f=>?_⟩,λc x=>?_⟩
   . have hm:m<U.length:=by rw[wl];exact(m5.mp hq).1
     have:=pw m U[m] (mA hm) q (by rw[CV];exact hq) ys hy;exact⟨_,this,mA hm⟩
   . exact(g8.2 _ a2).trans (g6 O _ D.tm st.jr)
   . exact(g8.2 _ D.n2).trans g2
   . exact(g3 r f).at λo e=>(g8.2 _ (D.jz r f).1).trans e
   . rw[aG (lt c x)];exact(hf c x).1
 . intro X hP hw hK x Q a8 s σ H E I hf st hg
   subst hP hw hK;obtain⟨os,Y,h4⟩:=st.uH;obtain⟨nZ,q0,ae,ys,hy,hle⟩:=hg;have ex:∀r∈cZ A l,∃(y:List V) (R:List Value),js X.K r.κ H r.a y/\fS r.κ s.heap r.a R.toArray/\R.length=y.length:=λr f=>by obtain⟨m,q,hq,rfl⟩:=mV f;obtain⟨y,h1⟩:=nZ q (p7 hq);obtain⟨R,rv,p,_⟩:=GI I h1;exact⟨y,R,h1,p,rv.length.symm⟩
   have D:=zd λr f h=>by obtain⟨y,_,h1,_⟩:=ex r f;exact D0 I (hf _ (pP _ h)) h1 rfl
   classical
   let xs:Src->Array Value:=λr=>if h:r∈cZ A l then(aeE (UJ (ex r h))).toArray else #[];have nK:∀r∈cZ A l,∃(y:List V),js X.K r.κ H r.a y/\fS r.κ s.heap r.a (xs r)/\(xs r).size=y.length:=λr f=>by obtain⟨L,b,c⟩:=UJ (UJ (ex r f));have e1:xs r=(aeE (UJ (ex r f))).toArray:=dif_pos f;rw[<- e1]at b;exact⟨_,L,b,by rw[e1,ox];exact c⟩
   obtain⟨m0,ah⟩:=Qt ae;have U_:(cZ A l)[m0]? = some ⟨q0.1,A+m0,q0.2⟩:=by rw[lW,ah];rfl
   have ag:=p7 U_;obtain⟨ar,p1,p2,p3⟩:=nK _ ag;have Sy:(xs ⟨q0.1,A+m0,q0.2⟩)[Q]? = none:=by rw[xl I hy p1]at hle;exact aeq (by omega)
   refine D2 (xs:=xs) (os:=os) (I.ok.hd x) D st.hz st.jr Y (by rw[h4,gS]) st.it (λr f=>let⟨_,_,p,_⟩:=nK r f;p) (λZ h' ul uv g1 g2 g3 g5 g6=>?_) λ_ h' g=>⟨rfl,s_ (t':=s.toks) (ch:=f_ z tu (cZ A l)) I (λc o x e=>g c o x e) λc x=>hf c (pP _ x)⟩
   obtain⟨u,h1,_⟩:=uv m0 _ U_;rw[Sy]at h1;cases h1
def K2 (a b c:Value):checkTypeCall "zip" ⟨[a,b,c],[]⟩=pure ():=by kernel_rfl
def K3 (a b c:Value):af1 "zip.__new__" ⟨[.type "zip",a,b,c],[]⟩=pure ():=by kernel_rfl
def K4 (o a b c:Value):Vv "object.__init__" ⟨[o,a,b,c],[]⟩:=by unfold Vv;rw[signature?_of (id:="object.__init__") (n:=['_','_','t','i','n','i','_','_']) (o:=['t','c','e','j','b','o']) (by kernel_rfl) F.owner_object];kernel_rfl
noncomputable def tx:D->Option (Bool×List D)
 |.lst c=>some (true,c)|.tup c=>some (false,c)|_=>none
noncomputable def pA:List D->Option (List (Bool×List D))
 | []=>some []|d::ds=>(tx d).bind λq=>(pA ds).map λr=>q::r
noncomputable def kD (a:List (List D))(L:Nat):List D:=(nJ L).map λi=>.tup (a.map λc=>c.getD i .ay)
noncomputable def rN (fr:FA):FI:=λc g=>(fr c g).bind λr=>(pA r.1).bind λa=>match a with
 | []=>none|q::t=>if((t.length == 1||t.length == 2)&&t.all λp=>p.2.length == q.2.length)=true then some (kD ((q::t).map (·.2)) q.2.length,r.2)else none
def BB {H ι d x j xs}(r:Rel J H ι d x)(h:tx d=some (j,xs)){i f}(e:jI H ι i f):∃a n,x = .ref a/\js J.fr j i a n/\ao J i f xs n:=by
 cases d with
 |lst p =>
  cases h;obtain⟨a,n,rfl,b,c⟩:=r;exact⟨a,n,rfl,(b.eH e).sq,ao.eH e _ c⟩
 |tup p =>
  cases h;obtain⟨a,n,rfl,b,c⟩:=r;exact⟨a,n,rfl,(b.eH e).sq,ao.eH e _ c⟩
 |_=>cases h
theorem zL {K:KW}{H ι}:∀{ds:List D} {u:List V} {n:List (Bool×List D)},ao K H ι ds u->pA ds=some n->∃l:List (Bool×Addr),u=l.map (λq=>V.ref q.2)/\l.length=n.length /\ ∀(m:Nat) (q:Bool×Addr),l[m]? = some q->∃d x,n[m]? = some (q.1,x)/\Rel K H ι d (.ref q.2)/\tx d=some (q.1,x)
 | [],u,n,r,h=>by simp only[ao]at r;subst r;cases h;exact⟨[],rfl,rfl,λm q h=>by simp at h⟩
 |d::ds,u,n,r,h=>by
  obtain⟨v,y,rfl,b,j⟩:=r;obtain⟨⟨κ,x⟩,c,h⟩:=bind_some h;obtain⟨k,i,rfl⟩:=pM.mp h;obtain⟨l,rfl,f,p⟩:=zL j i;obtain⟨a,_,rfl,_⟩:=BB b c Ext.refl.eH;refine⟨(κ,a)::l,rfl,by simp[f],λm q e=>?_⟩;cases m with
  |zero=>simp at e;subst e;exact⟨d,x,rfl,b,c⟩|succ m=>simpa using p m q (by simpa using e)
theorem uJ:∀{l:List (Bool×Addr)} {c:List Value},Vals (l.map λq=>V.ref q.2) c->c=l.map λq=>AJ q.2
 | [],_,.nil=>rfl|q::l,_,.cons r t=>by cases r;rw[uJ t];rfl
theorem zM {K:KW}{H ι}:∀{ds:List D} {c:List V},ds.length=c.length->(∀(m:Nat) (d:D),ds[m]? = some d->∃v,c[m]? = some v/\Rel K H ι d v)->ao K H ι ds c
 | [],[],_,_=>by simp only[ao]| [],_::_,h,_=>by simp at h|_::_,[],h,_=>by simp at h|d::ds,v::c,i,h=>by simp only[ao];obtain⟨w,e,r⟩:=h 0 d rfl;simp at e;subst e;exact⟨v,c,rfl,r,zM (by simpa using i) λm d e=>by simpa using h (m+1) d (by simpa using e)⟩
def GK:∀{l:List (Bool×Addr)},l.length=2\/l.length=3->(∀prog∈l,∃n,fS prog.1 s.heap prog.2 n) ->
  (∀i,IsZip i (s.heap.objs.size+l.length+2) (s.heap.objs.size+l.length) (s.heap.objs.size+l.length+1) .none->fG i (s.heap.objs.size+l.length) ((cZ s.heap.objs.size l).map λr=>.ref r.j)->fG i (s.heap.objs.size+l.length+1) (l.map λ_=>zb) ->
   (∀r∈cZ s.heap.objs.size l,k5 r.κ i r.j r.a 0)->(∀c o,s.heap.get? c=some o->i.get? c=some o)->Q (.ref (s.heap.objs.size+l.length+2)) { s with heap:=i })->wpAny (model q v) T (call (.type "zip") (l.map λprog=>.ref prog.2)) Q E s
 | [],h,_,_=>by simp at h| [_],h,_,_=>by simp at h| [p,prog],_,t,h=>uI (K0 p prog) (F.typeCall_zip_2 _ _) (F.newCall_zip_2 _ _) (λo=>F.args_object_init_3 o _ _) t h| [p,prog,r],_,t,h=>uI (K1 p prog r) (K2 _ _ _) (K3 _ _ _) (λo=>K4 o _ _ _) t h|_::_::_::_::_,h,_,_=>by simp only[yw]at h;omega
theorem kg.kD {K:KW}{H ι}{l:List (Bool×Addr)}{A:List (Bool×List D)}{L:Nat}(B:l.length=A.length)(E:l ≠ [])(C:∀q∈A,q.2.length=L)
   (p:∀(m:Nat) (q:Bool×Addr),l[m]? = some q->∃d n,A[m]? = some (q.1,n)/\Rel K H ι d (.ref q.2)/\tx d=some (q.1,n)):kg K (GJ K.fr l) H ι (kD (A.map (·.2)) L):=λi Q O g1 e1 R=>by
 have J:∀(m:Nat) (q:Bool×Addr),l[m]? = some q->∃n I,A[m]? = some (q.1,n)/\n.length=L/\js K.fr q.1 Q q.2 I/\ao K Q O n I:=λm q e=>by obtain⟨d,n,f,s,b⟩:=p m q e;obtain⟨a,I,e2,c,k⟩:=BB s b e1;cases e2;exact⟨n,I,f,C _ (p7 f),c,k⟩
 refine⟨λhi=>⟨λq z=>?_,?_⟩,λd hd=>?_⟩
 . obtain⟨m,hm⟩:=Qt z
   obtain⟨_,I,_,_,h,_⟩:=J m q hm;exact⟨I,h⟩
 . have U:0<l.length:=ae3.mpr E
   obtain⟨n,I,_,s,b,c⟩:=J 0 _ (mA U);refine⟨_,u3 U,I,b,?_⟩;rw[<- c.length,s];simpa[_root_.kD]using hi
 . unfold _root_.kD at hd
   rw[nP]at hd;obtain⟨j,u,rfl⟩:=pM.mp hd;have hi:i<L:=by simpa using (m5.mp u).1
   rw[acM hi]at u;cases u;have Y:∀(m:Nat) (q:Bool×Addr),l[m]? = some q->∃n I v,A[m]? = some (q.1,n)/\js K.fr q.1 Q q.2 I/\I[i]? = some v/\Rel K Q O (n.getD i .ay) v:=λm q e=>by
     obtain⟨n,I,f,s,b,c⟩:=J m q e;have hx:n[i]? = some (n.getD i .ay):=by rw[qa,mA (by omega)];rfl
     obtain⟨v,k,r⟩:=c.get hx;exact⟨n,I,v,f,b,k,r⟩
   refine⟨λq z=>?_,λx H2 y=>?_⟩
   . obtain⟨m,hm⟩:=Qt z
     obtain⟨_,I,v,_,b,c,_⟩:=Y m q hm;exact⟨I,v,b,c⟩
   . obtain⟨T,ws,rfl,o,rfl,hw,hy⟩:=y
     refine⟨Ext.lay o,R.lay o,?_⟩;simp only[Rel];refine⟨T,ws,rfl,.inl ⟨.inl aT,R.fresh o⟩,ao.ext (Ext.lay o) _ (zM (by simp[hw,B]) λm d hd=>?_)⟩;rw[u6,nP]at hd;obtain⟨q',Z,rfl⟩:=pM.mp hd;have hm:m<l.length:=by rw[B];exact(m5.mp Z).1
     obtain⟨n,I,v,f,b,c,k⟩:=Y m _ (mA hm);obtain⟨v',r,h7⟩:=hy m _ (mA hm) I b;rw[c]at r;cases r;rw[Z]at f;cases f;exact⟨_,h7,k⟩
def OJ {R:It->Hp->Prop}(h:l.length=2\/l.length=3)(I:lb X b y H s)(u:∀q∈l,∃r,js X.K q.1 H q.2 r)(hR:R (GJ X.K l) H):
  wpAny (model X.prog X.w) X.A (call (.type "zip") (l.map λq=>.ref q.2)) (λv s1=>wpAny (model X.prog X.w) X.A (SJ v) (Mz X b y (.Tuple B i a) R) X.xe s1) X.xe s:=by
 refine GK h (λq hm=>let⟨_,e⟩:=u q hm;let⟨_,_,p,_⟩:=GI I e;⟨_,p⟩) λo x k f C j=>wpAny_pyIter_zip x ?_;refine⟨s.heap.objs.size+l.length+2,kC _ _ _ _ l,_,_,H,rfl,I.kept (t':=s.toks) j,D4 s.heap.objs.size l (by omega) (λz=>by rw[z]at h;simp at h),⟨x,k,⟨_,f,by simp⟩,C⟩,λc n=>?_,hR⟩;have le:s.heap.objs.size<=c:=by
  simp only[kC,f_,D3,nv,mO,ug]at n;rcases n with rfl|rfl|rfl|⟨m,_,rfl⟩
  . exact Vx _ _
  . exact pe (Vx _ l.length) (Vx _ 2)
  . exact pe (Vx _ l.length) (Vx _ 1)
  . exact Vx _ _
 exact I.nT le (I.aY.fresh le)
def K5 {O:List Expr}{A M:Pos}(E:Gl X "zip")(C:X.mg "zip" = none)(K:DA X (e::O) w)(L:m2 (e::O) X.env=(false,eval e X.env)::m2 O X.env)(J:(tT A (m2 O X.env)).any (·.1)=false):
  DI X (.Tuple B i M) (.Call (.Name "zip" a) (e::O) [] A) (rN w):=.of (by
 intro Q s U H R I h;obtain⟨Y,Z,g,ds,y,G0,S0,h,q⟩:=h;obtain⟨⟨as,g1⟩,h1,h⟩:=bind_some h;obtain⟨qs,h2,h⟩:=bind_some h;cases qs with
 |nil=>cases h
 |cons q0 t =>
  dsimp only at h;split at h
  . rename_i u
    cases h;simp only[l8,wt,beq_iff_eq,HL]at u;refine Call_ (jh I E C PyProof.Rows.boot_zip (ZP (bf (K.un A Q s U H (λo n=>∃b,Ext H Y n b/\aA X.kw n b y/\ao X.kw n b as o) I (iy.bind G0 S0 h1 λn b v f fr S1 k=>⟨b,f,fr,k⟩)) λus s1 aS=>?_) L J) (by decide) (by decide));obtain⟨o,n,I1,k,b,f,fr,rd⟩:=aS;obtain⟨l,rfl,r,x⟩:=zL rd h2;obtain rfl:=uJ k;have j:l.length=2\/l.length=3:=by rw[r,yw];omega
    have l0:l ≠ []:=λz=>by rw[z]at j;simp at j
    refine OJ j I1 (λq c=>?_) (q n b _ f fr (.kD r l0 (λq c=>?_) x))
    . obtain⟨m,C⟩:=Qt c
      obtain⟨d,xs,_,h3,h4⟩:=x m q C;obtain⟨p,o,e2,h5,_⟩:=BB h3 h4 Ext.refl.eH;cases e2;exact⟨_,h5⟩
    . rcases nv.mp c with rfl|c
      . rfl
      . exact u.2 q c
  . cases h)
def xn:rN w k r=(w k r).bind λfr=>(pA fr.1).bind λc=>match c with
 | []=>none|q::t=>if((t.length == 1||t.length == 2)&&t.all λp=>p.2.length == q.2.length)=true then some (kD ((q::t).map (·.2)) q.2.length,fr.2)else none:=rfl
noncomputable def vB (a b:D)(g:G):Option (D×G):=match a,b with
 |.lst c,.int k=>if(!c.isEmpty&&decide (0<=k)&&fR k&&aC (c.length*k.toNat))=true then some (.ref g.length,g ++ [(m6 k.toNat c).flatten])else none|a,b=>bj a b g
def K6:bS X (th .Mult) (dW X.kw vB):=by
 intro n s B H x y v u Q I i j q;obtain⟨C,g,E,J,d,o,G0,c,f,q,p⟩:=q;unfold vB at q;split at q
 . rename_i U k
   split at q
   . rename_i z
     simp only[l8,decide_eq_true_eq,wQ]at z;cases q;simp only[Rel]at c f;subst f;obtain⟨a,O,rfl,hq,b⟩:=c;have r:=fR.and z.1.2;have h:=aC.le z.2;rw[HX]at h;refine zC n s B H _ _ v u Q I i j ⟨a,k,O,rfl,rfl,hq.sq,?_,z.1.1.2,r.2,by rw[<- b.length];exact h,λR l=>?_⟩
     . intro e
       subst e;have:=b.length;simp at this;subst this;simp at z
     . refine p _ _ _ (Ext.push l) (G0.push l (b.rep _)) ?_
       simp only[Rel];exact⟨R,rfl,eG.new G0.len⟩
   . cases q
 . exact wR n s B H x y v u Q I i j ⟨C,g,E,J,d,o,G0,c,f,q,p⟩
@[simp] def Va:vB (.lst A) (.int M) r=if(!A.isEmpty&&decide (0<=M)&&fR M&&aC (A.length*M.toNat))=true then some (.ref r.length,r ++ [(m6 M.toNat A).flatten])else none:=rfl
mutual
noncomputable def jJ:D->Bool
 |.tup c=>gh c|.lst c=>gh c|.fn _ _=>false|_=>true
noncomputable def gh:List D->Bool
 | []=>true|d::ds=>jJ d&&gh ds
end
abbrev Am:=Addr->Option Obj
noncomputable def d5 (m:Am)(H:Hp):Hp:=λb=>match m b with|some o=>some (oK b o)|none=>H b
noncomputable def dk (m:Am)(H:Hp):Hp:=λb=>match m b with|some _=>none|none=>H b
def jt {m:Am}(q:m f=some p):d5 m H f=some (oK f p):=by unfold d5;rw[q]
def cF {m:Am}(q:m f=none):d5 m H f=H f:=by unfold d5;rw[q]
def ju {m:Am}(q:m f=some p):dk m H f=none:=by unfold dk;rw[q]
def b9 {m:Am}(q:m f=none):dk m H f=H f:=by unfold dk;rw[q]
def jZ {m:Am}(q:H f=none):dk m H f=none:=by
 cases z:m f with
 |none=>rw[b9 z];exact q|some o=>exact ju z
def D5 {m:Am}(x:eF q v H z)(i:∀b o,m b=some o->z.get? b=some o/\H b=none):eF q v (d5 m H) z:=λb u e=>by
 cases h:m b with
 |some o =>
  rw[jt h]at e;cases e;exact⟨(i b o h).1,⟨o,(i b o h).1⟩,λa f p k=>k _ p⟩
 |none =>
  rw[cF h]at e;have keep:∀c P,H c=some P->d5 m H c=some P:=λc P r=>by
   cases w:m c with
   |none=>rw[cF w];exact r|some o=>rw[(i c o w).2]at r;cases r
  exact(x b u e).dA (λc P _ r=>r) (λc r=>keep c _ r) (λc n r=>keep c _ r) λc h r=>keep c _ r
def D6 {m:Am}(x:eF q v H z)(a:∀b o,m b=some o->H b=some (oK b o)):eF q v (dk m H) z:=λb u e=>by
 cases h:m b with
 |some o=>rw[ju h]at e;cases e
 |none =>
  rw[b9 h]at e;have keep:∀c P,(∀o,P≠oK c o)->H c=some P->dk m H c=some P:=λc P n r=>by
   cases w:m c with
   |none=>rw[b9 w];exact r|some o=>rw[a c o w]at r;exact absurd (Az r).symm (n o)
  exact(x b u e).dA (λc P _ r=>r) (λc r=>keep c _ (λ_ w=>by cases w) r) (λc i r=>keep c _ (λ_ w=>by cases w) r) λc h r=>keep c _ (λ_ w=>by cases w) r
def tG {m:Am}(a:∀f o,m f=some o->H f=some (oK f o)){u:HO}(e:H f=some u)(n:∀o,u≠oK f o):m f=none:=by
 cases z:m f with
 |none=>rfl|some o=>rw[a f o z]at e;exact absurd (Az e).symm (n o)
def OL {m:Am}(u:Un U [] (dk m H) t z n)(i:∀b o,m b=some o->z.get? b=some o/\H b=some (oK b o)):Un U [] H (d5 m t) z n:=by
 have f:∀b,H b=none->m b=none:=λb r=>by
  cases p:m b with
  |none=>rfl|some o=>rw[(i b o p).2]at r;cases r
 have st:∀b v,(∀o,v≠oK b o)->H b=some v->(∀p:dk m H b=some v,t b=some v)->d5 m t b=some v:=λb v r e k=>by have p:=tG (λb o q=>(i b o q).2) e r;rw[cF p];exact k (by rw[b9 p];exact e)
 refine⟨λb o q r c a=>u.keep b o q (jZ r) c a,λb o q r c a=>u.slot b o q (jZ r) c a,λb o q r a=>?_,λb o q a=>u.there b o q a,
  λb x q=>st b _ (λ_ p=>by cases p) q λp=>u.lu b x p,λb o v q=>st b _ (λ_ p=>by cases p) q λp=>u.j3 b o v p,λb v h q=>st b _ (λ_ p=>by rw[p]at h;cases h) q λp=>u.j4 b v h p⟩
 rw[cF (f b r)];exact u.free b o q (jZ r) a
def OM {m:Am}(u:Un U [] (d5 m H) t z n)(i:∀b o,m b=some o->z.get? b=some o/\H b=none)(j:∀b o,m b=some o->t b=some (oK b o))(ok:eF q v t n):Un U [] H (dk m t) z n:=by
 have x:∀b o,m b=some o->n.get? b=some o:=λb o r=>(ok b _ (j b o r)).1;have f:∀b P,H b=some P->m b=none:=λb P e=>by
   cases p:m b with
   |none=>rfl|some o=>rw[(i b o p).2]at e;cases e
 have st:∀b P,H b=some P->(∀p:d5 m H b=some P,t b=some P)->dk m t b=some P:=λb P e k=>by rw[b9 (f b P e)];exact k (by rw[cF (f b P e)];exact e)
 refine⟨λb o r h c a=>?_,λb o r h c a=>?_,λb o r h a=>?_,λb o r a=>u.there b o r a,λb B r=>st b _ r λp=>u.lu b B p,λb o P r=>st b _ r λp=>u.j3 b o P p,λb P w r=>st b _ r λp=>u.j4 b P w p⟩
 . cases p:m b with
   |none=>exact u.keep b o r (by rw[cF p];exact h) c a
   |some y =>
    have:=(i b y p).1;rw[r]at this;cases this;exact x b o p
 . cases p:m b with
   |none=>exact u.slot b o r (by rw[cF p];exact h) c a
   |some y =>
    have:=(i b y p).1;rw[r]at this;cases this;exact⟨o.slots,x b o p⟩
 . cases p:m b with
   |none=>rw[b9 p];exact u.free b o r (by rw[cF p];exact h) a|some y=>exact ju p
section
variable {m:Am}
mutual
theorem Rel.xo (j:∀f p,m f=some p->H f=some (oK f p)):∀(d:D) {v:V},jJ d=true->Rel J H R d v->Rel J (dk m H) R d v
 |.ay,v,_,z=>z|.bl _,v,_,z=>z|.int _,v,_,z=>z|.str _,v,_,z=>z
 |.tup q,v,b,z=>by
  simp only[Rel]at z ⊢;obtain⟨a,i,o,c,e⟩:=z;refine⟨a,i,o,?_,ao.xo j q b e⟩;rcases c with⟨z|⟨u,z⟩,n⟩|z
  . exact .inl ⟨.inl (by rw[b9 (tG j z λ_ b=>by cases b)];exact z),n⟩
  . exact .inl ⟨.inr ⟨u,by rw[b9 (tG j z λ_ b=>by cases b)];exact z⟩,n⟩
  . exact .inr z
 |.lst q,v,b,z=>by
  simp only[Rel]at z ⊢;obtain⟨a,i,o,c,e⟩:=z;refine⟨a,i,o,?_,ao.xo j q b e⟩;rcases c with⟨z|⟨u,z⟩,n⟩|z
  . exact .inl ⟨.inl (by rw[b9 (tG j z λ_ b=>by cases b)];exact z),n⟩
  . exact .inl ⟨.inr ⟨u,by rw[b9 (tG j z λ_ b=>by cases b)];exact z⟩,n⟩
  . exact .inr z
 |.eM,v,_,z=>by simp only[Rel]at z ⊢;obtain⟨a,o,c,e⟩:=z;exact⟨a,o,by rw[b9 (tG j c λ_ b=>by cases b)];exact c,e⟩
 |.ref n,v,_,z=>z|.bu n,v,_,z=>z|.fn x ds,v,b,z=>by cases b
theorem ao.xo (i:∀f p,m f=some p->H f=some (oK f p)):∀(ds:List D) {h:List V},gh ds=true->ao J H R ds h->ao J (dk m H) R ds h
 | [],h,_,z=>z|d::ds,h,b,z=>by simp only[ao]at z ⊢;simp only[gh,l8]at b;obtain⟨v,c,o,a,e⟩:=z;exact⟨v,c,o,Rel.xo i d b.1 a,ao.xo i ds b.2 e⟩
end
end
def Ext.kO {m:Am}{ι:Ix}(f:∀b o,m b=some o->H b=none):Ext H ι (d5 m H) ι:=by
 have c:∀a v,H a=some v->m a=none:=λa v e=>by
  cases z:m a with
  |none=>rfl|some o=>rw[f a o z]at e;cases e
 refine⟨λa o q _=>by rw[cF (c a o q)];exact q,λa q=>?_,⟨[],by simp,λ_ q=>by simp at q⟩,rfl,λ_ _=>rfl⟩;cases e:H a with
 |none=>exact absurd e q|some v=>rw[cF (c a v e),e];simp
def aA.empty (G0:aA J H R r)(f:∀b,H b≠none->t b≠none\/b ∉ R.ix++R.hd)(j:∀q∈J.lx.tb,t q.1=H q.1):aA J t (Ix.none R) []:=
 ⟨RT,rfl,λb e=>⟨by simp[Ix.none],by
  have a:b∈R.ix++R.hd:=e;rcases m3.mp a with m|m
  . exact(f b (G0.kO m)).elim id λz=>absurd a z
  . exact(f b (G0.cQ b m).2).elim id λz=>absurd a z⟩,λi h q=>by simp at q,λq c=>⟨by rw[j q c];exact(G0.tb q c).1,by simp[Ix.none]⟩⟩
def K7 {m:Am}(G0:aA J H R r)(f:∀b o,m b=some o->H b=some (oK b o)/\b ∉ R.ix)(e:Ext (dk m H) (Ix.none R) t ι'):Ext H R (d5 m t) R/\aA J (d5 m t) R r /\ ∀a∈R.ix,t a=H a:=by
 have sm:∀a o,m a=none->H a=some o->t a=some o:=λa o z q=>e.same a o (by rw[b9 z];exact q) (by simp[Ix.none]);have E0:Ext H R (d5 m t) R:=by
  refine⟨λa o q _=>?_,λa q=>?_,⟨[],by simp,λ_ q=>by simp at q⟩,rfl,λ_ _=>rfl⟩
  . cases z:m a with
    |none=>rw[cF z];exact sm a o z q|some h=>rw[jt z];rw[(f a h z).1]at q;exact q
  . cases z:m a with
    |some h=>rw[jt z];simp
    |none =>
     rw[cF z];exact e.there a (by rw[b9 z];exact q)
 have same:∀a∈R.ix,t a=H a/\m a=none:=λa c=>by
  have z:m a=none:=by
    cases z:m a with
    |none=>rfl|some o=>exact absurd c (f a o z).2
  obtain⟨o,i,_⟩:=G0.lst c;exact⟨by rw[i];exact sm a o z i,z⟩
 exact⟨E0,G0.ext E0 λa c=>by rw[cF (same a c).2];exact(same a c).1,λa c=>(same a c).1⟩
def K8 {m:Am}(G0:aA J H R r)(i:∀b o,m b=some o->H b=none)(e:Ext (d5 m H) (Ix.none R) t ι'):Ext H R (dk m t) R/\aA J (dk m t) R r/\(∀a∈R.ix,t a=H a) /\ ∀b o,m b=some o->t b=some (oK b o):=by
 have f:∀a v,H a=some v->m a=none:=λa v e=>by
  cases z:m a with
  |none=>rfl|some o=>rw[i a o z]at e;cases e
 have sm:∀a o,H a=some o->t a=some o:=λa o q=>e.same a o (by rw[cF (f a o q)];exact q) (by simp[Ix.none]);have E0:Ext H R (dk m t) R:=by
  refine⟨λa o q _=>by rw[b9 (f a o q)];exact sm a o q,λa q=>?_,⟨[],by simp,λ_ q=>by simp at q⟩,rfl,λ_ _=>rfl⟩;cases z:H a with
  |none=>exact absurd z q|some v=>rw[b9 (f a v z),sm a v z];simp
 have same:∀a∈R.ix,t a=H a/\m a=none:=λa c=>by obtain⟨o,h,_⟩:=G0.lst c;exact⟨by rw[h];exact sm a o h,f a o h⟩
 exact⟨E0,G0.ext E0 λa c=>by rw[b9 (same a c).2];exact(same a c).1,λa c=>(same a c).1,λb o z=>e.same b _ (jt z) (by simp[Ix.none])⟩
noncomputable def cY (fn:Fn):Fn:=λds g=>if gh ds=true then(fJ fn ds g).bind λr=>if jJ r.1=true then some r else none else none
def rO {ds g d g'}(h:cY u ds g=some (d,g')):gh ds=true/\aQ 0 ds=true/\(∃gx,u ds []=some (d,gx))/\bT 0 d=true/\jJ d=true/\g'=g:=by
 unfold cY at h;split at h
 . rename_i z
   obtain⟨⟨j,n⟩,f,h⟩:=bind_some h;split at h
   . rename_i i
     cases h;obtain⟨a,b,c,e⟩:=i9 f;exact⟨z,a,b,c,i,e⟩
   . cases h
 . cases h
noncomputable def gO (fn:Fn):Fn:=λds g=>(fJ fn ds g).bind λr=>if jJ r.1=true then some r else none
def BD {ds g d g'}(h:gO u ds g=some (d,g')):aQ 0 ds=true/\(∃gx,u ds []=some (d,gx))/\bT 0 d=true/\jJ d=true/\g'=g:=by
 unfold gO at h;obtain⟨⟨j,n⟩,f,h⟩:=bind_some h;split at h
 . rename_i i
   cases h;obtain⟨a,b,c,e⟩:=i9 f;exact⟨a,b,c,i,e⟩
 . cases h
structure vC (l:d_):Prop where
 kind:l.sc.kind = .function
 co:l.sc.isCoroutine=false
 gen:l.sc.isGenerator=false
 IL:∀y∈l.sc.names,y.2 ≠ .cell
 fr:∀x,l.sc.names.lookup x=some .free->x∈l.fv
 fv:∀x∈l.fv,l.sc.names.lookup x=some .free
 ps:∀x∈l.ps,l.sc.names.lookup x=some .local
 nd:(l.fv++l.ps).Nodup
 bind:∀(cl:List (Str×Addr)) (pm dG fX:Value) (us:List Value),us.length=l.ps.length->WU (agB "<lambda>" l.qual l.ar l.bd l.sc cl pm dG fX) ⟨us,[]⟩=pure (l.ps.zip us)
noncomputable def pB (lx:Lx)(P:te)(w:World)(K:n3)(mg:Str->Option Value)(base:Heap)(l:d_)(b:List (Str×Addr))(f:Addr)(a:Value)(A:og)(outer:List Env)(s:lO)(H:Hp):Cx where
 prog:=P
 w:=w
 K:=K
 mg:=mg
 base:=base
 A:=A.deeper (aeY l.qual l.sc s.heap.objs.size f a b)
 N:=l.fv++l.ps
 s₀:=s
 H₀:=H
 env:=aeY l.qual l.sc s.heap.objs.size f a b
 outer:=outer
 stack:=aeY l.qual l.sc s.heap.objs.size f a b::outer
 ex:=[]
 calm:=true
 fn:=λ_=>false
 pn:=[]
 lx:=lx
 xe:=λ_ _=>False
theorem cS.mem {H:Hp}{i:Ix}:∀{cl:List (Str×Addr)} {n:List V},cS H i cl n->∀c∈cl.map (·.2),∃o u,Xo H i c (oK c o)/\o.data = .cell (some u)
 |_,_,.nil,c,h=>by simp at h
 |_,_,.cons (c:=c0) (o:=o) (u:=u) x d r t,c,h=>by
  rcases nv.mp h with rfl|h
  . exact⟨o,u,x,d⟩
  . exact t.mem c h
theorem cS.get {H:Hp}{n:Ix}:∀{cl:List (Str×Addr)} {p:List V},cS H n cl p->∀{i:Nat} {v:V},p[i]? = some v->∃y c o u,cl[i]? = some (y,c)/\Xo H n c (oK c o)/\o.data = .cell (some u)/\lX v u
 |_,_,.nil,_,_,h=>by simp at h|_,_,.cons (y:=y) (c:=c) (o:=o) (u:=u) x d r t,0,v,h=>by simp at h;subst h;exact⟨y,c,o,u,rfl,x,d,r⟩|_,_,.cons x d r t,i+1,v,h=>by obtain⟨y,c,o,u,a,b⟩:=t.get (i:=i) (by simpa using h);exact⟨y,c,o,u,by simpa using a,b⟩
theorem cS.len {H:Hp}{h:Ix}:∀{cl:List (Str×Addr)} {c:List V},cS H h cl c->cl.length=c.length
 |_,_,.nil=>rfl|_,_,.cons x d r t=>by simp[t.len]
theorem fK {a:Type}:∀{cl:List (Str×a)} {y:Str} {c:a},(cl.map (·.1)).Nodup->(y,c)∈cl->cl.lookup y=some c
 | [],_,_,_,h=>by simp at h
 | (z,e)::cl,y,c,nd,h=>by
  rw[xW];rw[wk,Dx]at nd;rcases nv.mp h with h|h
  . cases h;simp
  . rw[show(y == z)=false from beq_eq_false_iff_ne.mpr λe=>nd.1 (by rw[<- e];exact HB (f:=(·.1)) h)]
    exact fK nd.2 h
theorem oq:∀{cl:List (Str×Addr)} {x y:Str} {c:Addr},(cl.map (·.2)).Nodup->(x,c)∈cl->(y,c)∈cl->x=y
 | [],_,_,_,_,h,_=>by simp at h
 | (z,e)::cl,x,y,c,nd,h1,h2=>by
  rw[wk,Dx]at nd;rcases nv.mp h1 with a|a<;>rcases nv.mp h2 with b|b
  . cases a;cases b;rfl
  . cases a;exact absurd (HB (f:=(·.2)) b) nd.1
  . cases b;exact absurd (HB (f:=(·.2)) a) nd.1
  . exact oq nd.2 a b
def tH (nd:Z.Nodup)(e:Y.length=Z.length)(b:Z[i]? = some x)(c:Y[i]? = some h):(Z.zip Y).reverse.lookup x=some h:=by refine fK ?_ (aeA.mpr (p7 (i:=i) (ad0.mpr ⟨b,c⟩)));rw[List.map_reverse,(List.reverse_perm _).nodup_iff,List.map_fst_zip (by omega)];exact nd
noncomputable def b_ (a:List (Str×Addr))(h:Heap):Am:=λb=>if b∈a.map (·.2)then h.get? b else none
def iB (e:b_ c z f=some p):f∈c.map (·.2)/\z.get? f=some p:=by
 unfold b_ at e;split at e
 . rename_i a;exact⟨a,e⟩
 . cases e
def xp (a:f∈c.map (·.2))(e:z.get? f=some p):b_ c z f=some p:=by unfold b_;rw[if_pos a];exact e
def cS.m (P:cS H R c I)(ok:eF q J.w H s.heap):∀b o,b_ c s.heap b=some o->s.heap.get? b=some o/\H b=some (oK b o)/\b ∉ R.ix:=λb o K=>by obtain⟨a,e⟩:=iB K;obtain⟨h,u,x,_⟩:=P.mem b a;have this:s.heap.get? b=some h:=(ok b _ x.1).1;rw[e]at this;cases this;exact⟨e,x.1,x.2.1⟩
def K9 (S:vC g)(N:T.handled=none)(C:qp q J.w J.fr J.mg n T outer s H)(P:c.map (·.1)=g.fv)(L:(c.map (·.2)).Nodup)(K:cS H R c I)(O:j.length=g.ps.length)(r:Vals j Y){tk:Tok}(M:z.Ns s.heap.objs.size λy=>(g.ps.zip Y).reverse.lookup y)(E:∀b o,s.heap.get? b=some o->z.get? b=some o):
   lb (pB J.lx q J.w J.fr J.mg n g c f h T outer s (dk (b_ c s.heap) H)) [] ((I++j).map some) (dk (b_ c s.heap) H) { s with heap:=z,toks:=tk }:=by
 have Vb:(c.map (·.1)).Nodup:=by rw[P];exact(Ux.mp S.nd).1
 have cm:=K.m C.aY
 have ot:∀x base,c.lookup x=some base->base∈c.map (·.2):=λx base e=>HB (f:=(·.2)) (yg e)
 have Vc:∀base∈c.map (·.2),∃o u,s.heap.get? base=some o/\o.data = .cell (some u):=λbase hc=>by obtain⟨o,u,x,d⟩:=K.mem base hc;exact⟨o,u,(C.aY base _ x.1).1,d⟩
 have Vd:I.length=g.fv.length:=by rw[<- K.len,<- P,n7]
 have U:∀b:Addr,b ∉ (pB J.lx q J.w J.fr J.mg n g c f h T outer s (dk (b_ c s.heap) H)).ex:=λb B=>absurd (show b∈([]:List Addr) from B) (by simp);refine⟨⟨C.mod,S.kind,rfl,rfl,mn _,λy B base z A=>?_,λy k=>?_,λy base hf _=>(L3 hf).elim,λ_=>N,agD C.frames,.inr ⟨rfl,rfl⟩,λb B=>absurd B (U b),λb o e=>⟨(C.bs b o e).1,jZ (C.bs b o e).2⟩,C.nQ,λb _ _=>U b,λb B=>absurd B (U b),C.ik,λb hb=>jZ (C.qJ b hb)⟩,
   rfl,C.bare,Un.kept E,⟨_,M,λi y v z A h3=>?_⟩,λy base l=>?_,jZ (C.aY.fresh (mn _)),λy base l=>?_,λp hp=>absurd (show p∈([]:List (Addr×Obj)) from hp) (by simp),(D6 C.aY λb o ι=>(cm b o ι).2.1).kept E,?_⟩
 . exact oq L (yg z) (yg A)
 . have k:g.sc.names.lookup y=some .cell\/g.sc.names.lookup y=some .free:=k
   rcases k with k|k
   . exact absurd rfl (S.IL _ (yg k))
   . have:=S.fr y k
     rw[<- P]at this;obtain⟨⟨Q,base⟩,hm,rfl⟩:=mO.mp this;exact⟨base,fK Vb hm⟩
 . have z:(g.fv++g.ps)[i]? = some y:=z
   have A:((I++j).map some)[i]? = some (some v):=A;rw[nP]at A;have A:(I++j)[i]? = some v:=by
     cases e:(I++j)[i]? with
     |none=>rw[e]at A;cases A|some a=>rw[e]at A;cases A;rfl
   by_cases hi:i<I.length
   . rw[ra hi]at A
     rw[ra (by omega)]at z;obtain⟨Q,base,o,u,e1,x,d,Z⟩:=K.get A;have ey:Q=y:=by
      have:(c.map (·.1))[i]? = some Q:=by rw[nP,e1];rfl
      rw[P,z]at this;cases this;rfl
     subst ey;refine⟨u,Z,.inr ⟨.inr (S.fv Q (p7 z)),base,fK Vb (p7 e1),o,E _ _ (C.aY base _ x.1).1,d⟩⟩
   . rw[wm (by omega)]at A
     rw[wm (by omega),<- Vd]at z;obtain⟨u,hu,Z⟩:=r.get A;refine⟨u,Z,.inl ⟨S.ps y (p7 z),tH (Ux.mp S.nd).2.1 (by rw[<- r.length];exact O) z hu⟩⟩
 . obtain⟨o,u,e,d⟩:=Vc base (ot y base l)
   exact⟨some u,o,E _ _ e,d⟩
 . obtain⟨o,u,e,d⟩:=Vc base (ot y base l)
   exact ju (xp (ot y base l) e)
 . show((I++j).map some).length=(g.fv++g.ps).length
   rw[n7,nN,nN];omega
structure rP (P:te)(K:KW)(base:Heap)(k:Nat)(x:Str)(fn:Fn):Prop where
 run:∀(A:og) (outer:List Env) (s:lO) (H:Hp) (ι:Ix) (a:Addr) (gK vs:List V) (us:List Value) (Q:VK) (ds es:List D) (d:D) (g g':G),dD k A->qp P K.w K.fr K.mg base A outer s H->C6 K H ι x a gK->Vals vs us->aA K H ι g->ao K H ι ds gK->ao K H ι es vs ->
  cY fn (ds++es) g=some (d,g')->fY K H ι d g' Q->HP (model P K.w) A (.call (.ref a) ⟨us,[]⟩) (CR iu outer P K.w H s Q E0) s
noncomputable def bN (nf n:Nat)(f:FE):Fn:=λds g=>if ds.length=nf+n then f (ds.map some) g else none
def GL (P:∀ds g,u ds g=none):rP q J z i x u:=⟨λA outer s H n a b e p Q ds f d g c _ _ _ _ _ _ _ h _=>by obtain⟨_,_,⟨gx,h⟩,_⟩:=rO h;rw[P]at h;cases h⟩
def ON (S:vC g)(E:J.lx.lm x=some g)(B:∀(cl:List (Str×Addr)) (a:Addr) (cd:Value) (A:og) (outer:List Env) (s:lO) (H:Hp),dD i (A.deeper (aeY g.qual g.sc s.heap.objs.size a cd cl))->DE (pB J.lx q J.w J.fr J.mg z g cl a cd A outer s H) g.bd C):
   rP q J z (i+1) x (bN g.fv.length g.ps.length C):=by
 refine⟨λA outer s H R a Y Z us Q ds es d k g' hr j base rv G0 rd re h p=>?_⟩;obtain⟨l',c,fX,pm,cl,hU,hf,hc,hn,hd2,hv⟩:=base;rw[E]at hU;cases hU;obtain⟨z1,z2,⟨gx,hx⟩,z3,z4,rfl⟩:=rO h;unfold bN at hx;split at hx
 . rename_i U
   have Vd:Y.length=g.fv.length:=by rw[<- hv.len,<- hn,n7]
   have Ve:Z.length=g.ps.length:=by have h1:=rd.length;have h2:=re.length;rw[nN]at U;omega
   have ah:us.length=g.ps.length:=by rw[<- rv.length];exact Ve
   have KX:J.fr.In s.heap:=j.mod.lG.keeps λb o e=>(j.bs b o e).1;have lim:s.heap.NoLimit:=j.mod.nolimit.keeps λb o e=>(j.bs b o e).1;have ho:=(j.aY a _ hf.1).1;have jG:s.heap.CodeRec (.ref c) g.qual:=j.aY c _ hc.1;have cm:=hv.m j.aY;refine PySem.W.kla_callFunE hr.depth ho rfl S.co S.gen rfl jG ?_;rw[S.bind cl pm (.ref c) fX us ah];refine lr (wpAny_newFunctionEnv S.IL (λy hy=>S.ps y.1 (W9 hy).1) (λh1 uj D7=>⟨lim.fresh _ D7,?_⟩) S.kind);show HP _ _ (.expr g.bd (aeY g.qual g.sc s.heap.objs.size a (.ref c) cl)) _ _;have hk:∀b o,s.heap.get? b=some o->h1.get? b=some o:=λb o e=>D7.extBut b o (p8 (nC e)) (nz _ e);have I:lb (pB J.lx q J.w J.fr J.mg z g cl a (.ref c) A outer s (dk (b_ cl s.heap) H)) [] ((Y++Z).map some) (dk (b_ cl s.heap) H) { s with heap:=h1,toks:=s.toks+(g.ps.zip us).length }:=K9 S hr.hd j hn hd2 hv Ve rv uj hk;have rl:ao J (dk (b_ cl s.heap) H) (Ix.none R) (ds++es) (Y++Z):=ao.xo (λb o f=>(cm b o f).2.1) _ z1 (ao.toN _ z2 (rd.append re));have Ge:aA J (dk (b_ cl s.heap) H) (Ix.none R) []:=G0.empty (λb n=>by
    cases f:b_ cl s.heap b with
    |none=>exact .inl (by rw[b9 f];exact n)
    |some o =>
     obtain⟨o',u,x,_⟩:=hv.mem b (iB f).1;exact .inr λP=>(m3.mp P).elim x.2.1 (x.2.2 rfl)) λf hq=>b9 (by
     cases P:b_ cl s.heap f.1 with
     |none=>rfl|some o=>have:=(cm f.1 o P).2.1;rw[(G0.tb f hq).1]at this;cases this)
   have rs:bQ J (dk (b_ cl s.heap) H) (Ix.none R) ((ds++es).map some) ((Y++Z).map some):=by
    refine⟨by rw[n7,n7];exact rl.length,λK dd f=>?_⟩;rw[nP]at f;cases e:(ds++es)[K]? with
    |none=>rw[e]at f;cases f
    |some dd' =>
     rw[e]at f;cases f;obtain⟨v,e1,e2⟩:=rl.get e;exact⟨v,by rw[nP,e1];rfl,e2⟩
   refine PySem.W.kla_codeExpr (ZC ((B cl a (.ref c) A outer s _ (hr.deeper _)).un [] _ _ _ (λv O=>∃ι',Ext (dk (b_ cl s.heap) H) (Ix.none R) O ι'/\Rel J O ι' d v) I ⟨Ix.none R,_,[],d,gx,Ge,rs,hx,λO ι' v e _ r=>⟨ι',e,r⟩⟩) (λu s' hs=>?_) λe s' P=>P.elim);obtain⟨v,O,l,ae,ι',e,r'⟩:=hs;obtain⟨ab,G1,same⟩:=K7 G0 (λb o f=>(cm b o f).2) e;have jb:Un (kP outer) [] (dk (b_ cl s.heap) H) O s.heap s'.heap:=l.base;have ag:=OL jb λb o f=>⟨(cm b o f).1,(cm b o f).2.1⟩
   have back:∀b o,b_ cl s.heap b=some o->s'.heap.get? b=some o/\O b=none:=λb o f=>by
    have n:dk (b_ cl s.heap) H b=none:=ju f;refine⟨?_,jb.free b o (cm b o f).1 n (by simp)⟩;have nf:b ∉ kP outer:=λP=>by have:=j.qJ b P;rw[(cm b o f).2.1]at this;cases this
    exact jb.keep b o (cm b o f).1 n nf (by simp)
   refine⟨v,d5 (b_ cl s.heap) O,l.os,l.bare,ag,D5 l.aY back,ae,p _ R v ab G1 ?_⟩;refine Rel.ext (Ext.kO λb o f=>(back b o f).2) d (Rel.rD e.cQ (λb B=>?_) d z3 r');obtain⟨o,ev,OO⟩:=G0.lst B;exact⟨o,by rw[same b B];exact ev,OO⟩
 . cases hx
noncomputable def mW (sc:Scope):List Str:=((sc.names.filter (·.2 == .free)).map (·.1)).reverse
theorem mX {c:Str->Addr}{f:Str×zT->List (Str×Addr)->Sem (ForInStep (List (Str×Addr)))}:∀(L:List (Str×zT)) (h:List (Str×Addr)),(∀x r,(x,wN)∈L->f (x,.free) r=pure (.yield ((x,c x)::r))) ->
  (∀x k r,(k == wN)=false->f (x,k) r=pure (.yield r))->forIn L h f=pure ((((L.filter (·.2 == .free)).map (·.1)).reverse.map λx=>(x,c x))++h)
 | [],h,_,_=>by simp
 | (nm,kd)::L,h,h1,h2=>by
  rw[aeX];cases i:kd == wN with
  |true =>
   have e:kd = .free:=eq_of_beq i;subst e;rw[h1 nm h rj,pure_bind];show forIn L _ f=_;rw[mX L _ (λx r a=>h1 x r (pP _ a)) h2];simp
  |false =>
   rw[h2 nm kd h i,pure_bind];show forIn L _ f=_;rw[mX L _ (λx r a=>h1 x r (pP _ a)) h2];simp[i]
def vh {c:Str->Addr}(h:∀x,(x,wN)∈O.names->env.cells.lookup x=some (c x)):afN O env=pure ((mW O).map λx=>(x,c x)):=by
 unfold afN mW;refine(congrArg (λz=>z >>= _) (mX (c:=c) O.names [] (λx r a=>?_) λx k r b=>?_)).trans ?_
 . simp[cellOf,h x a]
 . simp[b]
 . rw[pure_bind,wz]
structure vD (X:Cx)(p:Pos)(x:Str)(l:d_):Prop where
 lm:X.lx.lm x=some l
 S:vC l
 Vf:l.fv=mW l.sc
 df:l.ar.defaults = []
 kd:l.ar.kw_defaults = []
 tab:∃cc P,X.env.code = .ref cc/\ain X.base cc P/\(P,p,l.qual)∈X.lx.tb
 qual:X.env.qual ++ "<lambda>" = l.qual
 cells:∀y∈l.fv,X.env.scope.names.lookup y=some .cell
 al:∀y,X.fn y=true
inductive zN (X:Cx)(σ:lU):List (Str×Addr)->List V->Prop
 |nil:zN X σ [] []
 |cons {y:Str} {c:Addr} {v:V} {cl:List (Str×Addr)} {vs:List V} {i:Nat} (e:X.env.cells.lookup y=some c) (k:X.env.scope.names.lookup y=some .cell) (hN:X.N[i]? = some y) (hσ:σ[i]? = some (some v)) (t:zN X σ cl vs):zN X σ ((y,c)::cl) (v::vs)
inductive GN (X:Cx)(H:Hp)(ι:Ix)(σ:lU):D->V->Prop
 |val {d:D} {v:V} (r:Rel X.kw H ι d v):GN X H ι σ d v
 |lam {x:Str} {ds:List D} {l:d_} {a c:Addr} {fX pm:Value} {cl:List (Str×Addr)} {vs:List V} (hl:X.lx.lm x=some l) (hf:Xo H ι a (oK a (aeW "<lambda>" l.qual l.ar l.bd l.sc cl pm c fX))) (hc:Xo H ι c (.iH l.qual)) (hn:cl.map (·.1)=l.fv) (hd:(cl.map (·.2)).Nodup) (hv:zN X σ cl vs) (r:ao X.kw H ι ds vs):GN X H ι σ (.fn x ds) (.ref a)
inductive ou (X:Cx)(H:Hp)(ι:Ix)(σ:lU):List D->List V->Prop
 |nil:ou X H ι σ [] []
 |cons {d:D} {v:V} {ds:List D} {vs:List V} (r:GN X H ι σ d v) (t:ou X H ι σ ds vs):ou X H ι σ (d::ds) (v::vs)
theorem ou.len {X:Cx}{H ι σ}:∀{ds c},ou X H ι σ ds c->ds.length=c.length
 |_,_,.nil=>rfl|_,_,.cons r t=>by simp[t.len]
inductive tQ (X:Cx)(f:FA)(σ:lU)(H:Hp)(Q:List V->Hp->Prop):Prop
 |mk (ι:Ix) (σd:Sg) (g:G) (ds:List D) (g':G) (h0:aA X.kw H ι g) (h1:bQ X.kw H ι σd σ) (h2:f σd g=some (ds,g')) (h3:∀H' ι' vs,Ext H ι H' ι'->aA X.kw H' ι' g'->ou X H' ι' σ ds vs->Q vs H'):tQ X f σ H Q
structure xq (X:Cx)(es:List Expr)(f:FA):Prop where of ::
 un:PA X es (tQ X f)
def K_:xq X [] aj:=.of (PA.imp nW λn H Q h=>by obtain⟨i,b,g,d,a,G0,c,h,p⟩:=h;cases h;exact p H i _ Ext.refl G0 .nil)
def GO (A:DE X e C)(n:xq X B w)(fa:m2 (e::B) X.env=(false,eval e X.env)::m2 B X.env):xq X (e::B) (af C w):=.of (
 PA.imp (lI A.un n.un fa) λJ H Q h=>by obtain⟨O,s,g,d,R,G0,y,h,p⟩:=h;obtain⟨⟨U,E⟩,l,h⟩:=bind_some h;obtain⟨⟨z,I⟩,i,h⟩:=bind_some h;cases h;refine tD.bind G0 y l λY q v b f k o=>?_;refine⟨q,s,E,z,I,f,k,i,λc j u a x r=>?_⟩;exact p c j _ (b.trans a) x (.cons (.val (Rel.ext a _ o)) r))
noncomputable def tI:List Nat->Sg->Option (List D)
 | [],_=>some []
 |i::is,c=>match c[i]? with
  |some (some d)=>(tI is c).map (d :: ·)|_=>none
noncomputable def mY (x:Str)(is:List Nat):FE:=λc g=>(tI is c).map λds=>(.fn x ds,g)
def D8 (N:List Str)(is:List Nat)(c:List Str):Prop:=is.length=c.length /\ ∀(j:Nat) i y,is[j]? = some i->c[j]? = some y->N[i]? = some y
theorem D9 {X:Cx}{H:Hp}{p:Ix}{A:Sg}{C:lU}(B:bQ X.kw H p A C){c:Str->Addr}:∀{is:List Nat} {ys:List Str} {ds:List D},D8 X.N is ys->(∀y∈ys,X.env.cells.lookup y=some (c y))->(∀y∈ys,X.env.scope.names.lookup y=some .cell)->tI is A=some ds ->
  ∃n,zN X C (ys.map λy=>(y,c y)) n/\ao X.kw H p ds n
 | [],[],ds,_,_,_,h=>by cases h;exact⟨[],.nil,by simp[ao]⟩| [],_::_,_,q,_,_,_=>by have:=q.1;simp at this|_::_,[],_,q,_,_,_=>by have:=q.1;simp at this
 |i::is,y::ys,ds,q,E,I,h=>by
  unfold tI at h;split at h
  . rename_i d hd
    obtain⟨x,o,rfl⟩:=pM.mp h;obtain⟨n,k,u⟩:=D9 B (is:=is) (ys:=ys) ⟨by have:=q.1;simpa using this,λj f l a b=>q.2 (j+1) f l (by simpa using a) (by simpa using b)⟩ (λz e=>E z (pP _ e)) (λz e=>I z (pP _ e)) o;obtain⟨v,s,r⟩:=B.2 i d hd;refine⟨v::n,.cons (E y rj) (I y rj) (q.2 0 i y rfl rfl) s k,?_⟩;simp only[ao];exact⟨v,n,rfl,r,u⟩
  . cases h
def OP (L:vD X a x g){ι:Ix}(I:lb X b y H s)(G0:aA X.kw H ι r)(q:∀a8 c Y pm s' Z,lb X b y Z s'->Ext H ι Z ι->aA X.kw Z ι r->Xo Z ι a8 (oK a8 (aeW "<lambda>" g.qual g.ar g.bd g.sc (g.fv.map λJ=>(J,(X.env.cells.lookup J).getD 0)) pm c Y))->Xo Z ι c (.iH g.qual)->Q (.ref a8) s'):
   wpAny (model X.prog X.w) X.A (eval (.Lambda g.ar g.bd g.sc a) X.env) Q X.xe s:=by
 obtain⟨cc,P,IM,ag,OQ⟩:=L.tab;obtain⟨U,aH⟩:=G0.tb _ OQ;have U:H P=some (.cI a g.qual):=U;have iL:afN g.sc X.env=pure (g.fv.map λJ=>(J,(X.env.cells.lookup J).getD 0)):=by
   rw[L.Vf];refine vh (c:=λJ=>(X.env.cells.lookup J).getD 0) λJ hy=>?_;have:J∈g.fv:=by rw[L.Vf];unfold mW;rw[aeA];exact mO.mpr ⟨(J,.free),xX.mpr ⟨hy,rfl⟩,rfl⟩
   obtain⟨c,e⟩:=I.ok.has J (.inl (L.cells J this));rw[e];rfl
 obtain⟨ps,eP,ht,Sz⟩:=I.aY P _ U;have hg:s.heap.Ns tc X.mg:=I.mod.glob.keeps I.bk;have C:ain s.heap cc P:=ag.keeps I.bk;obtain⟨bm,E,B⟩:=I.mod.bm;have ah:tc≠P:=λz=>by obtain⟨o,es,ep,e,d,_⟩:=hg;rw[z,eP]at e;cases e;cases d
 have ai:bm≠P:=λz=>by have:=I.bk _ _ B.obj;rw[z,eP]at this;cases this;have z2:zb = .type "module":=B.cls;cases z2
 have ab:bm≠tc:=λz=>by obtain⟨o,es,ep,e,d,_⟩:=hg;have:=I.bk _ _ B.obj;rw[z,e]at this;cases this;rw[B.data]at d;cases d
 have hb:s.heap.BuiltinsAt X.mg P:=⟨bm,E,B.name,B.ne,ab,ai,I.bk _ _ B.obj,B.cls,B.dict,B.data⟩
 refine PySem.W.kla_eval (by rw[defaultsOf_eq,L.df,L.kd];rfl) ?_;rw[L.qual];rcases Sz with Iw|⟨c,hf,hc⟩
 . refine PySem.W.kla_makeFunction (mg:=X.mg) iL I.ok.glob hg IM C eP ht Iw ah hb λO Y f tk hx OR dw Xy OS=>?_
   have j:H O=none:=I.aY.fresh OR;have OT:s.heap.objs.size<=f.objs.size:=pe OR (RI dw);have h:H f.objs.size=none:=I.aY.fresh OT;have Ds:f.objs.size≠O:=aeR dw;have ay:O≠P:=λz=>by rw[z,U]at j;cases j
   have aw:f.objs.size≠P:=λz=>by rw[z,U]at h;cases h
   have e1:Ext H ι (upd H O (.iH g.qual)) ι:=Ext.lay j;have BE:upd H O (.iH g.qual) f.objs.size=none:=by rw[aG Ds];exact h
   have e2:=λo=>Ext.lay (ι:=ι) (o:=o) BE;have G1:aA X.kw (upd H O (.iH g.qual)) ι r:=G0.lay j;have rQ:∀(o:Obj) l E,l≠P->s.heap.get? l=some E->(f.push o).get? l=some E:=λo l E n e=>nz _ (hx l E n e);have R:∀o:Obj,o.isFreed=false->(f.push o).get? f.objs.size=some o:=λo z=>pR _ z;refine q _ O Y ((X.mg "__name__").getD .none) _ (upd (upd H O (.iH g.qual)) f.objs.size (oK f.objs.size _)) (I.un (t':=tk) ⟨λl E e n _ _=>rQ _ l E (λz=>by rw[z,U]at n;cases n) e,λl E e n _ _=>⟨E.slots,rQ _ l E (λz=>by rw[z,U]at n;cases n) e⟩,λl E e n _=>?_,λl E e _=>?_,λl xs e=>?_,λl E u e=>?_,λl u _ e=>?_⟩ λl u e=>?_) (e1.trans (e2 _)) (G1.lay BE) ⟨aT,G1.fresh BE,λ_=>G1.iw BE⟩ ⟨by rw[aG (qP Ds)];exact aT,G0.fresh j,λz=>(by cases z)⟩
   . have l1:=nC e
     rw[aG (p8 (uf l1 OT)),aG (p8 (uf l1 OR))];exact n
   . by_cases z:l=P
     . rw[z];exact⟨_,nz _ OS⟩
     . exact⟨E,rQ _ l E z e⟩
   . rw[aG (aN e h),aG (aN e j)];exact e
   . rw[aG (aN e h),aG (aN e j)];exact e
   . rw[aG (aN e h),aG (aN e j)];exact e
   . have lift:∀l u,H l=some u->upd (upd H O (.iH g.qual)) f.objs.size (oK f.objs.size (aeW "<lambda>" g.qual g.ar g.bd g.sc (g.fv.map λJ=>(J,(X.env.cells.lookup J).getD 0)) ((X.mg "__name__").getD .none) O Y)) l=some u:=λl u e=>by
       rw[aG (aN e h),aG (aN e j)];exact e
     by_cases za:l=f.objs.size
     . subst za
       rw[aT]at e;cases e;exact⟨R _ rfl,⟨_,R _ rfl⟩,λh1 h2 a k=>k _ a⟩
     . rw[aG za]at e
       by_cases zc:l=O
       . subst zc
         rw[aT]at e;cases e;exact Xy.push _
       . rw[aG zc]at e
         by_cases zp:l=P
         . subst zp
           rw[U]at e;cases e;refine⟨_,nz _ OS,?_,.inr ⟨O,?_,?_⟩⟩
           . rw[agX];exact TriplesOk_snoc _ _ _ _ ht
           . rw[agX];exact codeAmong_snoc _ ht Iw
           . rw[aG (qP Ds)];exact aT
         . refine(I.aY l u e).dA (λd v hd p=>rQ _ d v ?_ p) (λd p=>lift d _ p) (λd xs p=>lift d _ p) λd r' p=>lift d _ p
           rcases hd with rfl|hd
           . exact zp
           . intro z;rw[z,U]at hd;cases hd
 . refine PySem.W.kla_makeFunctionHit (mg:=X.mg) iL I.ok.glob hg IM C eP ht hf hb λY f tk hk jH=>?_
   have h:H f.objs.size=none:=I.aY.fresh jH;have kk:∀(o:Obj) l E,s.heap.get? l=some E->(f.push o).get? l=some E:=λo l E e=>nz _ (hk l E e);have R:∀o:Obj,o.isFreed=false->(f.push o).get? f.objs.size=some o:=λo z=>pR _ z;have j:c ∉ ι.ix:=λz=>by
     obtain⟨o,ev,_⟩:=id (G0.lst z);rw[hc]at ev;cases ev;obtain⟨i,hi,e⟩:=Qe.mp z;have ae:i<r.length:=by rw[<- G0.len];exact hi
     obtain⟨l,o,vs,hb,h1,ov,_⟩:=G0.at_ i _ (mA ae);rw[mA hi,e]at hb;cases hb;rw[hc]at h1;cases h1;generalize ι.kd i=kk at ov;cases ov
   have e2:=λo=>Ext.lay (ι:=ι) (o:=o) h;refine q _ c Y _ _ (upd H f.objs.size (oK f.objs.size _)) (I.laid (t':=tk) (kk _) jH ⟨R _ rfl,⟨_,R _ rfl⟩,λh1 h2 a k=>k _ a⟩) (e2 _) (G0.lay h) ⟨aT,G0.fresh h,λ_=>G0.iw h⟩ ⟨by rw[aG (aN hc h)];exact hc,j,λz=>(by cases z)⟩
theorem baA {k o:Type}{f:k->o}:∀{l:List k},(∀x∈l,∀y∈l,f x=f y->x=y)->l.Nodup->(l.map f).Nodup
 | [],_,_=>RT|x::l,h,nd=>by rw[wk,Dx];rw[Dx]at nd;refine⟨λz=>?_,baA (λa j b i=>h a (pP _ j) b (pP _ i)) nd.2⟩;obtain⟨y,c,e⟩:=mO.mp z;have:=h y (pP _ c) x rj e;rw[this]at c;exact nd.1 c
def La {is:List Nat}(L:vD X a x g)(J:D8 X.N is g.fv)(A:xq X B w):xq X (.Lambda g.ar g.bd g.sc a::B) (af (mY x is) w):=.of (by
 intro pos O s R H Q I h;obtain⟨U,n,fr,d,g',G0,E,h,q⟩:=h;obtain⟨⟨d1,g1⟩,f,h⟩:=bind_some h;obtain⟨⟨Y,Z⟩,h2,h⟩:=bind_some h;cases h;unfold mY at f;obtain⟨ds,hc,f⟩:=pM.mp f;cases f;have u:∀y∈g.fv,X.env.cells.lookup y=some ((X.env.cells.lookup y).getD 0):=λy r=>by obtain⟨c,e⟩:=I.ok.has y (.inl (L.cells y r));rw[e];rfl
 obtain⟨vc,k,rc⟩:=D9 E J u L.cells hc;show wpAny _ _ (spliced ((false,eval (.Lambda g.ar g.bd g.sc a) X.env)::tT pos (m2 B X.env))) _ _ s;refine afg (OP L I G0 λp c fX pm s1 H1 I1 o G1 xf xc=>?_);refine bf (A.un pos O s1 R H1 (λj b=>Q (.ref p::j) b) I1 ⟨U,n,fr,Y,Z,G1,E.ext o,h2,λb C j i G2 rq=>?_⟩) λus s2 ⟨j,b,I2,r2,q2⟩=>⟨.ref p::j,b,I2,.cons rfl r2,q2⟩
 refine q b C _ (o.trans i) G2 (.cons (.lam L.lm (xf.ext i) (xc.ext i) ?_ ?_ k (ao.ext (o.trans i) _ rc)) rq)
 . rw[u6];exact List.map_id _
 . rw[u6]
   refine baA (λy r z hz e=>?_) (Ux.mp L.S.nd).1;have e:(X.env.cells.lookup y).getD 0=(X.env.cells.lookup z).getD 0:=e;have v:=u y r;rw[e]at v;exact I.ok.inj y z _ v (u z hz))
noncomputable def et (X:Cx):List (Str×Addr):=(X.env.cells.map (·.1)).filterMap λy=>(X.env.cells.lookup y).map λc=>(y,c)
def oy (h:f∈(et X).map (·.2)):∃y,X.env.cells.lookup y=some f:=by obtain⟨⟨y,c⟩,hm,rfl⟩:=mO.mp h;obtain⟨z,_,e⟩:=Ql.mp hm;obtain⟨i,b,a⟩:=pM.mp e;cases a;exact⟨_,b⟩
def D_ (e:X.env.cells.lookup x=some d):d∈(et X).map (·.2):=
 mO.mpr ⟨(x,d),Ql.mpr ⟨x,HB (f:=(·.1)) (yg e),by rw[e];rfl⟩,rfl⟩
def BF (I:lb X b y H s):∀h o,b_ (et X) s.heap h=some o->s.heap.get? h=some o/\H h=none:=λh o q=>by obtain⟨a,e⟩:=iB q;obtain⟨i,c⟩:=oy a;exact⟨e,I.gM i h c⟩
section
variable {σ:lU}
theorem uK (I:lb X b σ H s)(G0:aA X.kw H R r):∀{cl:List (Str×Addr)} {i:List V},zN X σ cl i->cS (d5 (b_ (et X) s.heap) H) R cl i
 |_,_,.nil=>.nil
 |_,_,.cons (y:=y) (c:=c) (v:=v) e k hN hσ t=>by
  obtain⟨mm,_,f⟩:=I.loc;obtain⟨u,p,h⟩:=f _ y v hN hσ (.inr (.inl k));rcases h with⟨a,_⟩|⟨_,c',e',o,ho,hd⟩
  . have a:X.env.scope.names.lookup y=some .local:=a
    rw[k]at a;cases a
  . rw[e]at e';cases e'
    have n:=I.gM y c e;exact .cons ⟨jt (xp (D_ e) ho),G0.fresh n,λ_=>G0.iw n⟩ hd p (uK I G0 t)
end
theorem xt (I:lb X b y H s)(G0:aA X.kw H R r):∀{ds:List D} {h:List V},ou X H R y ds h->ao X.kw (d5 (b_ (et X) s.heap) H) R ds h
 |_,_,.nil=>by simp[ao]
 |_,_,.cons c t=>by
  have e:Ext H R (d5 (b_ (et X) s.heap) H) R:=Ext.kO λi o q=>(BF I i o q).2;simp only[ao];refine⟨_,_,rfl,?_,xt I G0 t⟩;cases c with
  |val c=>exact Rel.ext e _ c
  |lam n hf p u hd v c =>
   simp only[Rel];exact⟨_,_,rfl,.inr ⟨_,_,_,_,_,n,hf.ext e,p.ext e,u,hd,uK I G0 v⟩,ao.ext e _ c⟩
def Lb (I:lb X b y H s)(i:∀p,X.fn p=true):qp X.prog X.w X.K X.mg X.base X.A X.stack s (d5 (b_ (et X) s.heap) H):=by
 have a:=I.FN;have u:∀n o,b_ (et X) s.heap n=some o->X.s₀.heap.objs.size<=n:=λn o q=>by obtain⟨p,f⟩:=oy (iB q).1;exact I.ok.yO p n (i p) f
 refine⟨a.frames,a.mod,λn o e=>⟨(a.bs n o e).1,?_⟩,a.nQ,a.ik,λn c=>?_,D5 a.aY (BF I),a.bare⟩
 . rw[cF ?_]
   . exact(a.bs n o e).2
   . cases z:b_ (et X) s.heap n with
     |none=>rfl|some r=>exact absurd (uf (nC e) (pe I.ok.nQ (u n r z))) (B5 _)
 . rw[cF ?_]
   . exact a.qJ n c
   . cases z:b_ (et X) s.heap n with
     |none=>rfl
     |some r =>
      obtain⟨p,f⟩:=oy (iB z).1;rcases nv.mp (I.qK n c)with e|c
      . exact absurd e (I.tZ p n f)
      . obtain⟨_,o,h,_⟩:=I.ok.ik.mem c
        exact absurd (uf (nC h) (u n r z)) (B5 _)
def GP {K:wq}{J:Pos}(F:eh X.prog X.w X.kw X.mg X.base iu i f K Z (kU X.kw o u))(P:dD i X.A)(W:X.mg x=some (.ref f))(M:Oo X.kw (.ref f)=true)(C:HT X.kw K Z [])(S:∀ds g r,u ds g=some r->ds.length=o)(T:∀y,X.fn y=true)(L:xq X (e::B) w)(U:Gl X x)(Y:(x == ("__debug__":Str))=false)(O:m2 (e::B) X.env=(false,eval e X.env)::m2 B X.env)(N:(tT J (m2 B X.env)).any (·.1)=false):DE X (.Call (.Name x a) (e::B) [] J) (aq (gO u) w):=.of (by
 intro a8 s σ H Q I h;obtain⟨ι,σd,g,d,g',G0,S0,h,q⟩:=h;obtain⟨⟨ds,g1⟩,h1,h⟩:=bind_some h;refine P4 (oV I U W ?_ Y);refine afh (h₀:=X.base) I.ok.mod.lG M (bf (L.un J a8 s σ H (λj R=>∃p,Ext H ι R p/\aA X.kw R p g1/\ou X R p σ ds j) I ⟨ι,σd,g,ds,g1,G0,S0,h1,λR p j e1 c rq=>⟨p,e1,c,rq⟩⟩) λus s1 ⟨j,R,l,r,p,e1,c,rq⟩=>⟨l.nB,?_⟩) O N;obtain⟨z1,⟨gx,hx⟩,z3,z4,rfl⟩:=BD h;have cm:=BF l;have rl:=xt l c rq;have hl:j.length=o:=by rw[<- rq.len];exact S _ _ _ hx
 have Ge:aA X.kw (d5 (b_ (et X) s1.heap) R) (Ix.none p) []:=c.empty (λb nn=>.inl ((Ext.kO (ι:=p) λb fn q=>(cm b fn q).2).there b nn)) λq n=>by rw[(c.tb q n).1];exact(Ext.kO (ι:=p) λb fn q=>(cm b fn q).2).same _ _ (c.tb q n).1 (c.tb q n).2
 have sp:kU X.kw o u j (d5 (b_ (et X) s1.heap) R) (λv E=>∃z,Ext (d5 (b_ (et X) s1.heap) R) (Ix.none p) E z/\Rel X.kw E z d v) E0:=⟨hl,Ix.none p,[],ds,d,gx,Ge,ao.toN _ z1 rl,hx,λE z v e _ r=>⟨z,e,r⟩⟩
 have ab:(us ++ []).length=Z.length:=by rw[wz,<- r.length];exact F.len _ _ _ _ sp
 have H_:=C s1 us l.nB ab;rw[wz]at H_;refine agC (Wg (F.run X.A X.stack s1 (d5 (b_ (et X) s1.heap) R) ⟨us,[]⟩ us j _ E0 P (Lb l T) H_ r sp) λrr s' n=>?_);cases rr with
 |error e=>exact n.elim
 |ok fl =>
  cases fl with
  |next=>exact zi n|brk=>exact zi n|cont=>exact zi n
  |ret k =>
   obtain⟨v,E,os,bare,un,aY,rv,z,e,r'⟩:=n;obtain⟨E1,G2,same,hX⟩:=K8 c (λb fn q=>(cm b fn q).2) e;refine l.after ⟨v,dk (b_ (et X) s1.heap) E,os,bare,OM un cm hX aY,D6 aY hX,rv,?_⟩;refine q _ p v (e1.trans E1) G2 (Rel.xo hX d z4 (Rel.rD e.cQ (λb C=>?_) d z3 r'));obtain⟨fn,ev,OO⟩:=c.lst C;exact⟨fn,by rw[same b C];exact ev,OO⟩)
end
section
open PyProof.Rows
variable {E:Expr->FE}{p:List Value->Prop}{Y:Env}{T:Nat->Nat->Fn}{R:List ac3}{j:Bool}{Q:Nat->wq}{M:List (Addr×Pos×Str)}{J:Nat->Addr}{A:Str->Option Value}{y:List CmpOp}{w:KW}{t:n3}{r:List Addr}{n:Expr->FT}{m:List wq}{l:Xu}{k:Stmt}{h:FG}{d:d_}{c:Expr}
structure G0 where
 T:Nat->Fn
 k:Nat
 fns:List (Str×Nat×Nat)
 k6:List Str
 xu:List (Str×D)
 xw:List (Str×List (Str×D))
 OW:List (Str×Nat)
structure Cs where
 N:List Str
 sc:Scope
 all:Bool
 mt:List Str
 own:List Str
 lam:Option (Pos×Str×d_)
inductive xx (m:G0)(X:Cx)(x:Str)(i n:Nat):Prop
 |mk (f:Addr) (fd:wq) (ps:List Str) (ok:eh X.prog X.w X.K X.mg X.base iu m.k f fd ps (kU X.kw n (m.T i))) (hm:X.mg x=some (.ref f)) (kp:Oo X.K (.ref f)=true) (b:HT X.K fd ps []) (ln:∀ds g r,m.T i ds g=some r->ds.length=n):xx m X x i n
structure Gd (m:G0)(c:Cs)(X:Cx):Prop where
 hN:X.N=c.N
 hs:X.env.scope=c.sc
 nd:c.N.Nodup
 xe:X.xe=λ_ _=>False
 cm:X.calm=true
 rm:dD m.k X.A
 al:c.all=true->∀x,X.fn x=true
 ow:∀x∈c.own,X.fn x=true
 fn:∀x i n,(x,i,n)∈m.fns->xx m X x i n
 bl:∀x∈m.k6,X.mg x=none
 cn:∀x d,(x,d)∈m.xu->∃v u,X.mg x=some u/\lX v u /\ ∀K H ι,Rel K H ι d v
 dc:∀x t,(x,t)∈m.xw->∃a,X.mg x=some (.ref a)/\i_ X.w X.kw a t
 lf:∀x i n,(x,i,n)∈m.fns->X.lx.lm x=none
 ll:∀x i,(x,i)∈m.OW->(∃l,X.lx.lm x=some l)/\rP X.prog X.kw X.base m.k x (m.T i)
 lh:∀p x l,c.lam=some (p,x,l)->vD X p x l
noncomputable def kE:FT:=λ_ _=>none
noncomputable def rR:FA:=λ_ _=>none
noncomputable def cA:FS:=λ_ _=>none
noncomputable def rT:FI:=λ_ _=>none
noncomputable def rV:FG:=λ_ _ _=>none
def tJ:DT X e kE:=.of (λc s i H Q I h=>by obtain⟨_,_,_,_,_,_,_,h,_⟩:=h;cases h)
def tK:DA X B rR:=.of (λ_ c s i H Q I h=>by obtain⟨_,_,_,_,_,_,_,h,_⟩:=h;cases h)
def cf:DS X k cA:=.of (λc s i H Q I h=>by obtain⟨_,_,_,_,_,_,_,_,h,_⟩:=h;cases h)
def tL:DI X K e rT:=.of (λc s i H Q I h=>by obtain⟨_,_,_,_,_,_,_,h,_⟩:=h;cases h)
def pC:DG X e rV:=.of (λc s i H v u Q I r h=>by obtain⟨_,_,_,_,_,_,_,_,_,h,_⟩:=h;cases h)
noncomputable def isStar (e:Expr):Bool:=EC e.ctorIdx 22
noncomputable def isSet (e:Expr):Bool:=EC e.ctorIdx 7
noncomputable def vE (e:Expr):Bool:=EC e.ctorIdx 26
noncomputable def oz (e:Expr):Bool:=EC e.ctorIdx 8||EC e.ctorIdx 9||EC e.ctorIdx 10
noncomputable def SA (e:Expr):Bool:=EC e.ctorIdx 24
noncomputable def rW (e:Expr):Bool:=EC e.ctorIdx 25
noncomputable def zO (e:Expr):Bool:=EC e.ctorIdx 16
noncomputable def mZ:Expr->Bool
 |.UnaryOp .Not _ _=>false|.BoolOp ..=>false|.IfExp ..=>false|.Compare ..=>false|_=>true
noncomputable def SE (e:Expr):Bool:=EC e.ctorIdx 23||EC e.ctorIdx 21||EC e.ctorIdx 19
def bL (h:isStar e=false):m2 (e::B) Y=(false,eval e Y)::m2 B Y:=by cases e<;>first|rfl|cases h
def marks {op:CmpOp}(h:isSet e=false):aev op e=false:=by cases e<;>first|rfl|cases h
def plainT (h:mZ e=true):∀whole,isTrue e Y whole=(do let c <- whole;ags e.pos;Ct [c] (truthy c)):=by
 intro whole;cases e with
 |UnaryOp op a p=>cases op<;>first|rfl|cases h
 |_=>first|rfl|cases h
def zP (h:vE e=false):oW e:=by intro o i;cases e<;>first|rfl|cases h
def baseOk (h:zO e=false):aey e x Y (eval e Y)=eval e Y:=by cases e<;>first|rfl|cases h
def xA {t:Option Expr}(h:oz e=false):Pr e t i Y=pure false:=by cases e<;>first|rfl|cases h
def m7 (h:isSet e=false):∀x,A8 e Y x=pure x:=by intro x;cases e<;>first|rfl|cases h
def h_ (h:B.any isStar=false):(tT a (m2 B Y)).any (·.1)=false:=by
 induction B with
 |nil=>rfl
 |cons e B c =>
  rw[yc,F5]at h;rw[bL h.1]
  show(false||(tT a (m2 B Y)).any (·.1))=false
  rw[c h.2];rfl
def xB (h:B.any isStar=false):(tT a (m2 B Y)).all (λx=>!x.1)=true:=by
 induction B with
 |nil=>rfl
 |cons e B c =>
  rw[yc,F5]at h;rw[bL h.1];show(true&&(tT a (m2 B Y)).all (λx=>!x.1))=true;rw[c h.2];rfl
noncomputable def iC:List Str->Str->Option Nat
 | [],_=>none|y::N,x=>if y == x then some 0 else(iC N x).map (· + 1)
theorem eA:∀{N:List Str} {x:Str} {i:Nat},iC N x=some i->N[i]? = some x
 | [],_,_,h=>by cases h
 |y::N,x,i,h=>by
  unfold iC at h;split at h
  . rename_i e
    cases h;simp[eq_of_beq e]
  . obtain⟨j,a,rfl⟩:=pM.mp h
    simpa using eA a
theorem lookup_mem {c:Type}:∀{l:List (Str×c)} {x:Str} {a:c},l.lookup x=some a->(x,a)∈l
 | [],_,_,h=>by cases h
 | (y,b)::l,x,a,h=>by
  rw[xW]at h;split at h
  . rename_i e
    cases h;rw[eq_of_beq e];exact rj
  . exact pP _ (lookup_mem h)
def nn {a:Type}{x:a}{P:Prop}(h:(none:Option a)=some x):P:=nomatch h
noncomputable def zQ:Expr->Option (Str×Pos)
 |.Name x p=>some (x,p)|_=>none
def rX (h:zQ e=some (x,a)):e = .Name x a:=by
 cases e with
 |Name y a=>cases h;rfl|_=>exact nn h
noncomputable def nV (e:Expr):Option Str:=(zQ e).map (·.1)
def jT (h:nV e=some x):∃p,e = .Name x p:=by obtain⟨⟨y,p⟩,a,rfl⟩:=pM.mp h;exact⟨p,rX a⟩
noncomputable def IP:Expr->Option (Expr×Expr×Pos)
 |.Subscript o i p=>some (o,i,p)|_=>none
def xC (h:IP e=some (K,c,a)):e = .Subscript K c a:=by
 cases e with
 |Subscript=>cases h;rfl|_=>exact nn h
noncomputable def sV (e:Expr):Option (Expr×Expr):=(IP e).map λq=>(q.1,q.2.1)
def BG (h:sV e=some (K,c)):∃p,e = .Subscript K c p:=by obtain⟨⟨f,o,p⟩,a,b⟩:=pM.mp h;cases b;exact⟨p,xC a⟩
noncomputable def tV:Expr->Option (List Expr)
 |.Tuple c _ _=>some c|_=>none
def BH (h:tV e=some B):∃k p,e = .Tuple B k p:=by
 cases e with
 |Tuple a k p=>cases h;exact⟨k,p,rfl⟩|_=>exact nn h
noncomputable def Ea:Expr->Option (Expr×List Expr×Pos)
 |.Call f c h p=>if h.isEmpty then some (f,c,p)else none|_=>none
def rY (h:Ea e=some (K,B,a)):e = .Call K B [] a:=by
 cases e with
 |Call i n c q=>cases c with
  |nil=>cases h;rfl|cons=>exact nn h
 |_=>exact nn h
noncomputable def cV (e:Expr):Option (Str×List Expr):=(Ea e).bind λq=>(nV q.1).map λx=>(x,q.2.1)
def IQ (h:cV e=some (x,B)):∃p q,e = .Call (.Name x p) B [] q:=by obtain⟨⟨f,c,q⟩,b,h⟩:=bind_some h;obtain⟨y,a,h⟩:=pM.mp h;cases h;obtain⟨p,a⟩:=jT a;exact⟨p,q,by rw[rY b];exact congrArg (λz=>Expr.Call z c [] q) a⟩
noncomputable def baY {c:Type}:List c->Option (c×c)
 | [a,b]=>some (a,b)|_=>none
def Eb {c:Type}{l:List c}{a b:c}(h:baY l=some (a,b)):l = [a,b]:=by
 cases l with
 |nil=>cases h
 |cons x l=>cases l with
  |nil=>cases h
  |cons y l=>cases l with
   |nil=>cases h;rfl|cons=>cases h
noncomputable def gV:List ac3->Option (Expr×Expr×List Expr)
 | [g]=>if g.is_async=0 then some (g.target,g.iter,g.ifs)else none|_=>none
def IS (h:gV R=some (e,c,B)):R = [⟨e,c,B,0⟩]:=by
 cases R with
 |nil=>cases h
 |cons g R=>cases R with
  |cons=>cases h
  |nil =>
   obtain⟨a,b,d,k⟩:=g;change (if k=0 then some (a,b,d)else none)=some _ at h;by_cases i:k=0
   . subst i;cases h;rfl
   . rw[if_neg i]at h;cases h
noncomputable def iW (x:Str):Bool:=x == ("__debug__":Str)||x == ("__classdict__":Str)||x == ("__name__":Str)
def oA (h:iW x=false):(x == ("__debug__":Str))=false/\(x == ("__classdict__":Str))=false/\x ≠ "__name__":=by simp only[iW,F5]at h;exact⟨h.1.1,h.1.2,λe=>by have:=h.2;rw[e]at this;simp at this⟩
structure m8 where
 nm:Str
 fn:Fn
 ok:∀{X:Cx} {k:Nat},dD k X.A->X.calm=true->(∃id,dX X (.builtin id) (kS X.kw fn)/\Qk nm=some (.builtin id))\/(∃T,dX X (.type T) (kS X.kw fn)/\Qk nm=some (.type T))
structure BI where
 nm:Str
 iM:D->Bool
 m:D->List D->G->Option (D×G)
 ok:∀{X:Cx} {k:Nat},dD k X.A->∃T id,MR X T nm id iM m
noncomputable def aE (E:Expr->FE):List Expr->FA
 | []=>aj|e::c=>if isStar e then rR else af (E e) (aE E c)
structure vF where
 nm:Str
 tup:Bool
 f:(Expr->FE)->List Expr->FI
 ok:∀{X:Cx} {k:Nat} {E:Expr->FE} {tg:Expr} {as:List Expr} {p pos:Pos},dD k X.A->X.calm=true->X.mg nm=none->Gl X nm->(∀e,DE X e (E e))->as.any isStar=false->(tup=true->rW tg=true)->DI X tg (.Call (.Name nm p) as [] pos) (f E as)
structure rZ where
 e:G0->Cs->(Expr->FE)->Bool->Expr->Option FE
 Ec:∀{m:G0} {c:Cs} {X:Cx} {E:Expr->FE},Gd m c X->(∀e,DE X e (E e))->∀{rf x f},e m c E rf x=some f->DE X x f
 t:G0->Cs->(Expr->FE)->Expr->Option FT
 tok:∀{m:G0} {c:Cs} {X:Cx} {E:Expr->FE},Gd m c X->(∀e,DE X e (E e))->∀{x f},t m c E x=some f->DT X x f
structure Pk where
 bl:List m8
 br:List m8
 mt:List BI
 it:List vF
 xr:List rZ
noncomputable def Ed:Const->FE
 |.int i=>fC (.int i)|.str x=>fC (.str x)|.bool b=>fC (.bl b)|.none=>fC .ay|_=>cj
noncomputable def vH:Option zT->Bool
 |some .local=>true|some .cell=>true|some .free=>true|_=>false
noncomputable def eName (m:G0)(c:Cs)(x:Str):FE :=
 if iW x then cj else
 match vH (c.sc.names.lookup x),iC c.N x with
 |true,some i=>aa i|true,none=>cj|false,_=>if c.sc.names.lookup x=some .globalImplicit then(match m.xu.lookup x with|some d=>fC d|none=>match m.fns.lookup x with|some _=>fC (.fn x [])|none=>cj)else cj
noncomputable def OY (op:Xu)(c e:Bool)(b a:FE):FE:=match op with
 |.Add=>ak aJ b a|.Sub=>ak (bt bV (· - ·)) b a|.Mult=>ak (if e then(if c then vB else pv)else bj) b a|.FloorDiv=>ak (bt dh (· / ·)) b a|.Mod=>ak (bt cD (· % ·)) b a|.Pow=>ak (bt jS (λi j=>i ^ j.toNat)) b a|_=>cj
noncomputable def Vh (op:UnaryOp)(a:FE):FE:=match op with
 |.USub=>n9 kq a|_=>cj
noncomputable def bE (E:Expr->FE)(g:Bool)(op:BoolOp):List Expr->FE
 | []=>cj| [a]=>E a
 |a::b::r=>match op with
  |.And=>mN (E a) (bE E g .And (b::r))|.Or=>if g then GA (E a) (bE E g .Or (b::r))else F_ (E a) (bE E g .Or (b::r))
noncomputable def Vi:CmpOp->D->D->G->Option (D×G)
 |.Lt=>oLt|.LtE=>oLe|.Gt=>Dy|.GtE=>Dz|.Eq=>oEq|.NotEq=>di|.Is=>kY|.IsNot=>vx|.In=>mU|.NotIn=>tw
noncomputable def tM (E:Expr->FE)(l:Expr):List CmpOp->List Expr->FE
 | [op],[b]=>if isSet b then cj else ak (Vi op) (E l) (E b)|_,_=>cj
noncomputable def pE (E:Expr->FE):Option Expr->FO
 |none=>eO|some e=>bq (E e)
noncomputable def GR (E:Expr->FE)(v:Expr):Expr->FE
 |.Slice c hi none _=>dj (E v) (pE E c) (pE E hi)|.Slice c hi (some st) _=>w9 (E v) (pE E c) (pE E hi) (bq (E st))|s=>ak au (E v) (E s)
noncomputable def BJ (m:G0)(P:Pk)(c:Cs)(e:Bool)(E:Expr->FE)(f:Expr)(a:List Expr)(b:Pos):FE:=match f with
 |.Name x _=>if iW x||a.any isStar then cj else if c.sc.names.lookup x=some .globalImplicit then
   (match m.fns.lookup x with
   |some (i,_)=>aq (m.T i) (aE E a)
   |none=>if a.isEmpty || !(m.k6.elem x)then cj else match(if e then P.br else P.bl).find? (λr=>r.nm == x)with
    |some r=>aq r.fn (aE E a)|none=>cj)
  else cj
 |.Attribute o x h=>if zO o||a.any isStar || !(h.endLine == b.line) || !(decide (a.length<29))then cj else match P.mt.find? (λr=>r.nm == x)with
  |some r=>gI r.iM r.m (E o) (aE E a)|none=>cj
 |_=>cj
def Gd.hu {m:G0}{c:Cs}(g:Gd m c X):X.A.units+64<cLine:=g.rm.units
def Gd.gl {m:G0}{c:Cs}(g:Gd m c X)(h:c.sc.names.lookup x=some .globalImplicit):Gl X x:=by show X.env.scope.names.lookup x=_;rw[g.hs];exact h
theorem gA (a:∀e,DE X e (E e)):∀c:List Expr,DA X c (aE E c)
 | []=>C_
 |e::c=>by
  unfold aE;split
  . exact tK
  . rename_i h
    exact sR (a e) (gA a c) (bL (by simpa using h))
def Ee {v:Const}:DE X (.Constant v i a) (Ed v):=by
 cases v with
 |int j=>exact Nn|str x=>exact Np|bool b=>exact RV|none=>exact Nq|_=>exact bX
def GS {m:G0}{c:Cs}(g:Gd m c X):DE X (.Name x a) (eName m c x):=by
 unfold eName;split
 . exact bX
 rename_i l;obtain⟨b,z,_⟩:=oA (by simpa using l);split
 . rename_i i p r
   refine Nr i (by rw[g.hN];exact eA r) ?_ b z;rw[g.hs];unfold vH at p;split at p
   . rename_i e;exact .inl e
   . rename_i e;exact .inr (.inl e)
   . rename_i e;exact .inr (.inr e)
   . cases p
 . exact bX
 . split
   . rename_i j
     split
     . rename_i d hd
       obtain⟨v,u,q,o,s⟩:=g.cn x d (lookup_mem hd);exact Ka (g.gl j) q o s b
     . split
       . rename_i y k
         obtain⟨i,n⟩:=y;obtain⟨f,fd,ps,_,hm,_⟩:=g.fn x i n (lookup_mem k);exact .of (PE.imp (sL (v:=.ref f) (g.gl j) hm rfl b) λE H Q h=>by obtain⟨B,C,I,d,J,G0,O,h,a⟩:=h;cases h;exact a H B _ Ext.refl G0 (by simp only[Rel];exact⟨f,[],rfl,.inl ⟨rfl,g.lf x i n (lookup_mem k),hm⟩,by simp[ao]⟩))
       . exact bX
   . exact bX
def Lc {k:Bool}{h:FE}(op:DE X e C)(f:DE X K h):DE X (.BinOp e l K a) (OY l j k C h):=by
 cases l<;>first|exact bX|skip
 . exact kT Oa op f
 . exact kT NV op f
 . cases k
   . exact kT wR op f
   . cases j
     . exact kT KQ op f
     . exact kT K6 op f
 . exact kT NW op f
 . exact kT NX op f
 . exact kT Kq op f
def OZ {op:UnaryOp}(p:DE X e C):DE X (.UnaryOp op e a) (Vh op C):=by
 cases op with
 |USub=>exact RW NY p|_=>exact bX
theorem IT (f:∀e,DE X e (E e)){gf:Bool}{op:BoolOp}{p:Pos}:∀h:List Expr,DE X (.BoolOp op h p) (bE E gf op h)
 | []=>bX| [a]=>NB (f a)
 |a::b::r=>by
  have c:=IT f (gf:=gf) (op:=op) (p:=p) (b::r);cases op<;>cases gf
  . exact C9 (f a) c
  . exact C9 (f a) c
  . exact RY (f a) c
  . exact Of (f a) c
def Ef (hu:X.A.units+64<cLine):∀op:CmpOp,bS X (tA op) (dW X.kw (Vi op))
 |.Lt=>R7|.LtE=>R8|.Gt=>R9|.GtE=>R_|.Eq=>Sa hu|.NotEq=>Ot hu|.Is=>Sf|.IsNot=>KD|.In=>OA hu|.NotIn=>DY hu
def Ld (hu:X.A.units+64<cLine)(l:∀c,DE X c (E c)):DE X (.Compare e y B a) (tM E e y B):=by
 unfold tM;split
 . split
   . exact bX
   . rename_i h
     exact Nu (Ef hu _) (l _) (l _) (marks (by simpa using h))
 . exact bX
def Le (hu:X.A.units+64<cLine)(l:∀c,DE X c (E c)):DT X (.Compare e y B a) (aD (tM E e y B)):=by
 have none_:DT X (.Compare e y B a) (aD cj):=.of (λi s n H Q I h=>by obtain⟨_,_,_,_,_,_,_,h,_⟩:=h;cases h);unfold tM;split
 . split
   . exact none_
   . rename_i h
     exact Nw (Ef hu _) (l _) (l _) (marks (by simpa using h))
 . exact none_
def vI (a:∀e,DE X e (E e)):∀o:Option Expr,DO X o (pE E o)
 |none=>Kw|some e=>zr (a e)
def Lf (hu:X.A.units+64<cLine)(f:∀s,DE X s (E s)):DE X (.Subscript e K a) (GR E e K):=by
 unfold GR;split
 . exact DP (f _) (vI f _) (vI f _)
 . exact DM (f _) (vI f _) (vI f _) (zr (f _))
 . rename_i v b
   refine Oz hu (f _) (f _) (zP ?_);cases K with
   |Slice c hi st q =>
    cases st with
    |none=>exact absurd rfl (v _ _ _)|some s=>exact absurd rfl (b _ _ _ _)
   |_=>rfl
def GV {m:G0}{c:Cs}(P:Pk)(g:Gd m c X)(A:∀f,DE X f (E f)):DE X (.Call e B [] a) (BJ m P c j E e B a):=by
 unfold BJ;split
 . rename_i x p
   split
   . exact bX
   rename_i h;simp only[wt,not_or,Rj]at h;obtain⟨s,U,y⟩:=oA h.1;have C:=h.2;split
   . rename_i q
     split
     . rename_i i n hf
       obtain⟨fa,fd,ps,ok,hm,kp,b,ln⟩:=g.fn x i n (lookup_mem hf);cases B with
       |nil=>exact Gk ok g.rm hm kp b ln (g.gl q) s
       |cons f I =>
         rw[yc,F5]at C;exact Kl ok g.rm hm kp b ln (gA A _) (g.gl q) s (bL C.1) (h_ C.2)
     . split
       . exact bX
       rename_i v;simp only[wt,not_or,Rj,afp,wQ]at v;split
       . rename_i r u
         have l:r.nm=x:=by have:=age u;exact eq_of_beq this
         have J:x∈m.k6:=Q2.mp (by simpa using v.2);cases B with
         |nil=>simp at v
         |cons f I =>
          rw[yc,F5]at C;rcases r.ok g.rm g.cm with⟨id,k,H⟩|⟨T,k,H⟩
          . rw[l]at H
            exact Gm k (g.bl x J) H (gA A _) (g.gl q) y s (bL C.1) (h_ C.2)
          . rw[l]at H
            exact Dj k (g.bl x J) H (gA A _) (g.gl q) y s (bL C.1) (h_ C.2)
       . exact bX
   . exact bX
 . rename_i o x Y
   split
   . exact bX
   rename_i h;simp only[wt,not_or,Rj,wQ,afp,decide_eq_false_iff_not,Classical.not_not]at h;obtain⟨⟨⟨k,H⟩,z⟩,O⟩:=h;split
   . rename_i r u
     have l:r.nm=x:=by have:=age u;exact eq_of_beq this
     obtain⟨T,id,R⟩:=r.ok g.rm;rw[l]at R;cases B with
     |nil=>exact KY R (A o) (baseOk k) (by simpa using z)
     |cons f I =>
       rw[yc,F5]at H;refine OC R (A o) (gA A _) (baseOk k) ?_ (by simpa using z) (bL H.1) (h_ H.2);rw[xB (by rw[yc,H.1,H.2];rfl)];have Q:decide ((f::I).length+([]:List Um).length+(if([]:List Um).isEmpty then 0 else 1)<30)=true:=by simp at O ⊢;omega
       rw[Q];rfl
   . exact bX
 . exact bX
noncomputable def xD (c:Cs)(x:Str):Option Nat:=match c.sc.names.lookup x with
 |some .local=>iC c.N x|some .cell=>if c.all||c.own.elem x then iC c.N x else none|_=>none
noncomputable def GW (f:Expr->FG):List Expr->pX
 | []=>gu|e::c=>bZ (f e) (GW f c)
noncomputable def IU (c:Cs)(E:Expr->FE)(e:Expr):FG:=match nV e with
 |some x=>(match xD c x with|some i=>gN i|none=>rV)
 |none=>match sV e with
  |some q=>if vE q.2 then rV else fF (E q.1) (E q.2)|none=>rV
noncomputable def oB (c:Cs)(E:Expr->FE):Nat->Expr->FG
 | 0,e=>IU c E e
 |n+1,e=>match tV e with
  |some h=>if h.any isStar then rV else gT h.length (GW (oB c E n) h)|none=>IU c E e
def tN {m:G0}{c:Cs}(g:Gd m c X)(h:xD c x=some i):X.N[i]? = some x/\El X.env.scope x/\(X.fn x=true\/X.env.scope.names.lookup x=some .local):=by
 unfold xD at h;rw[g.hN,g.hs];split at h
 . rename_i e;exact⟨eA h,.inl e,.inr e⟩
 . rename_i e
   split at h
   . rename_i a
     rw[wt]at a;exact⟨eA h,.inr e,.inl (a.elim (λa=>g.al a x) λa=>g.ow x (Q2.mp a))⟩
   . cases h
 . cases h
def Gd.r6 {m:G0}{c:Cs}(g:Gd m c X):X.N.Nodup:=by rw[g.hN];exact g.nd
def qC (h:isStar e=false):yh (e::B) Y=(false,Dd e Y)::yh B Y:=by cases e<;>first|rfl|cases h
def zR (h:B.any isStar=false):(yh B Y).length=B.length/\(yh B Y).findIdx? (·.1)=none:=by
 induction B with
 |nil=>exact⟨rfl,rfl⟩
 |cons e B c =>
  rw[yc,F5]at h;obtain⟨a,b⟩:=c h.2;rw[qC h.1];exact⟨by simp[a],by rw[List.findIdx?_cons,b];rfl⟩
def Lg (h:vE K=false):∀v,Dd (.Subscript e K a) Y v=(do
  let c <- Ct [v] (eval e Y);let iv <- Ct [v,c] (eval K Y)
  ags a
  Ct [v,c,iv] (ahi c iv v)
  release [v,c,iv] []):=by
 intro v;cases K<;>first|rfl|cases h
def Eg {m:G0}{c:Cs}(g:Gd m c X)(k:∀e,DE X e (E e))(e:Expr):DG X e (IU c E e):=by
 unfold IU;split
 . rename_i x j
   obtain⟨p,rfl⟩:=jT j;split
   . rename_i i h;obtain⟨a,b,d⟩:=tN g h;exact Kh g.r6 a b d
   . exact pC
 . split
   . rename_i q f
     obtain⟨p,rfl⟩:=BG f;split
     . exact pC
     . rename_i h;exact KU g.hu (k _) (k _) (Lg (by simpa using h))
   . exact pC
def oC {m:G0}{c:Cs}(g:Gd m c X)(j:∀e,DE X e (E e)):∀(n:Nat) (e:Expr),DG X e (oB c E n e):=by
 intro n;induction n with
 |zero=>exact Eg g j
 |succ n p =>
  intro e;show DG X e (match tV e with|some a=>_|none=>_);split
  . rename_i a q
    obtain⟨u,i,rfl⟩:=BH q;split
    . exact pC
    . rename_i b
      have b:a.any isStar=false:=by simpa using b
      have f:∀a:List Expr,a.any isStar=false->Df X a (GW (oB c E n) a):=λa=>by
       induction a with
       |nil=>exact λ_=>Ki
       |cons e a r =>
        intro h;rw[yc,F5]at h;exact Gh (p e) (r h.2) (by rw[qC h.1];rfl)
      have f:=f a b;exact NK g.cm f (zR b).1 (zR b).2
  . exact Eg g j e
noncomputable def Eh (m:G0)(P:Pk)(c:Cs)(E:Expr->FE)(tg:Expr)(a:Expr):FI:=match cV a with
 |some (x,h)=>if c.sc.names.lookup x=some .globalImplicit then(match P.it.find? (λr=>r.nm == x)with
  |some r=>if m.k6.elem x && !(h.any isStar)&&(!r.tup||rW tg)then r.f E h else rT|none=>cO (E a))else cO (E a)
 |none=>cO (E a)
def oD {m:G0}{c:Cs}(P:Pk)(g:Gd m c X)(q:∀tg,DE X tg (E tg)):DI X e K (Eh m P c E e K):=by
 unfold Eh;split
 . rename_i x n l
   obtain⟨p,pos,rfl⟩:=IQ l;split
   . rename_i o
     split
     . rename_i r j
       have f:r.nm=x:=by have:=age j;exact eq_of_beq this
       split
       . rename_i h
         simp only[l8,wt,wQ,beq_iff_eq]at h;obtain⟨⟨b,k⟩,a⟩:=h;have i:x∈m.k6:=Q2.mp b;subst f;exact r.ok g.rm g.cm (g.bl _ i) (g.gl o) q k (λz=>by rcases a with a|a;(rw[z]at a;cases a);exact a)
       . exact tL
     . exact wV (q _)
   . exact wV (q _)
 . exact wV (q _)
noncomputable def O0 (sc:Scope)(S:Scope):Scope:={ sc with names:=sc.names.map λ(n,k)=>if(k == .free&&S.kind == .function&&S.names.lookup n == some .cell)then(n,.cell)else(n,k) }
noncomputable def uL:List Str->Bool
 | []=>true|x::r=>!(r.elem x)&&uL r
theorem oE:∀{l:List Str},uL l=true->l.Nodup
 | [],_=>RT|x::r,h=>by simp only[uL,l8,wQ]at h;exact Dx.mpr (And.intro (λz=>(by rw[Q2.mpr z]at h;exact absurd h.1 (by simp))) (oE h.2))
noncomputable def lD (sc:Scope):List Str:=(sc.names.filter λy=>y.2 == .local||y.2 == .cell).map (·.1)
noncomputable def SF (sc:Scope):List Str:=(sc.names.filter λy=>y.2 == .cell).map (·.1)
noncomputable def jf (sc:Scope):List Str:=(sc.names.filter λy=>y.2 == .free).map (·.1)
noncomputable def gi (c:Cs)(sc:Scope):Cs:=⟨lD sc++jf sc,O0 sc c.sc,false,c.mt,SF sc,none⟩
noncomputable def xF (c:Cs)(sc:Scope):List (Option Nat):=(lD sc).map (λ_=>none)++(jf sc).map (λx=>iC c.N x)
noncomputable def BK (c:Cs)(sc:Scope):Bool:=sW c.sc c.N (lD sc++jf sc) (xF c sc) sc&&uL (lD sc++jf sc)
noncomputable def Ei (T:Expr->FT):List Expr->FT
 | []=>cG| [t]=>T t|_=>kE
noncomputable def O1 (c:Cs):Expr->Bool
 |.Name x _=>c.mt.elem x|_=>false
noncomputable def vJ (m:G0)(P:Pk)(c:Cs)(a:Bool)(E:Cs->Expr->FE)(T:Cs->Expr->FT)(h:Expr)(n:List ac3)(sc:Scope):FE:=match gV n with
 |some (tg,it,i)=>if BK c sc && !(isSet it)then
  (if O1 c it then lT (if a then jE else bR) (GF (E c it)) (xF c sc) (oB (gi c sc) (E (gi c sc)) 3 tg) (Ei (T (gi c sc)) i) (E (gi c sc) h)
  else bO (if a then jE else bR) (Eh m P c (E c) tg it) (xF c sc) (oB (gi c sc) (E (gi c sc)) 3 tg) (Ei (T (gi c sc)) i) (E (gi c sc) h))else cj
 |none=>cj
def Gd.comp {m:G0}{c:Cs}(g:Gd m c X)(h:uL (lD O++jf O)=true){C:Addr}{s3:lO}{fp:List Addr}{a8:List (Addr×Obj)}:Gd m (gi c O) (bw X (lD O++jf O) O C s3 H fp a8) where
 hN:=rfl
 hs:=by show VA O X.env=O0 O c.sc;rw[<- g.hs];rfl
 nd:=oE h
 xe:=rfl
 cm:=g.cm
 rm:=g.rm
 al:=λz=>by cases z
 ow:=λx k=>by
  show(O.names.any λy=>y.1 == x&&y.2 == .cell)=true
  obtain⟨y,j,e⟩:=mO.mp (show x∈(O.names.filter λy=>y.2 == .cell).map (·.1) from k)
  rw[xX]at j;rw[aeB];exact⟨y,j.1,by rw[e,j.2];simp⟩
 fn:=λx i n hm=>by obtain⟨f,fd,o,a,b,d,e,l⟩:=g.fn x i n hm;exact⟨f,fd,o,a,b,d,e,l⟩
 bl:=g.bl
 cn:=g.cn
 dc:=g.dc
 lf:=g.lf
 ll:=g.ll
 lh:=λ_ _ _ h=>nomatch h
def O2 (a:∀e,DT X e (n e)):∀c:List Expr,gP X c (Ei n c)
 | []=>Gp| [t]=>Gq (a t)|_::_::_=>.of (λi s p H Q I h=>by obtain⟨_,_,_,_,_,_,_,h,_⟩:=h;cases h)
def zS {m:G0}{c:Cs}(g:Gd m c X){E:Cs->Expr->FE}{T:Cs->Expr->FT}(b:∀c X,Gd m c X->∀e,DE X e (E c e))(f:∀c X,Gd m c X->∀e,DT X e (T c e))(h:BK c O=true){tg elt:Expr}{ifs:List Expr}:
  eZ X (lD O++jf O) (xF c O) O /\ ∀C s3 H fp a8,DG (bw X (lD O++jf O) O C s3 H fp a8) tg (oB (gi c O) (E (gi c O)) 3 tg) /\
   gP (bw X (lD O++jf O) O C s3 H fp a8) ifs (Ei (T (gi c O)) ifs)/\DE (bw X (lD O++jf O) O C s3 H fp a8) elt (E (gi c O) elt):=by
 simp only[BK,l8]at h;refine⟨DB g.hs g.hN h.1,λC s3 H fp a8=>?_⟩;have a:=g.comp h.2 (C:=C) (s3:=s3) (H:=H) (fp:=fp) (a8:=a8);exact⟨oC a (b _ _ a) 3 tg,O2 (f _ _ a) ifs,b _ _ a elt⟩
def Ej {n:pZ}{p:FT}(k:X.xe=λ_ _=>False)(i:X.calm=true)(ok:eZ X Z I O)(f:IC X e K n)(j:∀tg q H r u,DG (bw X Z O tg q H r u) e h/\gP (bw X Z O tg q H r u) B p/\DE (bw X Z O tg q H r u) c C)(l:∀x,A8 K X.env x=pure x):DE X (.ListComp c [⟨e,K,B,0⟩] O a) (lT jE n I h p C):=by
 rw[xa];exact uz k i ok (zB f) j l
def xG {m:G0}{c:Cs}(P:Pk)(g:Gd m c X){E:Cs->Expr->FE}{T:Cs->Expr->FT}(f:∀c X,Gd m c X->∀e,DE X e (E c e))(n:∀c X,Gd m c X->∀e,DT X e (T c e)){elt:Expr}:
   DE X (.ListComp elt R O a) (vJ m P c j E T elt R O):=by
 unfold vJ;split
 . rename_i tg it ifs b
   obtain rfl:=IS b;split
   . rename_i h
     simp only[l8,wQ]at h;obtain⟨ok,i⟩:=zS g f n h.1 (tg:=tg) (elt:=elt) (ifs:=ifs);split
     . cases j
       . exact GG g.xe g.cm ok (zA (f c X g it)) i (m7 h.2)
       . exact Ej g.xe g.cm ok (zA (f c X g it)) i (m7 h.2)
     . cases j
       . exact Km g.xe g.cm ok (oD P g (f c X g)) i (m7 h.2)
       . exact GH g.xe g.cm ok (oD P g (f c X g)) i (m7 h.2)
   . exact bX
 . exact bX
noncomputable def baQ (T:Expr->FT)(op:BoolOp):List Expr->FT
 | []=>kE| [a]=>T a
 |a::b::r=>match op with
  |.And=>wB (T a) (baQ T .And (b::r))|.Or=>C8 (T a) (baQ T .Or (b::r))
noncomputable def xE (P:Pk)(m:G0)(c:Cs)(E:Expr->FE)(a:Bool)(e:Expr):Option FE:=P.xr.findSome? λr=>r.e m c E a e
noncomputable def xT (P:Pk)(m:G0)(c:Cs)(E:Expr->FE)(e:Expr):Option FT:=P.xr.findSome? λr=>r.t m c E e
noncomputable def SG (m:G0)(P:Pk)(E:Cs->Bool->Expr->FE)(T:Cs->Expr->FT)(c:Cs)(h:Bool):Expr->FE
 |.Constant v _ _=>Ed v|.Name x _=>eName m c x|.BinOp a op b _=>OY op h (SA a) (E c false a) (E c false b)|.UnaryOp op a _=>Vh op (E c false a)|.BoolOp op i _=>bE (E c false) (i.dropLast.any SE) op i|.IfExp t a b _=>lA (T c t) (E c h a) (E c h b)|.Compare l n rs _=>tM (E c false) l n rs|.Tuple p _ _=>aI ax (aE (E c false) p)|.List p _=>aI (if h then mkRef else jQ) (aE (E c false) p)|.Dict q i _=>if q.isEmpty&&i.isEmpty then(if h then rK else fC .eM)else cj|.Subscript v s _=>GR (E c false) v s|.Call f u q pos=>if q.isEmpty then BJ m P c h (E c false) f u pos else cj|.ListComp r y sc _=>vJ m P c h (λc e=>E c false e) T r y sc|_=>cj
noncomputable def SH (m:G0)(P:Pk)(E:Cs->Bool->Expr->FE)(T:Cs->Expr->FT)(c:Cs):Expr->FT
 |.Compare l h rs _=>aD (tM (E c false) l h rs)|.UnaryOp op a q=>match op with|.Not=>F9 (T c a)|op=>if mZ (.UnaryOp op a q)then lz (E c false (.UnaryOp op a q))else kE
 |.BoolOp op i _=>baQ (T c) op i|e=>if mZ e then lz (E c false e)else kE
noncomputable def BL (m:G0)(P:Pk)(E:Cs->Bool->Expr->FE)(T:Cs->Expr->FT)(c:Cs)(a:Bool)(e:Expr):FE:=match xE P m c (E c false) a e with
 |some f=>f|none=>SG m P E T c a e
noncomputable def baB (m:G0)(P:Pk)(E:Cs->Bool->Expr->FE)(T:Cs->Expr->FT)(c:Cs)(e:Expr):FT:=match xT P m c (E c false) e with
 |some f=>f|none=>SH m P E T c e
noncomputable def iv (m:G0)(P:Pk):Nat->(Cs->Bool->Expr->FE)×(Cs->Expr->FT)
 | 0=>(λ_ _ _=>cj,λ_ _=>kE)|n+1=>(BL m P (iv m P n).1 (iv m P n).2,baB m P (iv m P n).1 (iv m P n).2)
theorem kF {k j:Type}{f:k->Option j}:∀{l:List k} {b:j},l.findSome? f=some b->∃a∈l,f a=some b
 | [],_,h=>by cases h
 |a::l,b,h=>by
  rw[List.findSome?_cons]at h;cases ha:f a with
  |none=>rw[ha]at h;obtain⟨x,i,e⟩:=kF h;exact⟨x,pP _ i,e⟩
  |some c=>rw[ha]at h;cases h;exact⟨a,rj,ha⟩
def SI (c:∀e,DT X e (n e)){op:BoolOp}:∀i:List Expr,DT X (.BoolOp op i a) (baQ n op i):=by
 have w:∀i:List Expr,i ≠ []->DW X (.BoolOp op i a) (baQ n op i):=λi=>by
  induction i with
  |nil=>intro h;exact absurd rfl h
  |cons T r p =>
   intro _;cases r with
   |nil=>cases op;exact Kb (c T);exact Ny (c T)
   |cons b r =>
    have:=p (by simp);cases op
    . exact Nz (c T) this
    . exact RX (c T) this
 intro i;cases i with
 |nil=>exact tJ|cons T r=>exact(w (T::r) (by simp)).dt
theorem BM (m:G0)(P:Pk):∀n:Nat,(∀c X,Gd m c X->∀rf e,DE X e ((iv m P n).1 c rf e))/\(∀c X,Gd m c X->∀e,DT X e ((iv m P n).2 c e))
 | 0=>⟨λ_ _ _ _ _=>bX,λ_ _ _ _=>tJ⟩
 |n+1=>by
  obtain⟨i,j⟩:=BM m P n;refine⟨λc X g rf e=>?_,λc X g e=>?_⟩
  . show DE X e (BL m P (iv m P n).1 (iv m P n).2 c rf e)
    unfold BL;split
    . rename_i f hf
      obtain⟨r,_,h⟩:=kF hf;exact r.Ec g (i c X g false) h
    have b:=i c X g false;cases e with
    |Constant=>exact Ee|Name=>exact GS g|BinOp=>exact Lc (b _) (b _)|UnaryOp=>exact OZ (b _)|BoolOp=>exact IT b _|IfExp=>exact NC (j c X g _) (i c X g rf _) (i c X g rf _)|Compare=>exact Ld g.hu b|Tuple=>exact De (gA b _)
    |List=>cases rf with
      |false=>exact ND (gA b _)|true=>exact NF (gA b _)
    |Dict p u _=>cases p with
      |cons=>exact bX
      |nil=>cases u with
        |cons=>exact bX
        |nil=>cases rf with
         |false=>exact Gv|true=>exact KZ
    |Subscript=>exact Lf g.hu b
    |Call f v p pos=>cases p with
      |nil=>exact GV P g b|cons=>exact bX
    |ListComp=>exact xG P g (λc X g e=>i c X g false e) j|_=>exact bX
  . show DT X e (baB m P (iv m P n).1 (iv m P n).2 c e)
    unfold baB;split
    . rename_i f hf
      obtain⟨r,_,h⟩:=kF hf;exact r.tok g (i c X g false) h
    have k:∀e,DT X e (if mZ e then lz ((iv m P n).1 c false e)else kE):=λe=>by
      split
      . rename_i h;exact Nx (i c X g false _) (plainT h)
      . exact tJ
    cases e with
    |Compare=>exact Le g.hu (i c X g false)
    |UnaryOp op a q=>cases op with
      |Not=>exact NA (j c X g _)|_=>exact k _
    |BoolOp=>exact SI (j c X g) _|_=>exact k _
noncomputable def IV (f:Stmt->FS):List Stmt->FS
 | []=>aP| [s]=>f s|s::t::r=>az (f s) (IV f (t::r))
noncomputable def BN (S:Scope):Bool:=(if S.kind.isAnnotationScope then afq else S.kind)== .function
noncomputable def BO (S:Scope)(x:Str)(c p:Pos)(sc:Scope):Bool:=BN S&&S.names.lookup x == some .local&&c.line == p.line && !(sc.names.any λ(n,k)=>n == x&&(k == .local||k == .cell))
noncomputable def DK:Expr->Option Str
 |.Constant v _ _=>match v with|.str k=>some k|_=>none
 |_=>none
noncomputable def Ek (a:List Str):Expr->Bool
 |e=>((nV e).map λx=>a.elem x).getD (((sV e).bind λq=>(DK q.2).map λk=>a.elem (F6 "=" ++ k)).getD false)
noncomputable def aZ (E:Bool->Expr->FE)(a:List Str):List Expr->List Expr->FA
 |_,[]=>aj| [],v::c=>if isStar v then rR else af (E false v) (aZ E a [] c)|t::h,v::c=>if isStar v then rR else af (E (Ek a t) v) (aZ E a h c)
noncomputable def IW (m:G0)(P:Pk)(c:Cs)(a:Bool)(E:Cs->Expr->FE)(T:Cs->Expr->FT)(h:Expr)(n:List ac3)(sc:Scope):FE:=match gV n with
 |some (tg,it,i)=>if BK c sc && !(isSet it)then
  (bO (if a then jE else bR) (Eh m P c (E c) tg it) (xF c sc) (oB (gi c sc) (E (gi c sc)) 3 tg) (Ei (T (gi c sc)) i) (E (gi c sc) h))else cj
 |none=>cj
noncomputable def qb (S:Scope)(a:List Expr):List Str:=a.filterMap fun
 |.Name id pos=>if S.names.lookup id == some .local&&pos.line == (a.head?.map (·.pos.line)).getD 0 then some id else none|_=>none
noncomputable def O3 (S:Scope)(a c:List Expr):Option Bool :=
 if !(a.length == 2||a.length == 3)||c.length != a.length || !(BN S)then some false
 else if(qb S a).length != a.length||(qb S a).eraseDups.length != (qb S a).length then some false
 else if c.all (foldedForSure 8)then some false
 else if c.all (constantsAlone 8)then none
 else some true
noncomputable def three {e:Type}:List e->Option (e×e×e)
 | [a,b,c]=>some (a,b,c)|_=>none
def xH {e:Type}{l:List e}{a b c:e}(h:three l=some (a,b,c)):l = [a,b,c]:=by
 match l,h with
 | [_,_,_],h=>cases h;rfl
noncomputable def lY (c:Cs)(x:Str):Bool:=c.sc.names.lookup x == some .local
noncomputable def Vk:Expr->Option (Expr×List ac3×Scope×Pos)
 |.ListComp c h sc p=>some (c,h,sc,p)|_=>none
def O4 (h:Vk e=some (K,R,O,a)):e = .ListComp K R O a:=by
 cases e with
 |ListComp=>cases h;rfl|_=>exact nn h
noncomputable def GX (m:G0)(P:Pk)(E:Cs->Bool->Expr->FE)(T:Cs->Expr->FT)(c:Cs)(tg v:Expr):FS:=match zQ tg with
 |some (x,H)=>(match xD c x with
  |some i=>(match Vk v with
   |some (q,B,sc,p)=>aF (if BO c.sc x H p sc then IW m P c (c.mt.elem x) (λc e=>E c false e) T q B sc else vJ m P c (c.mt.elem x) (λc e=>E c false e) T q B sc) (gN i)|none=>if oz v then cA else aF (E c (c.mt.elem x) v) (gN i))
  |none=>cA)
 |none=>match sV tg with
  |some _=>aF (E c (Ek c.mt tg) v) (oB c (E c false) 3 tg)
  |none=>match tV v with
   |some n=>(match tV tg with
    |some h=>if n.any isStar then cA else(match O3 c.sc h n with
     |some r=>if r then(match baY h,baY n with
      |some C,some _=>(match nV C.1,nV C.2 with
       |some x,some y=>(match iC c.N x,iC c.N y with|some i,some j=>if qb c.sc h == [x,y]&&lY c x&&lY c y && !(i == j)then mR i j (aZ (E c) c.mt h n)else cA|_,_=>cA)
       |_,_=>cA)
      |_,_=>(match three h,three n with
       |some u,some _=>(match nV u.1,nV u.2.1,nV u.2.2 with
        |some x,some y,some z=>(match iC c.N x,iC c.N y,iC c.N z with|some i,some j,some k=>if qb c.sc h == [x,y,z]&&lY c x&&lY c y&&lY c z && !(i == j) && !(i == k) && !(j == k)then rG i j k (aZ (E c) c.mt h n)else cA|_,_,_=>cA)
        |_,_,_=>cA)
       |_,_=>cA))else aF (aI ax (aZ (E c) c.mt h n)) (oB c (E c false) 3 tg)
     |none=>cA)
    |none=>cA)
   |none=>if oz v||rW v||isStar tg then cA else aF (E c false v) (oB c (E c false) 3 tg)
noncomputable def GY (c:Cs)(E:Expr->FE)(tg:Expr)(op:Xu)(v:Expr):FS:=match(nV tg).bind λx=>xD c x with
 |some i=>(match op with|.Add=>qA i (λi j=>i+j) (E v)|.Sub=>qA i (λi j=>i-j) (E v)|_=>cA)
 |none=>cA
noncomputable def O5 (m:G0)(P:Pk)(W:Nat)(f:Bool)(E:Cs->Bool->Expr->FE)(T:Cs->Expr->FT)(B:List Stmt->FS)(c:Cs):Stmt->FS
 |.Return v _=>(match v with|some e=>aK (E c f e)|none=>cA)
 |.If t a b _=>bU (T c t) (B a) (B b)|.Assign h v _=>(match h with|tg::r=>if r.isEmpty then GX m P E T c tg v else cA| []=>cA)
 |.AugAssign tg op v _=>GY c (E c false) tg op v|.For tg it body i _=>if isSet it || !i.isEmpty then cA else fO (Eh m P c (E c false) tg it) (oB c (E c false) 3 tg) (B body)|.While t body [] _=>Dh W (T c t) (B body)|.Pass _=>aP|.Expr e _=>if(DK e).isSome then aP else if oz e then cA else i7 (E c false e)|_=>cA
noncomputable def sS (m:G0)(P:Pk)(W:Nat)(a:Bool)(E:Cs->Bool->Expr->FE)(T:Cs->Expr->FT)(c:Cs):Nat->Stmt->FS
 | 0,_=>cA|n+1,s=>O5 m P W a E T (IV (sS m P W a E T c n)) c s
noncomputable def body (m:G0)(P:Pk)(W:Nat)(a:Bool)(c:Cs)(b:List Stmt):FS:=IV (sS m P W a (iv m P 30).1 (iv m P 30).2 c 12) b
theorem xI {f:Stmt->FS}(h:∀s,DS X s (f s)):∀c:List Stmt,lN X c (IV f c)
 | []=>Kc| [s]=>Ke (h s)|s::t::r=>Gg (h s) (xI h (t::r))
theorem r_ {E:Bool->Expr->FE}{b:List Str}(a:∀rf e,DE X e (E rf e)):∀(i c:List Expr),DA X c (aZ E b i c)
 |_,[]=>by cases ‹List Expr›<;>exact C_
 | [],v::c=>by
  unfold aZ;split
  . exact tK
  . rename_i h;exact sR (a _ v) (r_ a [] c) (bL (by simpa using h))
 |t::i,v::c=>by
  unfold aZ;split
  . exact tK
  . rename_i h;exact sR (a _ v) (r_ a i c) (bL (by simpa using h))
def zU {m:G0}{c:Cs}(g:Gd m c X){elt:Expr}{gs:List ac3}{sc:Scope}{p px:Pos}{l:Nat}:Pr (.ListComp elt gs sc p) (some (.Name x px)) l X.env=pure (BO c.sc x px p sc):=by rw[<- g.hs];rfl
def swT {m:G0}{c:Cs}{n:List Expr}{kt k2:Nat}{pt pt2:Pos}(g:Gd m c X)(o:n.any isStar=false)(h:O3 c.sc B n=some j):Qh [.Tuple B kt pt] (.Tuple n k2 pt2) X.env=pure (if j then some (qb c.sc B)else none):=by
 have l:(n.any fun|.Starred ..=>true|_=>false)=false:=by
   have:(λ(e:Expr)=>match e with|.Starred ..=>true|_=>false)=isStar:=by funext e;cases e<;>rfl
   rw[this];exact o
 have b:(X.env.blockKind != afq)= !(BN c.sc):=by rw[<- g.hs];rfl
 unfold O3 at h;show(if(!(B.length == 2||B.length == 3)||n.length != B.length||X.env.blockKind != afq)=true then pure none else if(n.any fun|.Starred ..=>true|_=>false)=true then pure none else
   if((qb X.env.scope B).length != B.length||(qb X.env.scope B).eraseDups.length != (qb X.env.scope B).length)=true then pure none else if n.all (foldedForSure 8)=true then pure none else if n.all (constantsAlone 8)=true then _ else pure (some (qb X.env.scope B)))=_
 rw[b,l,g.hs];split at h
 . rename_i a;cases h;rw[if_pos a];rfl
 rename_i a;rw[if_neg a,if_neg (by simp)];split at h
 . rename_i i;cases h;rw[if_pos i];rfl
 rename_i i;rw[if_neg i];split at h
 . rename_i f;cases h;rw[if_pos f];rfl
 rename_i f;rw[if_neg f];split at h
 . cases h
 rename_i k;cases h;rw[if_neg k];rfl
def IX:DS X k (aF cj h):=.of (λc k i H Q I s=>by obtain⟨_,_,_,_,_,_,_,_,s,_⟩:=s;cases s)
def Xz (h:rW K=false):Qh [e] K Y=pure none:=by
 cases e with
 |Tuple c i p=>cases K<;>first|rfl|cases h
 |List c p=>cases K<;>first|rfl|cases h
 |_=>rfl
def zV (h:isStar e=false):(yh [e] Y).map (·.2)= [Dd e Y]:=by rw[qC h];rfl
def GZ:TL [.Subscript e K a] c i Y=pure false:=by cases c<;>rfl
def O7:Qh [.Subscript e K a] c Y=pure none:=by cases c<;>rfl
def Lh {m:G0}{c:Cs}(P:Pk)(g:Gd m c X){E:Cs->Bool->Expr->FE}{T:Cs->Expr->FT}(A:∀c X,Gd m c X->∀rf v,DE X v (E c rf v))(B:∀c X,Gd m c X->∀v,DT X v (T c v)){tg:Expr}{p:Pos}:DS X (.Assign [tg] e p) (GX m P E T c tg e):=by
 have o:∀{x:Str},lY c x=true->X.env.scope.names.lookup x=some .local:=fun {x} h=>by rw[g.hs];exact eq_of_beq h
 unfold GX;split
 . rename_i x px n
   obtain rfl:=rX n;split
   . rename_i i s
     obtain⟨a,b,d⟩:=tN g s;split
     . rename_i elt gs sc q f
       obtain rfl:=O4 f;split
       . rename_i C
         unfold IW;split
         . rename_i tg it ifs hg
           obtain rfl:=IS hg;split
           . rename_i h
             simp only[l8,wQ]at h;obtain⟨ok,cx⟩:=zS g (λc X g v=>A c X g false v) B h.1 (tg:=tg) (elt:=elt) (ifs:=ifs);have hs:=(zU g (elt:=elt) (gs:=[⟨tg,it,ifs,0⟩]) (sc:=sc) (p:=q) (px:=px) (x:=x) (l:=p.line)).trans (by rw[C]);cases c.mt.elem x
             . exact Bj g.xe g.cm ok (oD P g (A c X g false)) cx g.r6 a b hs (m7 h.2) d
             . exact yI g.xe g.cm ok (oD P g (A c X g false)) cx g.r6 a b hs (m7 h.2) d
           . exact IX
         . exact IX
       . rename_i C
         exact Dg g.r6 a b (xG P g (λc X g v=>A c X g false v) B) ((zU g).trans (by rw[show BO c.sc x px q sc=false by simpa using C])) d
     . split
       . exact cf
       . rename_i h
         exact Dg g.r6 a b (A c X g _ _) (xA (by simpa using h)) d
   . exact cf
 . split
   . rename_i q hq
     obtain⟨_,rfl⟩:=BG hq;exact wC (A c X g _ _) (oC g (A c X g false) 3 _) GZ O7 (zV rfl)
   . split
     . rename_i H f
       obtain⟨k2,pt2,rfl⟩:=BH f;split
       . rename_i ts ht
         obtain⟨kt,pt,rfl⟩:=BH ht;split
         . exact cf
         rename_i f;have f:H.any isStar=false:=by simpa using f
         have G_:∀l,TL [.Tuple ts kt pt] (.Tuple H k2 pt2) l X.env=pure false:=λ_=>rfl;split
         . rename_i r hp
           have I:=swT (kt:=kt) (k2:=k2) (pt:=pt) (pt2:=pt2) g f hp;cases r with
           |false=>exact wC (De (r_ (A c X g) ts H)) (oC g (A c X g false) 3 _) (G_ _) I rfl
           |true =>
             rw[if_pos rfl];split
             . rename_i xy J O Q
               split
               . rename_i x y n R
                 split
                 . rename_i i j s U
                   split
                   . rename_i h
                     simp only[l8,wQ,beq_iff_eq]at h;obtain⟨⟨⟨h1,h2⟩,Y⟩,Z⟩:=h;obtain⟨ex,ey⟩:=xy;obtain⟨a,b⟩:=J;obtain rfl:=Eb O;obtain rfl:=Eb Q;obtain⟨px,rfl⟩:=jT n;obtain⟨py,rfl⟩:=jT R;exact Oi g.cm g.r6 (by rw[g.hN];exact eA s) (by rw[g.hN];exact eA U) (by simpa using Z) (o h2) (o Y) (r_ (A c X g) _ _) (I.trans (by rw[if_pos rfl,h1])) (G_ _)
                   . exact cf
                 . exact cf
               . exact cf
             . split
               . rename_i u J O Q
                 split
                 . rename_i x y z n R hz
                   split
                   . rename_i i j k s U hk
                     split
                     . rename_i h
                       simp only[l8,wQ,beq_iff_eq]at h;obtain⟨⟨⟨⟨⟨⟨h1,h2⟩,Y⟩,Z⟩,h5⟩,h6⟩,h7⟩:=h;obtain⟨ex,ey,ez⟩:=u;obtain⟨a,b,d⟩:=J;obtain rfl:=xH O;obtain rfl:=xH Q;obtain⟨px,rfl⟩:=jT n;obtain⟨py,rfl⟩:=jT R;obtain⟨pz,rfl⟩:=jT hz;exact KP g.cm g.r6 (by rw[g.hN];exact eA s) (by rw[g.hN];exact eA U) (by rw[g.hN];exact eA hk) (by simpa using h5) (by simpa using h6) (by simpa using h7) (o h2) (o Y) (o Z) (r_ (A c X g) _ _) (I.trans (by rw[if_pos rfl,h1])) (G_ _)
                     . exact cf
                   . exact cf
                 . exact cf
               . exact cf
         . exact cf
       . exact cf
     . split
       . exact cf
       rename_i h;simp only[wt,not_or,Rj]at h;exact wC (A c X g false _) (oC g (A c X g false) 3 _) (xA h.1.1) (Xz h.1.2) (zV h.2)
def Li {m:G0}{c:Cs}(g:Gd m c X)(tg:∀op,DE X op (E op)):DS X (.AugAssign e l K a) (GY c E e l K):=by
 unfold GY;split
 . rename_i i h
   obtain⟨x,j,f⟩:=bind_some h;obtain⟨k,rfl⟩:=jT j;obtain⟨v,b,d⟩:=tN g f;cases l with
   |Add=>exact DJ g.r6 v b Mw (tg _) d|Sub=>exact DJ g.r6 v b Mx (tg _) d|_=>exact cf
 . exact cf
def O9 (h:(DK e).isSome=true):∃s k p,e = .Constant (.str s) k p:=by
 cases e with
 |Constant v k p=>cases v with
  |str s=>exact⟨s,k,p,rfl⟩|_=>cases h
 |_=>cases h
def Lj {m:G0}{c:Cs}(P:Pk)(g:Gd m c X){E:Cs->Bool->Expr->FE}{T:Cs->Expr->FT}(f:∀c X,Gd m c X->∀rf e,DE X e (E c rf e))(l:∀c X,Gd m c X->∀e,DT X e (T c e)){B:List Stmt->FS}(W:∀b,lN X b (B b))(s:Stmt):
  DS X s (O5 m P i j E T B c s):=by
 have a:ZF (model X.prog X.w) X.A X.env X.xe:=by rw[g.xe];exact PassesOwn.never
 cases s with
 |Return v p=>cases v with
  |some e=>exact NG (f c X g _ _)|none=>exact cf
 |If=>exact RZ (l c X g _) (W _) (W _)
 |Assign u v p=>cases u with
  |nil=>exact cf
  |cons tg r=>cases r with
    |nil=>exact Lh P g f l|cons=>exact cf
 |AugAssign=>exact Li g (f c X g false)
 |For tg it body n p =>
  show DS X _ (if isSet it || !n.isEmpty then cA else fO _ _ _);split
  . exact cf
  . rename_i h
    simp only[wt,not_or,Rj,afp]at h;cases n with
    |cons=>cases h.2|nil=>exact NU a g.cm (oD P g (f c X g false)) (oC g (f c X g false) 3 _) (W _) (m7 h.1)
 |While t body n p=>cases n with
  |nil=>exact Gj i a (l c X g _) (W _)|cons=>exact cf
 |Pass=>exact Kf
 |Expr e p =>
  show DS X _ (if(DK e).isSome then aP else if oz e then cA else i7 (E c false e));split
  . rename_i h
    obtain⟨s,k,q,rfl⟩:=O9 h;exact NH
  . split
    . exact cf
    . rename_i h;exact Kg (f c X g false _) (xA (by simpa using h))
 |_=>exact cf
def Lk {m:G0}{c:Cs}(P:Pk)(g:Gd m c X)(e:List Stmt):lN X e (body m P i j c e):=by
 obtain⟨b,a⟩:=BM m P 30;have:∀n s,DS X s (sS m P i j (iv m P 30).1 (iv m P 30).2 c n s):=λn=>by
  induction n with
  |zero=>exact λ_=>cf|succ n h=>exact λs=>Lj P g b a (xI h) s
 exact xI (this 12) e
structure cp where
 nm:Str
 ps:List Str
 N:List Str
 st:Stmt
 kp:Bool
 mt:List Str
 pu:Bool
 gn:Str
 ld:Option d_
 lam:Option (Pos×Str)
structure Mo where
 ds:List cp
 k6:List Str
 xu:List (Str×D)
 xw:List (Str×List (Str×D))
 P:Pk
 W:Nat
noncomputable def k8:Nat->List cp->List (Str×Nat×Nat)
 |_,[]=>[]|j,d::ds=>if d.ld.isSome then k8 (j+1) ds else(d.gn,j,d.ps.length)::k8 (j+1) ds
noncomputable def k9:Nat->List cp->List (Str×Nat)
 |_,[]=>[]|j,d::ds=>if d.ld.isSome then(d.gn,j)::k9 (j+1) ds else k9 (j+1) ds
noncomputable def lZ (ds:List cp):List (Str×d_):=ds.filterMap λd=>d.ld.map λl=>(d.gn,l)
noncomputable def Mo.g (M:Mo)(T:Nat->Fn)(k:Nat):G0:=⟨T,k,k8 0 M.ds,M.k6,M.xu,M.xw,k9 0 M.ds⟩
noncomputable def BP (a:Bool)(f:Fn):Fn:=if a then fJ f else f
noncomputable def Mo.se (M:Mo)(d:cp):Option (Pos×Str×d_):=d.lam.bind λq=>((lZ M.ds).lookup q.2).map λl=>(q.1,q.2,l)
noncomputable def cp.run (M:Mo)(d:cp)(T:Nat->Fn)(k:Nat):Fn:=match d.ld with
 |some l=>bN l.fv.length l.ps.length ((iv (M.g T k) M.P 30).1 ⟨l.fv++l.ps,l.sc,false,[],[],none⟩ false l.bd)|none=>BP d.pu (av d.kp d.N.length d.ps.length (body (M.g T k) M.P M.W d.kp ⟨d.N,bb d.st,true,d.mt,[],M.se d⟩ (d9 d.st)))
theorem uM:∀{ds:List cp} {j:Nat} {x:Str} {i n:Nat},(x,i,n)∈k8 j ds->∃d q,i=j+q/\ds[q]? = some d/\d.ld=none/\d.gn=x/\d.ps.length=n
 | [],_,_,_,_,h=>by simp[k8]at h
 |d::ds,j,x,i,n,h=>by
  unfold k8 at h;have rest:(x,i,n)∈k8 (j+1) ds->∃e q,i=j+q/\(d::ds)[q]? = some e/\e.ld=none/\e.gn=x/\e.ps.length=n:=λh=>by obtain⟨e,q,f,c,b⟩:=uM h;exact⟨e,q+1,by omega,by simpa using c,b⟩
  split at h
  . exact rest h
  . rename_i a
    rcases nv.mp h with h|h
    . cases h;exact⟨d,0,rfl,rfl,by simpa using a,rfl,rfl⟩
    . exact rest h
theorem uN:∀{ds:List cp} {j:Nat} {x:Str} {i:Nat},(x,i)∈k9 j ds->∃d q l,i=j+q/\ds[q]? = some d/\d.ld=some l/\d.gn=x
 | [],_,_,_,h=>by simp[k9]at h
 |d::ds,j,x,i,h=>by
  unfold k9 at h;have rest:(x,i)∈k9 (j+1) ds->∃e q l,i=j+q/\(d::ds)[q]? = some e/\e.ld=some l/\e.gn=x:=λh=>by obtain⟨e,q,l,f,c,b⟩:=uN h;exact⟨e,q+1,l,by omega,by simpa using c,b⟩
  split at h
  . rename_i a
    rcases nv.mp h with h|h
    . cases h
      obtain⟨l,e⟩:=ad3.mp a;exact⟨d,0,l,rfl,rfl,e,rfl⟩
    . exact rest h
  . exact rest h
structure O8 (M:Mo)(T:Nat->Nat->Fn):Prop where
 z:∀j ds g,T 0 j ds g=none
 s:∀k j d,M.ds[j]? = some d->T (k+1) j=d.run M (T k) k
 sc:∀d∈M.ds,d.ld=none->jW d.N d.ps (bb d.st)
 lc:∀d∈M.ds,∀p x l,M.se d=some (p,x,l)->l.fv=mW l.sc/\l.ar.defaults = []/\l.ar.kw_defaults = []/\d.nm ++ ".<locals>." ++ "<lambda>" = l.qual /\ ∀y∈l.fv,(bb d.st).names.lookup y=some .cell
 ln:((lZ M.ds).map (·.1)).Nodup
 lf:∀d∈M.ds,d.ld=none->d.gn ∉ (lZ M.ds).map (·.1)
inductive xJ (M:Mo)(T T':Nat->Fn)(k:Nat):Nat->List cp->Prop
 |nil {j:Nat}:xJ M T T' k j []
 |cons {j:Nat} {d:cp} {ds:List cp} (h:T' j=d.run M T k) (r:xJ M T T' k (j+1) ds):xJ M T T' k j (d::ds)
theorem xJ.get {M:Mo}{T U:Nat->Fn}{k:Nat}:∀{j:Nat} {ds:List cp},xJ M T U k j ds->∀{i:Nat} {d:cp},ds[i]? = some d->U (j+i)=d.run M T k
 |_,_,.nil,_,_,h=>by simp at h|_,_,.cons h r,0,d,e=>by simp at e;subst e;exact h|j,_,.cons h r,i+1,d,e=>by have:=r.get (i:=i) (by simpa using e);rw[show j+(i+1)=j+1+i by omega];exact this
structure wo (M:Mo)(K:KW)(f:Nat->Addr)(fd:Nat->wq):Prop where
 fn:∀j d,M.ds[j]? = some d->d.ld=none->yV K.fr d.nm d.nm d.st (f j) (fd j)/\K.mg d.gn=some (.ref (f j))/\HT K.fr (fd j) d.ps []
 lt:∀(j:Nat) (d:cp),M.ds[j]? = some d->d.ld=none->∀p x,d.lam=some (p,x)->∃cc P,(fd j).code = .ref cc/\adN K.fr cc P=true/\(P,p,d.nm ++ ".<locals>." ++ "<lambda>")∈K.lx.tb
 lm:K.lx.lm=λx=>(lZ M.ds).lookup x
 ls:∀(j:Nat) (d:cp) (l:d_),M.ds[j]? = some d->d.ld=some l->vC l
 bl:∀x∈M.k6,K.mg x=none
 cn:∀x d,(x,d)∈M.xu->∃v u,K.mg x=some u/\lX v u /\ ∀K H ι,Rel K H ι d v
 dc:∀x t,(x,t)∈M.xw->∃a,K.mg x=some (.ref a)/\i_ K.w K a t
def O8.len {M:Mo}(G:O8 M T){d:cp}(h:M.ds[o]? = some d)(a:d.ld=none):∀ds g r,T i o ds g=some r->ds.length=d.ps.length:=λds g r q=>by
 cases i with
 |zero=>rw[G.z]at q;cases q
 |succ i =>
  rw[G.s i o d h]at q;unfold cp.run at q;rw[a]at q;unfold BP at q;dsimp only at q;split at q
  . exact Bp (λ_ _ _=>uy _ _ _) ds g r q
  . exact uy ds g r q
def BQ {M:Mo}(G:O8 M T)(A:wo M w J Q)(h:(x,d)∈lZ M.ds):w.lx.lm x=some d:=by rw[A.lm];exact fK G.ln h
def zW {ds:List cp}{j:cp}(h:ds[i]? = some j)(a:j.ld=some d):(j.gn,d)∈lZ ds:=Ql.mpr ⟨j,p7 h,by rw[a];rfl⟩
def Ll {M:Mo}{f:Nat->Addr}(G:O8 M T)(A:wo M w f Q){d:cp}(a:d∈M.ds)(b:d.ld=none):w.lx.lm d.gn=none:=by
 rw[A.lm];show(lZ M.ds).lookup d.gn=none;cases e:(lZ M.ds).lookup d.gn with
 |none=>rfl|some l=>exact absurd (HB (f:=(·.1)) (yg e)) (G.lf d a b)
section
variable {M:Mo}{P:te}{base:Heap}
theorem Em (G:O8 M T)(A:wo M w J Q):∀k,(∀j d,M.ds[j]? = some d->d.ld=none->eh P w.w w.fr w.mg base iu k (J j) (Q j) d.ps (kU w d.ps.length (T k j))) /\ ∀j d l,M.ds[j]? = some d->d.ld=some l->rP P w base k d.gn (T k j)
 | 0=>⟨λj d h _=>Kk λds g=>G.z j ds g,λj d l h _=>GL λds g=>G.z j ds g⟩
 |k+1=>by
  obtain⟨ih,ag⟩:=Em G A k;have Y:∀{X:Cx},X.prog=P->X.kw=w->X.base=base->(∀x i n,(x,i,n)∈(M.g (T k) k).fns->xx (M.g (T k) k) X x i n/\X.lx.lm x=none)/\(∀x i,(x,i)∈(M.g (T k) k).OW->(∃l,X.lx.lm x=some l)/\rP X.prog X.kw X.base (M.g (T k) k).k x ((M.g (T k) k).T i)):=fun {X} C O e3=>by
    subst C O e3;refine⟨λx i n b=>?_,λx i b=>?_⟩
    . obtain⟨e,q,y,r,B,R,h4⟩:=uM b
      have y:i=q:=by omega
      subst y R h4;obtain⟨F',lL,iJ⟩:=A.fn i e r B;exact⟨⟨J i,Q i,e.ps,ih i e r B,lL,F'.kp,iJ,G.len r B⟩,Ll G A (p7 r) B⟩
    . obtain⟨e,q,l,y,r,B,R⟩:=uN b
      have y:i=q:=by omega
      subst y R;exact⟨⟨l,BQ G A (zW r B)⟩,ag i e l r B⟩
  refine⟨λj d h c=>?_,λj d l h c=>?_⟩
  . obtain⟨F,hm,hb⟩:=A.fn j d h c
    have hd:=p7 h;have S:=G.sc d hd c;have eY:d.ps.length<=d.N.length:=by have:=congrArg afb S.pre;rw[yN]at this;omega
    have main:eh P w.w w.fr w.mg base iu (k+1) (J j) (Q j) d.ps (kU w d.ps.length (av d.kp d.N.length d.ps.length (body (M.g (T k) k) M.P M.W d.kp ⟨d.N,bb d.st,true,d.mt,[],M.se d⟩ (d9 d.st)))):=by
      refine R5 F S eY λZ v outer s H E jG U=>?_;have o:=Y (X:=(mG w.lx iu P w.w w.fr w.mg base d.N d.nm (bb d.st) (J j) Z v outer s H E).vY) rfl rfl rfl;by_cases Vm:w.fr.In base
      . have gd:Gd (M.g (T k) k) ⟨d.N,bb d.st,true,d.mt,[],M.se d⟩ (mG w.lx iu P w.w w.fr w.mg base d.N d.nm (bb d.st) (J j) Z v outer s H E).vY:=⟨rfl,rfl,S.nd,rfl,rfl,U,λ_ _=>rfl,(λ_ h=>nomatch h),λx i n b=>(o.1 x i n b).1,A.bl,A.cn,A.dc,λx i n b=>(o.1 x i n b).2,o.2,λp x l u=>?_⟩
        . exact Lk M.P gd _
        obtain⟨c2,c3,c4,c5,c6⟩:=G.lc d hd p x l u;obtain⟨⟨p',x'⟩,hq,u⟩:=Option.bind_eq_some_iff.mp u;obtain⟨l',hU,u⟩:=pM.mp u;cases u;have c1:=yg hU;obtain⟨cc,PP,t1,t2,t3⟩:=A.lt j d h c _ _ hq;rw[c5]at t3;obtain⟨e,ae,ah⟩:=Ql.mp c1;obtain⟨l',C,O⟩:=pM.mp ah;cases O;obtain⟨je,ab⟩:=Qt ae;exact⟨BQ G A c1,A.ls je e l ab C,c2,c3,c4,⟨cc,PP,jG.symm.trans t1,agU Vm t2,t3⟩,c5,c6,λ_=>rfl⟩
      . exact .of λa8 s' σ H' K I _=>absurd I.ok.mod.lG Vm
    rw[G.s k j d h];unfold cp.run;rw[c];unfold BP;dsimp only;split
    . exact KG main
    . exact main
  . rw[G.s k j d h]
    unfold cp.run;rw[c];have S:=A.ls j d l h c;refine ON S (BQ G A (zW h c)) λcl a cd v outer s H U=>?_;have o:=Y (X:=pB w.lx P w.w w.fr w.mg base l cl a cd v outer s H) rfl rfl rfl;have gd:Gd (M.g (T k) k) ⟨l.fv++l.ps,l.sc,false,[],[],none⟩ (pB w.lx P w.w w.fr w.mg base l cl a cd v outer s H):=⟨rfl,rfl,S.nd,rfl,rfl,U,(λz=>nomatch z),(λ_ h=>nomatch h),λx i n b=>(o.1 x i n b).1,A.bl,A.cn,A.dc,λx i n b=>(o.1 x i n b).2,o.2,λ_ _ _ h=>nomatch h⟩
    exact(BM (M.g (T k) k) M.P 30).1 _ _ gd false l.bd
end
noncomputable def BR (K:n3)(lx:Lx):Sp:=λb H Q _=>∃(a:Addr) (c:List Int),b = [.ref a]/\dF K H a (c.map V.int)/\c.length<=63/\(∀q∈lx.tb,H q.1=some (.cI q.2.1 q.2.2)) /\ ∀h,Q (.bl true) h
theorem uO {K:KW}{H:Hp}{h:Ix}:∀c:List Int,ao K H h (c.map D.int) (c.map V.int)
 | []=>by simp[ao]|n::c=>by simp only[wk,ao];exact⟨_,_,rfl,by simp[Rel],uO c⟩
def O_ {K:KW}(h:∀n:List Int,n.length<=63->∃p,u [.lst (n.map .int)] []=some (.bl true,p))(x:List V)(H:Hp)(Q:VK)(E:XK)(q:BR K.fr K.lx x H Q E):kU K 1 u x H Q E:=by
 obtain⟨a,n,rfl,c,l,k,f⟩:=q;obtain⟨p,s⟩:=h n l;refine⟨rfl,⟨[],[],λ_=>0⟩,[],[.lst (n.map .int)],.bl true,p,⟨RT,rfl,(λb o=>by cases o),(λi y z=>by simp at z),λq f=>⟨k q f,by simp⟩⟩,?_,s,λj fn v e G r=>?_⟩
 . simp only[ao]
   refine⟨_,_,rfl,?_,rfl⟩;simp only[Rel];refine⟨a,_,rfl,?_,uO n⟩;rcases c with c|c
   . exact .inl ⟨c,by simp,by simp⟩
   . exact .inr c
 . simp only[Rel]at r
   rw[r];exact f j
inductive bB (K:n3)(ts:List Addr):List cp->List Addr->List wq->List (Addr×Pos×Str)->Prop
 |nil:bB K ts [] [] [] []
 |cons {nm gn:Str} {ps N:List Str} {st:Stmt} {kp pu:Bool} {mt:List Str} {ds:List cp} {fs:List Addr} {fz:List wq} {tb:List (Addr×Pos×Str)} {f:Addr} {oc:Value} {od an:Option Addr} {sl:Array (Option Value)} {DK dc pm cd ct:Value}
  (a:Nf K tc gn=some (some (.ref f)))
  (l:K.lookup f=some ⟨oc,od,.func (Ie nm nm (gr st) (d9 st) (bb st) .none DK dc pm an cd ct),sl⟩)
  (e:aed K cd nm=true) (k:Oo K (.ref f)=true)
  (b:∀us:List Value,us.length=ps.length->WU (Ie nm nm (gr st) (d9 st) (bb st) .none DK dc pm an cd ct) ⟨us,[]⟩=pure (ps.zip us))
  (r:bB K ts ds fs fz tb):bB K ts (⟨nm,ps,N,st,kp,mt,pu,gn,none,none⟩::ds) (f::fs) (Ie nm nm (gr st) (d9 st) (bb st) .none DK dc pm an cd ct::fz) tb
 |maker {nm gn:Str} {ps N:List Str} {st:Stmt} {kp pu:Bool} {mt:List Str} {ds:List cp} {fs:List Addr} {fz:List wq} {tb:List (Addr×Pos×Str)} {f:Addr} {oc:Value} {od an:Option Addr} {sl:Array (Option Value)} {DK dc pm ct:Value} {cc:Addr} {P:Addr} {p:Pos} {x:Str} {vs:Array Value} {od2:Option Addr} {pQ:Array (Option Value)}
  (a:Nf K tc gn=some (some (.ref f)))
  (l:K.lookup f=some ⟨oc,od,.func (Ie nm nm (gr st) (d9 st) (bb st) .none DK dc pm an (.ref cc) ct),sl⟩)
  (e:aed K (.ref cc) nm=true) (k:Oo K (.ref f)=true)
  (h:K.lookup cc=some ⟨.type "code",od2,.fields vs,pQ⟩) (h11:vs[11]? = some (.ref P)) (hh:adN K cc P=true) (o:K.lookup P=none) (m:P∈ts)
  (b:∀us:List Value,us.length=ps.length->WU (Ie nm nm (gr st) (d9 st) (bb st) .none DK dc pm an (.ref cc) ct) ⟨us,[]⟩=pure (ps.zip us))
  (r:bB K ts ds fs fz tb):bB K ts (⟨nm,ps,N,st,kp,mt,pu,gn,none,some (p,x)⟩::ds) (f::fs) (Ie nm nm (gr st) (d9 st) (bb st) .none DK dc pm an (.ref cc) ct::fz) ((P,p,nm ++ ".<locals>." ++ "<lambda>")::tb)
 |lam {nm gn:Str} {ps N:List Str} {st:Stmt} {kp pu:Bool} {mt:List Str} {ds:List cp} {fs:List Addr} {fz:List wq} {tb:List (Addr×Pos×Str)} {ld:d_}
  (b:∀(cl:List (Str×Addr)) (pm dG fX:Value) (us:List Value),us.length=ld.ps.length->WU (agB "<lambda>" ld.qual ld.ar ld.bd ld.sc cl pm dG fX) ⟨us,[]⟩=pure (ld.ps.zip us))
  (r:bB K ts ds fs fz tb):bB K ts (⟨nm,ps,N,st,kp,mt,pu,gn,some ld,none⟩::ds) (0::fs) (default::fz) tb
section
variable {f0:Addr}{d0:wq}
theorem bB.all (X:t.In z)(G:z.Ns tc A){ds:List cp}{fs:List Addr}{u:List wq}{tb:List (Addr×Pos×Str)}(L:bB t U ds fs u tb):
  ∀j d,ds[j]? = some d->(d.ld=none->(yV t d.nm d.nm d.st (fs.getD j f0) (u.getD j d0)/\A d.gn=some (.ref (fs.getD j f0))/\HT t (u.getD j d0) d.ps []) /\ ∀h:List Value,h.length=d.ps.length->WU (u.getD j d0) ⟨h,[]⟩=pure (d.ps.zip h)) /\
   (∀p x,d.lam=some (p,x)->∃cc P,(u.getD j d0).code = .ref cc/\adN t cc P=true/\(P,p,d.nm ++ ".<locals>." ++ "<lambda>")∈tb) /\
   ∀l,d.ld=some l->∀(cl:List (Str×Addr)) (v y B:Value) (h:List Value),h.length=l.ps.length->WU (agB "<lambda>" l.qual l.ar l.bd l.sc cl v y B) ⟨h,[]⟩=pure (l.ps.zip h):=by
 induction L with
 |nil=>intro j d z;simp at z
 |cons a l e k b r n =>
  intro j d z;cases j with
  |zero=>cases z;exact⟨λ_=>⟨⟨CW l e k,afw X G a,.all b⟩,b⟩,λ_ _ K=>nn K,λ_ K=>nn K⟩|succ j=>exact n j d z
 |maker a l e k h1 _ h2 C E b r n =>
  intro j d z;cases j with
  |zero=>cases z;exact⟨λ_=>⟨⟨CW l e k,afw X G a,.all b⟩,b⟩,λp x K=>by cases K;exact⟨_,_,rfl,h2,rj⟩,λ_ K=>nn K⟩
  |succ j =>
   obtain⟨i,o,c⟩:=n j d z;refine⟨i,λp x K=>?_,c⟩;obtain⟨cc,P,q,f,s⟩:=o p x K;exact⟨cc,P,q,f,pP _ s⟩
 |lam b r n =>
  intro j d z;cases j with
  |zero=>cases z;exact⟨λK=>nn K.symm,λ_ _ K=>nn K,λl K=>by cases K;exact b⟩|succ j=>exact n j d z
end
def bB.out {ds:List cp}(L:bB t r ds U m M):∀q∈M,(∃c,adN t c q.1=true)/\t.lookup q.1=none/\q.1∈r:=by
 induction L with
 |nil=>intro q h;cases h|cons a l e k b fs i=>exact i|lam b fs i=>exact i
 |maker a l e k h1 _ h2 n p b fs i =>
  intro q h;cases h with
  |head=>exact⟨⟨_,h2⟩,n,p⟩|tail _ h=>exact i q h
def us0 (h:p []):∀c:List Value,c.length=0->p c
 | [],_=>h
def En (h:∀a c,c.length=i->p (a::c)):∀c:List Value,c.length=i+1->p c
 |a::c,e=>h a c (Nat.succ.inj e)
def jK (h:∀a,p [a]):∀c:List Value,c.length=1->p c:=En λa=>us0 (h a)
def oF (h:∀a b,p [a,b]):∀c:List Value,c.length=2->p c:=En λa=>jK (h a)
def oG (h:∀a b c,p [a,b,c]):∀i:List Value,i.length=3->p i:=En λa=>oF (h a)
def Pa (h:∀a b c d,p [a,b,c,d]):∀i:List Value,i.length=4->p i:=En λa=>oG (h a)
def Pb (h:∀a b c d e,p [a,b,c,d,e]):∀i:List Value,i.length=5->p i:=En λa=>Pa (h a)
structure IY (l:d_):Prop where
 kind:l.sc.kind = .function
 co:l.sc.isCoroutine=false
 gen:l.sc.isGenerator=false
 IL:∀y∈l.sc.names,y.2 ≠ .cell
 fr:∀x,l.sc.names.lookup x=some .free->x∈l.fv
 fv:∀x∈l.fv,l.sc.names.lookup x=some .free
 ps:∀x∈l.ps,l.sc.names.lookup x=some .local
 nd:(l.fv++l.ps).Nodup
def whole {l:YP}{K:n3}{B:Mo}{d:cp}(X:K.In z)(G:z.Ns tc A)(I:B.ds[i]? = some d)(J:d.ld=none)(E:d.ps = [x])(Q:d.gn = "law")(Y:A "law" = some (.ref f))(gd:O8 B T)(l0:∀e∈B.ds,∀l,e.ld=some l->IY l)(L:bB K r B.ds U m M)(Z:(M.map (·.1)).Nodup)(O:∀y∈B.k6,Nf K tc y=some none)(cn:∀y e,(y,e)∈B.xu->∃fa u,Nf K tc y=some (some u)/\lX fa u /\ ∀K H ι,Rel K H ι e fa)(R:∀y t,(y,t)∈B.xw->∃a,Nf K tc y=some (some (.ref a)) /\ ∀lx,i_ v ⟨K,v,A,lx⟩ a t)(C:∀n:List Int,n.length<=63->∃g',T o i [.lst (n.map .int)] []=some (.bl true,g')):
   ∃(fd:wq) (lx:Lx),TabsOk K r lx/\(∀(s:lO) (fa:Value),ahj s fd ⟨[fa],[]⟩ [(x,fa)]) /\ ∀base:Heap,K.In base->base.Ns tc A->eh l.prog v K A base iu o f fd [x] (BR K lx):=by
 have N:wo B ⟨K,v,A,⟨M,λx=>(lZ B.ds).lookup x⟩⟩ (λj=>U.getD j f) (λj=>m.getD j (m.getD 0 default)):=⟨λj d z b=>((L.all X G j d z).1 b).1,λj d z _ p x b=>(L.all X G (f0:=f) j d z).2.1 p x b,rfl,λj d l z b=>by
   have S:=l0 d (p7 z) l b;exact⟨S.kind,S.co,S.gen,S.IL,S.fr,S.fv,S.ps,S.nd,(L.all X G (f0:=f) (d0:=default) j d z).2.2 l b⟩,λy fs=>PySem.W.mg_none_of X G (O y fs),λy e hm=>by
   obtain⟨fa,u,k,h,mg⟩:=cn y e hm;exact⟨fa,u,afw X G k,h,mg⟩,λy t hm=>by
   obtain⟨a,k,h⟩:=R y t hm;exact⟨a,afw X G k,h _⟩⟩
 obtain⟨F,hm,w⟩:=N.fn i d I J;rw[Q]at hm;have e:U.getD i f=f:=by have:=hm.symm.trans Y;injection this with this;injection this
 refine⟨m.getD i (m.getD 0 default),⟨M,λx=>(lZ B.ds).lookup x⟩,⟨λq c=>(L.out q c).1,λq c=>(L.out q c).2.1,λq c=>(L.out q c).2.2,Z⟩,λs fa=>.of_eq ?_,λbase _ _=>?_⟩
 . have:=((L.all X G (f0:=f) (d0:=m.getD 0 default) i d I).1 J).2 [fa] (by rw[E];rfl)
   rw[this,E];rfl
 have ok:=(Em (P:=l.prog) (base:=base) gd N o).1 i d I J;dsimp only at ok;rw[e,E]at ok;exact eh.imp ok (O_ (K:=⟨K,v,A,⟨M,λx=>(lZ B.ds).lookup x⟩⟩) C)
end
section
open PySem.SeqAt PyProof.Rows PySem.W
section
variable {N:Nat}(hN:0<N)
include hN
end
end
section
open PyProof.Rows
variable {T:Nat->Nat->Fn}{Y:List cp}{v:Value}{M:Mo}
noncomputable def XC:m8:=⟨"len",bM,λ_ _=>.inl ⟨_,N4,PySem.boot_len⟩⟩
noncomputable def XD:m8:=⟨"int",qw,λ_ _=>.inr ⟨_,N6,boot_int⟩⟩
noncomputable def XE:m8:=⟨"tuple",gG,λ_ _=>.inr ⟨_,N7,boot_tuple⟩⟩
noncomputable def jU (c h:Fn):Fn:=λds g=>match ds with| [_,_]=>c ds g|_=>h ds g
def Eo {h:Fn}(e:dX X v (kS X.kw u))(c:dX X v (kS X.kw h)):dX X v (kS X.kw (jU u h)):=by
 intro i s n H x y Q I r q;obtain⟨B,g,ds,d,a,G0,b,q,p⟩:=q;unfold jU at q;split at q
 . exact e i s n H x y Q I r ⟨B,g,_,d,a,G0,b,q,p⟩
 . exact c i s n H x y Q I r ⟨B,g,_,d,a,G0,b,q,p⟩
noncomputable def SK:m8:=⟨"min",jU lC iA,λb a=>.inl ⟨_,Eo (N5 a) (KN b.hd),boot_min⟩⟩
noncomputable def SM:BI:=⟨"get",ja,jF,λa=>⟨_,_,OD a.units⟩⟩
noncomputable def isRef:D->Bool
 |.ref _=>true|_=>false
def Ha {p:Ix}{x:V}(I:lb X b y H s)(G0:aA X.kw H p r)(B:Rel X.kw H p c x)(i:lX x v)(h:isRef c=true):
  s.TypeIs v "list" /\ ∀a,v = .ref a->∃q,s.heap.get? a=some q/\q.dict=none:=by
 cases c with
 |ref n =>
  obtain⟨a,rfl,u⟩:=B;have e:n<r.length:=by rw[<- G0.len];exact(m5.mp u.1).1
  obtain⟨g,f,_⟩:=G0.at (mA e) u;exact CS I i (.inl ⟨rfl,g,.of f⟩)
 |_=>cases h
noncomputable def e_ (d:D)(ds:List D)(g:G):Option (D×G):=match d,ds with
 |.ref n,[x]=>(g[n]?).bind λc=>if aC (c.length+1)=true then some (.ay,g.set n (c ++ [x]))else none|_,_=>none
def Ep:MR X "list" "append" "list.append" isRef e_ where
 pa:=PySem.F.plainAttrs_list
 slot:=PySem.F.slot_list_append
 ty:=PySem.F.type_list_append
 is:=Ha
 run:=by
  intro a8 s σ H x xs v us Q I i rs q;obtain⟨ι,g,d,ds,r,l,G0,j,rl,f,q,p⟩:=q;cases d with
  |ref n =>
   match ds,q,rl with
   | [y],q,rl =>
    simp only[e_]at q;obtain⟨o,k,q⟩:=bind_some q;split at q
    . rename_i h
      cases q;obtain⟨a,rfl,b⟩:=j;obtain⟨w,_,rfl,c,rfl⟩:=rl;obtain⟨ws,hw,e⟩:=G0.at k b;refine ui a8 s σ H _ _ v us Q I i rs ⟨a,ws,w,rfl,rfl,hw,?_,?_⟩
      . have:=aC.le h;rw[<- e.length];omega
      . exact p _ ι _ (Ext.put b hw) (G0.put b hw (ao.append e (by simp only[ao];exact⟨_,_,rfl,c,rfl⟩))) (by simp[Rel])
    . cases q
   | [],q,_=>cases q|_::_::_,q,_=>cases q
  |_=>cases f
noncomputable def Hb:BI:=⟨"append",isRef,e_,λ_=>⟨_,_,Ep⟩⟩
noncomputable def Er (E:Expr->FE)(c:List Expr):FI:=match c with
 | [a]=>iz (aE E [a])| [a,b]=>UB (aE E [a,b])|_=>rT
noncomputable def Lm:vF where
 nm:="range"
 tup:=false
 f:=Er
 ok:=λj l hm h e c _=>by
  rename_i X k E i as p pos;unfold Er;split
  . rename_i a
    simp only[yc,ahc,aew]at c;exact R0 h hm (gA e _) (bL c)
  . rename_i a b
    simp only[yc,ahc,aew,F5]at c;exact R1 h hm (gA e _) (by rw[bL c.1,bL c.2];rfl) (bL c.2)
  . exact tL
noncomputable def Es (E:Expr->FE)(b:List Expr):FI:=match b with
 | [a]=>vy (E a)|_=>rT
noncomputable def Pe:vF where
 nm:="enumerate"
 tup:=true
 f:=Es
 ok:=λj l hm i e b h=>by
  rename_i X k E c as p pos;unfold Es;split
  . rename_i a
    simp only[yc,ahc,aew]at b;have:=h rfl;cases c with
    |Tuple elts kt tp=>exact KJ i hm (e a) (bL b)|_=>cases this
  . exact tL
noncomputable def SN:vF where
 nm:="zip"
 tup:=true
 f:=λE as=>rN (aE E as)
 ok:=λl o hm c j a b=>by
  rename_i X k E i as p pos;have:=b rfl;cases as with
  |nil=>exact .of (λa8 s σ H R I h=>by obtain⟨_,_,_,_,_,_,_,h,_⟩:=h;cases h)
  |cons e es =>
   rw[yc,F5]at a;cases i with
   |Tuple elts kt tp=>exact K5 c hm (gA j _) (bL a.1) (h_ a.2)|_=>cases this
noncomputable def I0:G0->Cs->(Expr->FE)->Expr->Option FT:=λ_ _ _ _=>none
noncomputable def Et (d:cp):Bool:=d.ld.isSome||(
 decide ((bb d.st).kind = .function) && !(bb d.st).isCoroutine && !(bb d.st).isGenerator&&uL d.N&&decide (d.N.take d.ps.length=d.ps) &&
 d.ps.all (λx=>(bb d.st).names.lookup x == some .local||(bb d.st).names.lookup x == some .cell)&&(bb d.st).names.all (λy=>!(y.2 == .free)))
noncomputable def zX (ds:List cp):Bool:=ds.all Et
def Eu (h:zX Y=true):∀d∈Y,d.ld=none->jW d.N d.ps (bb d.st):=λd hd f=>by have:=HL.mp h d hd;unfold Et at this;rw[f]at this;simp only[aha,Bool.false_or,l8,decide_eq_true_eq,wQ,HL,wt,beq_iff_eq]at this;obtain⟨⟨⟨⟨⟨⟨b,l⟩,j⟩,k⟩,a⟩,c⟩,o⟩:=this;exact⟨b,l,j,oE k,a,c,λy i e=>by have:=o y i;rw[e]at this;simp at this⟩
noncomputable def Pf (l:d_):Bool:=decide (l.sc.kind = .function) && !l.sc.isCoroutine && !l.sc.isGenerator&&l.sc.names.all (λy=>!(y.2 == .cell))&&l.sc.names.all (λy=>!(y.2 == .free)||l.fv.elem y.1) &&
 l.fv.all (λx=>l.sc.names.lookup x == some .free)&&l.ps.all (λx=>l.sc.names.lookup x == some .local)&&uL (l.fv++l.ps)
noncomputable def I_ (ds:List cp):Bool:=ds.all λd=>match d.ld with|some l=>Pf l|none=>true
def Ln (h:I_ Y=true):∀d∈Y,∀l,d.ld=some l->IY l:=λd hd l f=>by have:=HL.mp h d hd;rw[f]at this;simp only[Pf,l8,decide_eq_true_eq,wQ,HL,wt,beq_iff_eq]at this;obtain⟨⟨⟨⟨⟨⟨⟨b,r⟩,o⟩,q⟩,a⟩,c⟩,s⟩,i⟩:=this;exact⟨b,r,o,λy j e=>by have:=q y j;rw[e]at this;simp at this,λx k=>(a _ (yg k)).elim (λz=>by simp at z) λz=>Q2.mp z,c,s,oE i⟩
noncomputable def Pg (M:Mo):Bool:=M.ds.all (λd=>match M.se d with
 |some (_,_,l)=>decide (l.fv=mW l.sc)&&l.ar.defaults.isEmpty&&l.ar.kw_defaults.isEmpty&&decide (d.nm ++ ".<locals>." ++ "<lambda>" = l.qual)&&l.fv.all (λy=>(bb d.st).names.lookup y == some .cell)|none=>true)&&uL ((lZ M.ds).map (·.1))&&M.ds.all (λd=>d.ld.isSome || !((lZ M.ds).map (·.1)).elem d.gn)
def Lo (z:∀j ds g,T 0 j ds g=none)(r:∀k,xJ M (T k) (T (k+1)) k 0 M.ds)(u:zX M.ds=true)(s:Pg M=true):O8 M T:=by
 simp only[Pg,l8,HL]at s;obtain⟨⟨s,o⟩,q⟩:=s;refine⟨z,λk j d h=>by simpa using (r k).get h,Eu u,λd hd p x l i=>?_,oE o,λd hd i m=>?_⟩
 . have:=s d hd
   rw[i]at this;simp only[l8,decide_eq_true_eq,HL,beq_iff_eq,aeF]at this;obtain⟨⟨⟨⟨a,b⟩,c⟩,e⟩,f⟩:=this;exact⟨a,b,c,e,f⟩
 . have:=q d hd
   rw[i,Q2.mpr m]at this;simp at this
noncomputable def Ja:List Addr->Bool
 | []=>true|x::r=>!(r.elem x)&&Ja r
theorem Ew:∀{l:List Addr},Ja l=true->l.Nodup
 | [],_=>RT|x::r,h=>by simp only[Ja,l8,wQ]at h;exact Dx.mpr (And.intro (λz=>(by rw[Q2.mpr z]at h;exact absurd h.1 (by simp))) (Ew h.2))
def At (K:n3)(b:List Addr)(w:World)(mg:Str->Option Value)(M:Mo):Prop:=∃fs c tb,bB K b M.ds fs c tb/\Ja (tb.map (·.1))=true/\(∀y∈M.k6,Nf K tc y=some none) /\
 (∀y e,(y,e)∈M.xu->∃v u,Nf K tc y=some (some u)/\lX v u /\ ∀K H h,Rel K H h e v) /\
 (∀y t,(y,t)∈M.xw->∃a,Nf K tc y=some (some (.ref a)) /\ ∀lx,i_ w ⟨K,w,mg,lx⟩ a t)
def Lp {l:YP}{W:(Str->Option Value)->Heap->Prop}{H:World->Heap->Prop}{d:DefRec}{K:Params->n3}{R:Nat}{dt:cp}(S:l.most=some 63)(Q:dD R Uw)(J:d.params.defaults = [])(A:d.name = "law")(O:∀(w:World) (h:Heap),H w h->(K w.params).In h /\ ∀P∈U,h.get? P=some (Rh #[]))(F:∀(w:World) (mg:Str->Option Value) (h:Heap),(K w.params).In h->h.Ns tc mg->At (K w.params) U w mg M)(I:M.ds[i]? = some dt)(uP:dt.ld=none)(Y:dt.ps = [x])(N:dt.gn = "law")(gd:O8 M T)(X:I_ M.ds=true)(E:∀p:List Int,p.length<=63->∃g',T R i [.lst (p.map .int)] []=some (.bl true,g')):
  agQ q Z W H l.row.toRowW d [] (λf vs=>agF f vs):=
 J3 (n:=63) (k:=R) (x:=x) (CX:=λ_=>iu) (sp:=λw s=>BR (K w.params) s) S (by decide) J Q O
  (λw mg v h c G b=>by obtain⟨fs,y,tb,L,r,B,C,u⟩:=F w mg h c G;rw[A]at b;exact whole c G I uP Y N b gd (Ln X) L (Ew r) B C u E)
  (λ_ _ _ a p o e j=>⟨a,p,rfl,e,o,j,λ_=>rfl⟩) λ_ _ _ _ _ z=>z
section
variable {α β:Type}{P:α->Prop}{Q:α->β->Prop}
def bn:∀y∈([]:List α),P y:=λy h=>by simp at h
def bc {x:α}{l:List α}(h:P x)(r:∀y∈l,P y):∀y∈x::l,P y:=λy z=>by
 rcases nv.mp z with rfl|z
 . exact h
 . exact r y z
def Vn:∀y e,(y,e)∈([]:List (α×β))->Q y e:=λy e h=>by simp at h
def cc {x:α}{d:β}{l:List (α×β)}(h:Q x d)(r:∀y e,(y,e)∈l->Q y e):∀y e,(y,e)∈(x,d)::l->Q y e:=λy e z=>by
 rcases nv.mp z with z|z
 . cases z;exact h
 . exact r y e z
end
noncomputable def Hc (m:G0)(c:Cs)(x:Str):Option (List (Str×D)):=if iW x then none else if c.sc.names.lookup x=some .globalImplicit then m.xw.lookup x else none
def Lq {m:G0}{c:Cs}(g:Gd m c X){t:List (Str×D)}(h:Hc m c x=some t):(x == ("__debug__":Str))=false/\Gl X x /\ ∃a,X.mg x=some (.ref a)/\i_ X.w X.kw a t:=by
 unfold Hc at h;split at h
 . cases h
 . rename_i b
   split at h
   . rename_i e
     exact⟨(oA (by simpa using b)).1,g.gl e,g.dc x t (lookup_mem h)⟩
   . cases h
noncomputable def Vo:Expr->Option (Expr×Str×Pos)
 |.Attribute o x p=>some (o,x,p)|_=>none
noncomputable def one {b:Type}:List b->Option b
 | [a]=>some a|_=>none
def Pj {b:Type}{l:List b}{a:b}(h:one l=some a):l = [a]:=by
 cases l with
 |nil=>cases h
 |cons x l=>cases l with
  |nil=>cases h;rfl|cons=>cases h
def Pl (h:Vo e=some (K,x,a)):e = .Attribute K x a:=by
 cases e with
 |Attribute=>cases h;rfl|_=>exact nn h
noncomputable def Vp (e:Expr):Option (Str×Expr):=(sV e).bind λu=>(nV u.1).map λC=>(C,u.2)
def Pm (h:Vp e=some (x,K)):∃i p4,e = .Subscript (.Name x p4) K i:=by obtain⟨⟨o,f⟩,a,h⟩:=bind_some h;obtain⟨c,b,h⟩:=pM.mp h;cases h;obtain⟨i,rfl⟩:=BG a;obtain⟨p4,rfl⟩:=jT b;exact⟨i,p4,rfl⟩
noncomputable def Vq (e:Expr):Option (Expr×Str×Pos×Expr×Pos):=(Ea e).bind λq=>(Vo q.1).bind λr=>(one q.2.1).map λy=>(r.1,r.2.1,r.2.2,y,q.2.2)
def Pn {y:Expr}{pos:Pos}(h:Vq e=some (K,x,a,y,pos)):e = .Call (.Attribute K x a) [y] [] pos:=by obtain⟨⟨f,n,p⟩,o,h⟩:=bind_some h;obtain⟨⟨l,b,j⟩,c,h⟩:=bind_some h;obtain⟨k,i,h⟩:=pM.mp h;cases h;obtain rfl:=rY o;obtain rfl:=Pl c;obtain rfl:=Pj i;rfl
noncomputable def Vr (x:Expr):Option (Str×Expr×Str×Pos×Expr×Pos):=(Vq x).bind λq=>(Vp q.1).map λr=>(r.1,r.2,q.2)
def Po {y:Expr}{q:Str}{pos:Pos}(h:Vr e=some (x,K,q,a,y,pos)):∃n p4,e = .Call (.Attribute (.Subscript (.Name x p4) K n) q a) [y] [] pos:=by obtain⟨⟨o,b,c,i,pos'⟩,C,h⟩:=bind_some h;obtain⟨⟨f,j⟩,k,h⟩:=pM.mp h;cases h;obtain rfl:=Pn C;obtain⟨n,p4,rfl⟩:=Pm k;exact⟨n,p4,rfl⟩
noncomputable def SO:rZ where
 e:=λm c E _ x=>(Vr x).bind λq=>if !(q.2.2.1 == "index")||vE q.2.1||isStar q.2.2.2.2.1 || !(q.2.2.2.1.endLine == q.2.2.2.2.2.line)then none else(Hc m c q.1).map λt=>Br t (E q.2.1) (E q.2.2.2.2.1)
 Ec:=by
  intro m c X E g i v x f h;obtain⟨⟨C,k,nm,ap,y,pos⟩,v1,b⟩:=bind_some h;obtain⟨z,p4,rfl⟩:=Po v1;dsimp only at b;split at b
  . cases b
  . rename_i j
    simp only[wt,not_or,wQ,afG,Rj]at j;obtain⟨⟨⟨s1,s2⟩,s3⟩,s4⟩:=j;have s1:=eq_of_beq s1;subst s1;obtain⟨t,l,rfl⟩:=pM.mp b;obtain⟨r,o,a,s,u⟩:=Lq g l;refine KI u s (i _) (i _) o (zP s2) r (baseOk rfl) ?_ s4 (bL s3);rw[xB (by rw[yc,s3];rfl)];rfl
 t:=I0
 tok:=by intro m c X E g i x f h;cases h
end
section
def gL:entryFor table "dict.update.loop" = some tW.«dict.update.loop»:=entryFor_of_tree (by kernel_rfl)
def dI:plainId "dict.update.loop" = true:=by decide +kernel
def xK:typeLookup (.type "list") "keys" = pure none:=by rw[aeV,adB];kernel_rfl
def xM {A:og}{o:Obj}{p:Array Value}{Q:Option Value->lO->Prop}(H:s.heap.get? f=some o)(z:o.cls = .type "list")(B:o.data = .seq p i)(C:o.dict=none)(I:A.handled=none)(h:∀n J,(∀b O,s.heap.get? b=some O->n.get? b=some O)->Q none { s with heap:=n,toks:=J }):
  wpAny (model q v) A (getAttr? (.ref f) "keys") Q E s:=by
 obtain⟨c,y,R,l⟩:=o;simp only at z B C;subst z B C;obtain⟨k,g,d,J,os⟩:=s;have prog:∀a,(⟨k,g,d,a,os⟩:lO).TypeIs (.ref f) "list":=λ_=>⟨_,H,rfl⟩
 have U:=sub_AttributeError;have u:=F.slot_list_getattribute.lookup;have Y:=F.slot_list_getattribute.bind (.ref f);have x:=am_list_getattr_none;unfold getAttr? getAttrBy? getAttrBy;repeat (any_goals (first|assumption|exact prog _| ((with_reducible show wpAny _ _ (call (Value.builtin "list.__getattribute__") _ _) _ _ _);refine Q7 F.slot_list_getattribute (prog _) am_entry_list_getattribute (F.args_list_getattribute_2 _ _) (meets_getattribute_miss_list f p i l "keys" _ xK (by decide) (by size_fits)) ⟨H,I,λn a e j=>?_⟩)|wp_step))
 obtain⟨r,w,Z⟩:=j.there;show wpAny _ _ (getattributeRaised _ _ _ _ _ _ _) _ _ _;unfold getattributeRaised;repeat (any_goals (first|assumption|wp_step))
 exact h _ _ j.keeps
end
section
open PyProof.Rows SeqAt
noncomputable def BS:D->Option (D×D)
 |.tup [k,v]=>some (k,v)|_=>none
noncomputable def jg:List D->Option (List (D×D))
 | []=>some []|d::ds=>(BS d).bind λp=>(jg ds).map λr=>p::r
noncomputable def m9:Fn:=λds g=>match ds with
 | [.lst ps]=>(jg ps).bind λb=>(baz g.length b (g ++ [[]])).map λa=>(.bu g.length,a)|_=>none
theorem xN {A:og}{E:Value->lO->Prop}{P:lO->Prop}(hu:A.units+32<cLine)(hh:A.handled=none){a l C:Addr}{n:Nat}{B:List D}{vs:List V}:∀(R:List (D×D)) (i:Nat) {s:lO} {H:Hp} {J:Ix} {g Z:G},lb X b y H s->aA X.kw H J g->eG J n a true->nG X.kw H J l vs->ao X.kw H J B vs->jg (B.drop i)=some R->baz n R g=some Z ->
  s.heap.IsListIter C l i->fW X b H C ->
  (∀s' U,lb X b y U s'->Ext H J U J->aA X.kw U J Z->P s') ->
  HP (model X.prog X.w) A (.builtin "dict.update.loop" ⟨[.ref a,.ref C,.int i 0,.none],[]⟩) (wants (λr s₂=>r = .none/\P s₂) E) s
 | [],i,s,H,J,g,Z,I,G0,ha,hq,hr,h,f,O,hf,p=>by
  cases f;have hd:B.drop i = []:=by
    cases e:B.drop i with
    |nil=>rfl|cons x r=>rw[e]at h;simp only[jg]at h;obtain⟨_,_,h⟩:=bind_some h;obtain⟨_,_,h⟩:=pM.mp h;cases h
  obtain⟨aw,eK,pl,hz⟩:=I.list hq.sq;have hlen:aw.length<=i:=by rw[<- eK.length,<- hr.length];exact ac6.mp hd
  refine RR gL ?_;rw[VW dI _];show wpAny _ A.in1 (Dv (.ref C) >>= _) _ _ s;refine la (agt hh O pl.isList (by simp;omega) λh' hx=>?_);show wpAny _ A.in1 (Builtin.Dict.addKeywords a [] >>= _) _ _ _;exact la (lr (lr ⟨rfl,p _ H (I.turned (t':=s.toks) (λY o hb q=>hx Y o hb q) hf.1 hf.2.1 hf.2.2.2.1 hf.2.2.2.2.1 hf.2.2.2.2.2) Ext.refl G0⟩))
 | (k,v)::R,i,s,H,J,g,Z,I,G0,ha,hq,hr,h,f,O,hf,p=>by
  obtain⟨x,r,hd,Jb,ah⟩:∃x r,B.drop i=x::r/\BS x=some (k,v)/\jg r=some R:=by
    cases e:B.drop i with
    |nil=>rw[e]at h;simp[jg]at h
    |cons x r =>
      rw[e]at h;simp only[jg]at h;obtain⟨p0,h1,h⟩:=bind_some h;obtain⟨r0,h2,h⟩:=pM.mp h;cases h;exact⟨x,r,rfl,h1,h2⟩
  have hi:B[i]? = some x:=by have:=congrArg (λl=>l[0]?) hd;simpa using this
  have ai:B.drop (i+1)=r:=by have:=congrArg List.tail hd;simpa using this
  have hx:x = .tup [k,v]:=by
    unfold BS at Jb;split at Jb
    . cases Jb;rfl
    . cases Jb
  subst hx;obtain⟨aw,eK,pl,hz⟩:=I.list hq.sq;obtain⟨w,hw,aS⟩:=hr.get hi;obtain⟨u,aH,ru⟩:=eK.get hw;obtain⟨Y,us,rfl,ay,ag⟩:=aS;cases ru;obtain⟨kv,_,rfl,rk,vv,_,rfl,rv,rfl⟩:=ag;refine RR gL ?_;rw[VW dI _];show wpAny _ A.in1 (Dv (.ref C) >>= _) _ _ s;refine la (agf O pl.isList (by simpa using aH) λh' XF sb=>?_);have I1:lb X b y H { s with heap:=h' }:=I.turned (t':=s.toks) (λY o hb e=>sb.extBut Y o hb e) hf.1 hf.2.1 hf.2.2.2.1 hf.2.2.2.2.1 hf.2.2.2.2.2;obtain⟨mH,SQ,⟨o,h1,h2,m,h3⟩,_⟩:=I1.tuple ay.sq;obtain⟨ku,vu,rfl,OE,ae⟩:∃ku vu,mH = [ku,vu]/\lX kv ku/\lX vv vu:=by
    cases SQ with
    |cons a1 r1=>cases r1 with
      |cons a2 r2=>cases r2;exact⟨_,_,rfl,a1,a2⟩
  show wpAny _ A.in1 (Ct [.ref Y] _ >>= _) _ _ _;refine la (vn ?_);refine la (wpAny_tryCatch ?_);unfold Builtin.Dict.pairItems;refine la (U0 ⟨o,h1,h2⟩ ?_);rw[if_pos (by decide)];refine la (Vw h1 h3 (lr ?_));simp only[baz]at f;obtain⟨g1,j,f⟩:=bind_some f;simp only[kB]at j;obtain⟨xs,nK,j⟩:=bind_some j;split at j
  . rename_i hk
    simp only[l8]at hk;cases j;obtain⟨es,IA,c,Q,uF,iL,OB,ar,nd,sy,sz,rl⟩:=G0.zf nK ha;have en:=Ent.of OB ar rl;have ab:=aC.le hk.2;rw[zH en]at ab;refine vn ?_;refine uE I1 (by rw[in1_units];omega) Q iL sz en nd hk.1 rk OE rv ae λtk rh dJ e1 e2 e3 e0 e4 e5=>?_;refine lr ⟨Zt dI _,?_⟩;have x1:Ext H J (upd H a (dO a dJ c)) J:=Ext.put ha Q;have fQ:C≠a:=λz=>by rw[z]at hf;rw[hf.1]at Q;cases Q
    have:=xN (P:=P) hu hh R (i+1) (xi (tk:=tk) I1 Q e4 e5) (xj G0 ha uF Q e1 e2 sy e0 (by omega)) ha (hq.ext x1) (ao.ext x1 _ hr) (by rw[ai];exact ah) f (XF.at λo q=>by rw[e5.2 C fQ];exact q) ⟨by rw[aG fQ];exact hf.1,hf.2⟩ (E:=E) λs' U I' x' G'=>p s' U I' (x1.trans x') G';exact this
  . cases j
def Lr (B:dD i X.A):dX X (.type "dict") (kS X.kw m9):=by
 intro C s E H xs us Q I r q;obtain⟨n,g,ds,d,g',G0,r1,q,p⟩:=q;unfold m9 at q;split at q
 . rename_i ps
   obtain⟨qs,Oy,q⟩:=bind_some q;obtain⟨g2,f,q⟩:=pM.mp q;cases q;obtain⟨v,_,rfl,rv,rfl⟩:=r1;obtain⟨l,vs,rfl,hq,z⟩:=rv;obtain⟨u,rfl,ru⟩:=Wn r;cases ru;have hf:H s.heap.objs.size=none:=I.aY.fresh (mn _);have c:∀h:Heap,(h.push { cls:=.type "dict",data:=.dict #[] }).get? h.objs.size=some { cls:=.type "dict",data:=.dict #[] }:=λh=>pR _ rfl;have J:lb X C E (upd H s.heap.objs.size (dO s.heap.objs.size [] 0)) { s with heap:=s.heap.push { cls:=.type "dict",data:=.dict #[] } }:=I.laid (t':=s.toks) (λb u e=>nz _ e) (mn _) ⟨c _,⟨_,c _⟩,λy j q i=>i _ q⟩;have x:Ext H n (upd H s.heap.objs.size (dO s.heap.objs.size [] 0)) (n.more s.heap.objs.size 1):=Ext.i6 (b:=1) hf;have G1:aA X.kw (upd H s.heap.objs.size (dO s.heap.objs.size [] 0)) (n.more s.heap.objs.size 1) (g ++ [[]]):=G0.i6 hf (.d 0 [] [] (ro _) .nil .nil (by simp[cP]) (beq_eq_false_iff_ne.mpr (qP (p8 (big I)))) (ro _)) (by simp[ao]);have Jc:eG (n.more s.heap.objs.size 1) g.length s.heap.objs.size true:=eG.new G0.len;refine callType_codes (Q₁:=λobj s₁=>obj = .ref s.heap.objs.size/\s₁={ s with heap:=s.heap.push { cls:=.type "dict",data:=.dict #[] } }) F.kt_called_dict (F.kt_typeCall_dict_1 _) F.entry_dict_init (kt_code_dict_new _ ⟨rfl,rfl⟩) ?_;rintro obj s₁ ⟨rfl,rfl⟩;have O:aiW { s with heap:=s.heap.push { cls:=.type "dict",data:=.dict #[] } } (.ref s.heap.objs.size) "dict":=⟨_,c _,rfl⟩
   refine⟨O,F.args_dict_init_2 _ _,?_⟩;unfold tW.«dict.__init__»;refine la ?_;unfold Builtin.Dict.selfAndRest;refine la (agA O ?_);show wpAny _ _ (pure (s.heap.objs.size,[AJ l])) _ _ _;refine lr ?_;show wpAny _ _ (af7 "dict.__init__" s.heap.objs.size (.ref l) [] .none) _ _ _;unfold af7;have R:=hq.ext x;obtain⟨aw,eK,pl,hz⟩:=J.list R.sq;obtain⟨o,m,y,j,h3,h4⟩:=id pl;refine la (U0 ⟨o,y,j⟩ ?_);rw[if_pos (by decide)];refine la (xM (A:=X.A.in1.in1) y j h4 h3 (by simp[B.hd]) λU a Y=>?_);rw[if_pos (by rfl)];have k:lb X C E (upd H s.heap.objs.size (dO s.heap.objs.size [] 0)) { s with heap:=U,toks:=a }:=J.kept (t':=a) Y;refine la (yo (la (ael (pl.keeps Y).isList ?_)));have I3:lb X C E (upd H s.heap.objs.size (dO s.heap.objs.size [] 0)) { s with heap:=U.push { cls:=.type "list_iterator",data:=.fields #[.ref l,.int 0 0] },toks:=a }:=k.kept (t':=a) λb u e=>nz _ e;refine lr ⟨Zt dI _,?_⟩;refine xN (A:=X.A.in1) (by rw[in1_units];have:=B.units;omega) (by simp[B.hd]) qs 0 I3 G1 Jc R (ao.ext x _ z) Oy f ⟨_,pR _ rfl,rfl,rfl⟩ (k.nT (mn _) (k.aY.fresh (mn _))) λs' Z I' x' G'=>?_;refine⟨.ref s.heap.objs.size,Z,I',rfl,p Z _ _ (x.trans x') G' ?_⟩;simp only[Rel];exact⟨_,rfl,Jc⟩
 . cases q
end
section
noncomputable def rl (x:Nat):Nat:=(x*2147483648) % 18446744073709551616+x / 8589934592
noncomputable def gx (w:Nat):Nat:=let y:=((w+18446744073709551616-2870177450013471924) % 18446744073709551616)*614540362697595703 % 18446744073709551616;y % 2147483648*8589934592+y / 2147483648
noncomputable def out (w:Nat):Int:=if(w == 18446744073709551616-1)=true then 1546275796 else if w<9223372036854775808 then(w:Int)else(w:Int)-18446744073709551616
end
set_option maxRecDepth 10000
section
def el (a b:Int):[a,b].length=2:=rfl
def ec:((18446744073709551616:Nat):Int)=18446744073709551616:=rfl
end
section
open PyProof.Rows
noncomputable def ff (R:Str->Option Fn)(i:Nat)(fr:FA):FE:=λc g=>match c[i]? with
 |some (some (.fn y ds))=>(R y).bind λfn=>(fr c g).bind λq=>fn (ds++q.1) q.2|_=>none
def Ey {R:Str->Option Fn}{fr:FA}{y:Str}{fn:Fn}(h:k[i]? = some (some (.fn y [])))(a:R y=some fn):ff R i fr k r=(fr k r).bind λq=>fn q.1 q.2:=by unfold ff;rw[h];simp[a]
noncomputable def Je:m8:=⟨"dict",m9,λa _=>.inr ⟨_,Lr a,boot_dict⟩⟩
noncomputable def Vs (m:G0):Str->Option Fn:=λy=>match m.fns.lookup y with
 |some q=>some (m.T q.1)|none=>(m.OW.lookup y).map λi=>cY (m.T i)
noncomputable def Pq:rZ where
 e:=λm c E _ x=>match x with
  |.Call (.Name y _) (a::as) [] _=>if iW y||(a::as).any isStar || !(vH (c.sc.names.lookup y))then none else(iC c.N y).map λi=>ff (Vs m) i (aE E (a::as))|_=>none
 Ec:=by
  intro m c X E g hE rf x f h;split at h
  . rename_i y p a as pos
    split at h
    . cases h
    . rename_i hh
      simp only[wt,not_or,Rj,wQ,afG]at hh;obtain⟨⟨h1,h2⟩,h3⟩:=hh;obtain⟨i,hi,rfl⟩:=pM.mp h;obtain⟨o1,o2,_⟩:=oA h1;rw[yc,F5]at h2;have hN:X.N[i]? = some y:=by rw[g.hN];exact eA hi
      have hv:Cr X.env.scope y:=by
        rw[g.hs];unfold vH at h3;split at h3
        . rename_i e;exact .inl e
        . rename_i e;exact .inr (.inl e)
        . rename_i e;exact .inr (.inr e)
        . cases h3
      refine .of (λa8 s σ H Q I k=>?_);obtain⟨ι,σd,g0,d,g',G0,S0,k,pp⟩:=k;unfold ff at k;split at k
      . rename_i z dz hz
        obtain⟨fn,t7,k⟩:=bind_some k;obtain⟨v,hσ,rv⟩:=S0.2 i _ hz;obtain⟨fa,gK,rfl,hV,rc⟩:=rv;obtain⟨mm,hn,OU⟩:=I.loc;obtain⟨u,r,l⟩:=OU i y _ hN hσ hv;cases r;have load:∀{Q:Value->lO->Prop} {E:Value->lO->Prop},Q (.ref fa) s->wpAny (model X.prog X.w) X.A (eval (.Name y p) X.env) Q E s:=λfin=>by
          rcases l with⟨hk,hm⟩|⟨hk,c,hc,gq⟩
          . exact ZW (aeP I.ok.kind hk hn hm fin) o1
          . rcases hk with hk|hk
            . exact ZW (ae0 I.ok.kind hk hc gq fin) o1
            . exact ZW (agT I.ok.kind hk hc gq fin o2) o1
        unfold Vs at t7;split at t7
        . rename_i jn hl
          obtain⟨j,n⟩:=jn;cases t7;obtain⟨ae,fd,ps,ok,hm,kp,b,ln⟩:=g.fn z j n (lookup_mem hl);rcases hV with⟨rfl,_,lL⟩|⟨l',_,_,_,_,o,_⟩
          . have e:dz = []:=by
              have:=rc.length;exact acL.mp (by simpa using this)
            subst e;have lL:X.mg z=some (.ref fa):=lL;rw[hm]at lL;cases lL;have q2:vk (kU X.kw n (m.T j)) [] E0 (iy X.kw (aE E (a::as))) σ H Q:=qr ln ⟨ι,σd,g0,d,g',G0,S0,k,pp⟩;refine P4 (load ?_);refine afh (h₀:=X.base) I.ok.mod.lG kp (bf ((gA hE (a::as)).un pos a8 s σ H _ I q2) λus s1 ⟨vs,H1,I1,r,q⟩=>⟨I1.nB,?_⟩) (bL h2.1) (h_ h2.2);exact v_ ok g.rm b .nil A9 I1 r q
          . have o:X.lx.lm z=some l':=o
            rw[g.lf z j n (lookup_mem hl)]at o;cases o
        . obtain⟨j,hl,rfl⟩:=pM.mp t7
          obtain⟨⟨l0,ab⟩,ok⟩:=g.ll z j (lookup_mem hl);obtain⟨⟨es,g1⟩,h4,h5⟩:=bind_some k;rcases hV with⟨_,o,_⟩|C
          . have o:X.lx.lm z=none:=o
            rw[ab]at o;cases o
          . have uQ:∀{s':lO} {H':Hp} {σ':lU},lb X a8 σ' H' s'->∀{ι':Ix} {IA:List V},C6 X.kw H' ι' z fa IA->PySem.W.FnAt fa s'.heap:=fun {s' H' σ'} I' {ι' IA} C'=>by
              obtain⟨_,_,_,_,_,_,hf,_⟩:=C';exact⟨_,_,_,_,(I'.aY fa _ hf.1).1⟩
            refine P4 (load ?_);refine PySem.W.callWith_F (uQ I C) (bf ((gA hE (a::as)).un pos a8 s σ H (λvs H1=>∃ι1,Ext H ι H1 ι1/\aA X.kw H1 ι1 g1/\ao X.kw H1 ι1 es vs) I ⟨ι,σd,g0,es,g1,G0,S0,h4,λH1 ι1 vs e1 G1 r1=>⟨ι1,e1,G1,r1⟩⟩) λus s1 aS=>?_) (bL h2.1) (h_ h2.2);obtain⟨vs,H1,I1,r,ι1,e1,G1,r1⟩:=aS;have C1:C6 X.kw H1 ι1 z fa gK:=by obtain⟨l,c,fX,pm,cl,q1,q2,q3,q4,q5,q6⟩:=C;exact⟨l,c,fX,pm,cl,q1,q2.ext e1,q3.ext e1,q4,q5,q6.mono λc u z q=>q.ext e1⟩
            refine⟨uQ I1 C1,agC (Wg (ok.run X.A X.stack s1 H1 ι1 fa gK vs us Q dz es d g1 g' g.rm I1.FN C1 r G1 (ao.ext e1 _ rc) r1 h5 (pp.mono e1)) λrr s' k=>?_)⟩;cases rr with
            |error e=>exact k.elim
            |ok fl =>
              cases fl with
              |ret u=>exact I1.after k|next=>exact zi k|brk=>exact zi k|cont=>exact zi k
      . cases k
  . cases h
 t:=I0
 tok:=by intro m c X E g hE x f h;cases h
noncomputable def dr (d:D)(g:G):D:=match d with
 |.ref n=>(match g[n]? with|some c=>.lst c|none=>.ref n)
 |d=>d
end
namespace PyProof.Rows
variable {Z:Array Value}
def He {out:Array Value}(h:z.get? f=some (Qj "list" Y.toArray i)):∃c,(agL z f Y out).get? f=some (Qj "list" out c):=by unfold agL;have a:f<z.objs.size:=nC h;have b:=get?_update_seq h (λ_=>#[]);have e:=nz (Qj "list" #[] 0) (nz (Qj "tuple" Y.toArray 0) b);exact⟨_,get?_update_seq e (λ_=>out)⟩
def Ez {b:Addr}{o:Obj}(c:b≠f)(e:z.get? b=some o):(agL z f Y Z).get? b=some o:=by unfold agL;rw[Zk _ _ c.symm];exact nz _ (nz _ ((Zk _ _ c.symm).trans e))
def EA {x:Value}{ns:List Int}(z:ns.length<64)(B:∀(H:og) (J:Value->lO->Prop) (I:List Value->lO->Prop),H.handled=T.handled->(∀(n:Heap) (C:Nat) (p:List Value),(∀b o,s.heap.get? b=some o->n.get? b=some o)->s.heap.objs.size<=n.objs.size->zY p ns->I p { s with heap:=n,toks:=C })->wpAny (model q v) H (collect x) I J s)(h:∀(n:Heap) (C L c:Nat) (out:Array Value),(∀b o,s.heap.get? b=some o->n.get? b=some o)->s.heap.objs.size<=L->n.get? L=some (Qj "list" out c)->zY out.toList (Qi ns)->Q (.ref L) { s with heap:=n,toks:=C }):
  wpAny (model q v) T (call (.builtin "sorted") [x]) Q E s:=by
 refine Calls.call_function_entry kind_sorted plain_sorted entry_sorted (args_sorted1 _) ?_;unfold tW.«sorted»;refine la (m:=checkCount "sorted" 1 1 _) (lr ?_);refine la (B _ _ _ rfl λf y p r l i=>?_);have k:p.length<64:=by rw[i.length];exact z
 refine la (wpAny_newList ?_ (by rw[HX];omega));have a:(f.push (Qj "list" p.toArray 0)).get? f.objs.size=some (Qj "list" p.toArray 0):=pR _ rfl;refine la (vn (zy slot_list_sort ⟨_,a,rfl⟩ entry_list_sort (list_sort_tree a i k λout u O R prog=>⟨_,rfl,?_⟩) (args_list_sort _)));have e:=af4 R prog;subst e;obtain⟨c,B⟩:=He (out:=out) a;refine lr ⟨_,rfl,h _ _ f.objs.size c out (λb o w=>?_) l B O⟩;have j:=r b o w;exact Ez (p8 (nC j)) (nz _ j)
end PyProof.Rows
section
open PyProof.Rows
variable {Z:Bool}{Y:T6}{R:D}
def iS.at {i:Heap}(h:iS z f Z J)(k:∀o,z.get? f=some o->i.get? f=some o):iS i f Z J:=by obtain⟨c,b,P,l,e,r⟩:=h;exact⟨c,b,P,l,k _ e,r⟩
noncomputable def bY (val:Nat->Int):Nat->List Int
 | 0=>[]|i+1=>j9 (bY val i) (val i)
theorem si (val:Nat->Int){i:Nat}:∀{n:Nat},i<=n->(bY val i).length<=(bY val n).length
 | 0,h=>by
  have:i=0:=by omega
  subst this;exact mn _
 |n+1,h=>by
  by_cases e:i=n+1
  . subst e;exact mn _
  . refine pe (si val (n:=n) (by omega)) ?_
    show _<=(j9 _ _).length;unfold j9;split<;>simp
def EB {R:Result->lO->Prop}{J:List Addr}{G:Array afT->Array afT->Prop}{P:Nat->Value->Prop}{St:Nat->lO->Prop}(W:WalksS q v T.in1 f U J G o P St)(S:Addr)(B:S ∉ U)(p:Bool)(val:Nat->Int)(E:∀i w,P i w->∃t,w = .int (val i) t)(H:(bY val o).length<=4)(C:∀i,i<o->0<=val i/\val i<=7):
  ∀(k i:Nat) (s:lO),o-i=k->i<=o->St i s->iS s.heap S p (bY val i) ->
    (∀n,Moved (S::J) G s n->iS n.heap S p (bY val o)->R (.ok (.ret .none)) n) ->
    HP (model q v) T (.builtin "set.update.loop" ⟨[.ref S,.ref f],[]⟩) R s:=by
 have u:S ∉ J:=λh=>B (W.sub _ h);have r:∀b∈J,b∈S::J:=λb a=>pP _ a;intro k;induction k with
 |zero =>
  intro i s O hi j prog l;have y:i=o:=by omega
  subst y;refine RR F.entry_set_update_loop ?_;rw[VW F.plain_set_update_loop _];show wpAny _ T.in1 (Dv (.ref f) >>= _) _ _ s;refine la (W.done s _ _ j λn hm=>?_);exact lr (l n (hm.mono r) (prog.at λA e=>hm.heap S _ u e))
 |succ k Q =>
  intro i s O hi j prog l;have c:i<o:=by omega
  refine RR F.entry_set_update_loop ?_;rw[VW F.plain_set_update_loop _];show wpAny _ T.in1 (Dv (.ref f) >>= _) _ _ s;refine la (W.item i s _ _ c j λw n x Y hm=>?_);obtain⟨t,rfl⟩:=E i w x;have y_:iS n.heap S p (bY val i):=prog.at λA e=>hm.heap S _ u e;show wpAny _ T.in1 (Ct [afd (val i) t] (setAdd S (.int (val i) t)) >>= _) _ _ n;refine la (vn ?_);unfold setAdd;refine vn ?_;refine la ((HV q v).pyHash (k:=val i) (intKind_is _ _ _ _) ?_);have z:(bY val i).length<=3\/val i∈bY val i:=by
    by_cases hm:val i∈bY val i
    . exact .inr hm
    . have h1:=si val (i:=i+1) c
      have h2:(bY val (i+1)).length=(bY val i).length+1:=by show(j9 _ _).length=_;unfold j9;rw[if_neg hm];simp
      exact .inl (by omega)
  refine J9 (s:={ n with toks:=n.toks+1 }) y_ z (C i c) λb h' I Z=>?_;refine lr ⟨Zt F.plain_set_update_loop _,Q (i+1) _ (by omega) c (W.frame _ n _ _ Y (agm _) λb a A e=>?_) Z λwa XH XI=>?_⟩
  . rw[I.2 b (λh:b=S=>B (by rw[<- h];exact a))];exact e
  . refine l wa (Moved.trans W.gtrans ((hm.mono r).then_heap (agm _) λb A a e=>?_) XH) XI
    rw[I.2 b (λh:b=S=>a (by rw[h];exact rj))];exact e
def XJ (e:z.get? f=some (emp Z)):iS z f Z []:=
 ⟨#[],0,tb [] Z,[],e,⟨rfl,rfl,rfl,aho,by intro j b;simp[tb]at b,rfl,by decide⟩,rfl,aij _,rfl,by intro j b;simp[tb]at b⟩
def XM {prog:te}(B:iS s.heap f (!v.params.followText "set-order") J):∃n C t H ok E,s.heap.get? f=some (iI n C t)/\Way prog v f n C t H ok/\(v.params.followText "set-order" = true\/t.plain=true)/\n.size<=18/\zY H E/\E.Perm J:=by
 obtain⟨n,C,t,l,u,T,q,hp,x,_⟩:=B;have hf:t.fits n.size=true:=T.fits;have o:n.size<=18:=pe T.n4 (by decide)
 have r:(n.toList.map (·.2)).Perm (l.map λp=>(n8 p).2):=by
  have:=hp.map (·.2)
  rwa[u6]at this
 have Q:∀l:List (Int×Nat),zY (l.map λp=>(n8 p).2) (l.map (·.1)):=by
  intro l;induction l with
  |nil=>exact .nil|cons p l R=>exact .cons _ _ R
 cases hb:v.params.followText "set-order" with
 |true =>
  obtain⟨E,I,c⟩:=ux (((um (v.params.setOrder f C) n).map (·.2)).trans r) (Q l)
  exact⟨n,C,t,_,_,E,u,WX hf hb,.inl rfl,o,I,by rw[<- x];exact c⟩
 |false =>
  rw[hb]at q;obtain⟨E,I,c⟩:=ux r (Q l);have k:=T.ri;have z:∀i j,t.place[i]? = some j->p6 t.place (j+1)=i+1:=by
   intro i j e;obtain⟨hi,e⟩:=ac2.mp e;obtain⟨U,O,a⟩:=mL k (j+1);have I:¬p6 t.place (j+1)<=i:=λh=>by have:=a i hi h;omega
   have c:¬i+1<p6 t.place (j+1):=λh=>by
    have b:i+1<t.place.size:=by omega
    have q1:=O (i+1) b h;have Y:=qS k b (adj i);omega
   omega
  have y:p6 t.place 0=0:=by
   obtain⟨U,O,a⟩:=mL k 0;refine ac5 λh=>?_;have b:0<t.place.size:=by omega
   have:=O 0 b (by omega);omega
  exact⟨n,C,t,_,_,E,u,WY hf hb q T.pl T.sz y z,.inr T.pl,o,I,by rw[<- x];exact c⟩
def yL {prog:te}(hh:T.handled=none)(B:iS s.heap f (!v.params.followText "set-order") J)(h:∀(p:Heap) (C L c:Nat) (out:Array Value),(∀b o,s.heap.get? b=some o->p.get? b=some o)->s.heap.objs.size<=L->p.get? L=some (Qj "list" out c)->zY out.toList (Qi J)->Q (.ref L) { s with heap:=p,toks:=C }):
  wpAny (model prog v) T (call (.builtin "sorted") [.ref f]) Q E s:=by
 obtain⟨j,z,t,H,ok,n,u,W,hd,O,i,y⟩:=XM (prog:=prog) B;have q:Qi n=Qi J:=by refine af4 ((ad9 n).trans y) ?_;exact PySem.W.sortI_rises n
 have e:j.size<=mK:=by rw[HX];omega
 refine EA (ns:=n) (by rw[<- i.length,W.len];omega) (λR U Y a k=>?_) (by rw[q];exact h);exact yG W (by rw[a];exact hh) u hd e λx l r I=>k x l _ I (RI r) i
section
set_option maxHeartbeats 3200000 in
def baD {items:Array Value}{val:Nat->Int}(hh:T.handled=none)(I:s.heap.IsList f items)(H:∀(i:Nat) (prog:Value),items[i]? = some prog->∃t,prog=afd (val i) t)(B:(bY val items.size).length<=4)(C:∀i,i<items.size->0<=val i/\val i<=7)(h:∀(p:Heap) (J:Nat),iS p s.heap.objs.size (!v.params.followText "set-order") (bY val items.size)->(∀b o,b<s.heap.objs.size->s.heap.get? b=some o->p.get? b=some o)->Q (.ref s.heap.objs.size) { s with heap:=p,toks:=J }):
  wpAny (model q v) T (call (.type "set") [.ref f]) Q E s:=by
 generalize sQ:(!v.params.followText "set-order")=n at *;obtain⟨c,tl,ae⟩:=F.called_set.mro;have ag:=F.called_set.made;have Bb:=F.called_set.sub;refine agC (codeAny_of_tree ?_);show wpAny _ _ (callAny (.type "set") _) _ _ _;refine lr ⟨Code.quiet_builtin _ (by decide +kernel),RR F.entry_type_call ?_⟩;rw[Around.under_plain (weight_type_call_type "set" [.ref f] []) rfl];have h1:=F.called_set.notType;have h2:=F.called_set.canCreate;have ai:=F.typeCall_set_1 (.ref f);repeat (any_goals (first|assumption|wp_step))
 refine Wg (J_ (.ref f) (E:=E) (Q₁:=λobj y=>obj = .ref s.heap.objs.size/\y={ s with heap:=s.heap.push (emp n) }) ⟨rfl,by rw[sQ]⟩) λr y l=>?_;cases r with
 |error e=>exact l
 |ok fl =>
  cases fl with
  |ret obj =>
   obtain⟨rfl,rfl⟩:=l;have w:(s.heap.push (emp n)).get? s.heap.objs.size=some (emp n):=pR _ rfl;have hT:aiW { s with heap:=s.heap.push (emp n) } (.ref s.heap.objs.size) "set":=⟨_,w,rfl⟩
   have ab:=F.called_set.init.lookup;have aH:=F.called_set.init.bind (.ref s.heap.objs.size);repeat (any_goals (first|assumption|wp_step))
   refine Wg (codeAny_call_builtin (R:=wants (λr x=>r = .none /\ ∃p J,x={ s with heap:=p,toks:=J }/\iS p s.heap.objs.size n (bY val items.size) /\
      (∀b o,b<s.heap.objs.size->s.heap.get? b=some o->p.get? b=some o)) E) F.called_set.init.plain F.entry_set_init (check_set_init_1 hT ?_)) λr₂ x a=>?_
   . obtain⟨ol,z,O,U,u⟩:=I
     obtain⟨ah,SR,aw,Pt⟩:=ol;simp only at O u;subst O;subst u;have XO:(s.heap.push (emp n)).get? f=some { cls:=.type "list",dict:=SR,data:=.seq items U,slots:=Pt }:=nz _ z;have ar:=F.sub_list_set;have ay:=F.sub_list_frozenset;have fQ:(tO "list" == tO "dict")=false:=by decide
     have Y:(s.heap.push (emp n)).IsList f items:=⟨_,XO,rfl,U,rfl⟩
     unfold tW.«set.__init__» noKeywords aiq;generalize k:SJ=PI
     wp_walk
     subst k;refine ael Y ?_;refine la (wpAny_runValue ?_);have Z:f<s.heap.objs.size:=nC z;have j:T.in1.in1.in1.handled=none:=by simp[hh]
     have XQ:f≠(s.heap.push (emp n)).objs.size:=by rw[H9];exact p8 (Nb Z)
     have y9:s.heap.objs.size ∉ [(s.heap.push (emp n)).objs.size,f]:=by rw[H9];simp only[nv,afk,Ex,or_false,not_or];exact⟨p8 (adj _),aeR Z⟩
     refine EB ((Walks.list j _ f XQ items).toS) s.heap.objs.size y9 n val H B C (items.size-0) 0 _ (by omega) (ro _) ⟨⟨_,pR _ rfl,rfl,rfl⟩,(Y.push _)⟩ ?hS0 ?hR
     case hS0=>exact XJ (nz _ w)
     case hR =>
      intro s' hm y_;obtain⟨p,g',d',uq,CL⟩:=s';have eg:g'=s.gens:=hm.gens;have ed:d'=s.drawn:=hm.drawn;have eo:CL=s.os:=hm.os;subst eg;subst ed;subst eo;show wpAny _ _ _ _ _ _;refine lr ?_;show wpAny _ _ (ret zb) _ _ _;have ht:∀b o,b<s.heap.objs.size->s.heap.get? b=some o->p.get? b=some o:=λb o B e=>by
       have q1:b≠s.heap.objs.size:=p8 B;have q2:b≠(s.heap.push (emp n)).objs.size:=by rw[H9];exact p8 (Nb B)
       exact hm.heap b o (by simp only[nv,Ex,or_false,not_or];exact⟨q1,q2⟩) (nz _ (nz _ e))
      exact lr ⟨rfl,p,uq,rfl,y_,ht⟩
   . cases r₂ with
     |error e=>exact a
     |ok fl₂ =>
      cases fl₂ with
      |ret r =>
       obtain⟨rfl,p,J,rfl,Jd,wU⟩:=a;repeat (any_goals (first|assumption|wp_step))
       exact h _ _ Jd wU
      |_=>exact a.elim
  |_=>exact l.elim
end
noncomputable def qD (a:FE):FE:=λh g=>(a h g).bind λr=>(i8 r.1 r.2).bind λn=>(fE n).bind λc=>if decide ((bY (λi=>c.getD i 0) c.length).length<=4 /\ ∀i,i<c.length->0<=c.getD i 0/\c.getD i 0<=7)=true then some (.lst ((Qi (bY (λi=>c.getD i 0) c.length)).map .int),r.2)else none
def Pu {U M B:Pos}(hh:X.A.handled=none)(K:X.mg "sorted" = none)(E:X.mg "set" = none)(S:DE X e C)(J:Gl X "sorted")(T:Gl X "set")(N:m2 [Expr.Call (.Name "set" U) [e] [] B] X.env=(false,eval (.Call (.Name "set" U) [e] [] B) X.env)::m2 [] X.env)(P:m2 [e] X.env=(false,eval e X.env)::m2 [] X.env):
   DE X (.Call (.Name "sorted" a) [.Call (.Name "set" U) [e] [] B] [] M) (qD C):=.of (by
 intro a8 s σ H Q I h;obtain⟨ι,σd,g,d,g',G0,S0,h,p⟩:=h;obtain⟨⟨d1,g1⟩,h1,h⟩:=bind_some h;obtain⟨xs,hx,h⟩:=bind_some h;obtain⟨n,hn,h⟩:=bind_some h;dsimp only at hx h;split at h
 . rename_i k
   cases h;rw[decide_eq_true_eq]at k;obtain⟨k,h7⟩:=k;have arg:=(lI S.un nW P) B a8 s σ H (λvs R=>∃j O Y,vs = [.ref O]/\dF X.kw R O Y/\ao X.kw R j xs Y/\Ext H ι R j/\aA X.kw R j g') I (tD.bind G0 S0 h1 λR j v Z f S1 r1=>by obtain⟨O,Y,rfl,y,z⟩:=mQ f r1 hx;exact⟨j,O,Y,rfl,y,z,Z,f⟩)
   refine P4 (jh I J K (u:=.builtin "sorted") rfl ?_ (by decide) (by decide));refine aeT ?_ N rfl;rw[N];show wpAny _ _ (spliced ((false,eval (.Call (.Name "set" U) [e] [] B) X.env)::tT M (m2 [] X.env))) _ _ s;refine afg ?_;refine P4 (jh I T E (u:=.type "set") rfl ?_ (by decide) (by decide));refine ZP (bf arg λjK s1 q1=>?_) P rfl;obtain⟨vs,R,x,rv,j,O,Y,rfl,y,z,Z,f⟩:=q1;obtain⟨u,rfl,ru⟩:=rv.one;cases ru;obtain⟨l,eK,pl,hz⟩:=x.list y;have hA:=oo hn z eK;have ab:l.length=n.length:=by obtain⟨ps,rfl,rfl⟩:=mS hA;simp
   have jH:l.toArray.size=n.length:=by rw[ox];exact ab
   refine baD (items:=l.toArray) (val:=λi=>n.getD i 0) hh pl.isList (λi v hv=>aix (by simpa using hA:zY l.toArray.toList n) i v (by rw[adC];exact hv)) (by rw[jH];exact k) (by rw[jH];exact h7) λh2 Vz uo k2=>?_;rw[jH]at uo;refine ahm ?_;have kk:∀b o,s1.heap.get? b=some o->h2.get? b=some o:=λb o q=>k2 b o (nC q) q;have I2:lb X a8 σ R { s1 with heap:=h2,toks:=Vz }:=x.kept kk;refine yL (s:={ s1 with heap:=h2,toks:=Vz }) hh uo λh3 ae L c out k3 hL hc hO=>?_;have OH:s1.heap.objs.size<=L:=by obtain⟨_,_,_,_,ha,_⟩:=uo;exact pe (RI (nC ha)) hL
   have r:=x.aY.fresh OH;have Ur:((Qi (bY (λi=>n.getD i 0) n.length)).map V.int).length<=mK:=by rw[n7,(ad9 _).length_eq];exact pe k (by decide)
   refine⟨.ref L,_,x.laid (t':=ae) (λb o q=>k3 b o (kk b o q)) OH (show eC X.prog X.w _ _ _ (.lst ((Qi (bY (λi=>n.getD i 0) n.length)).map V.int)) from⟨Ur,out.toList,c,baR hO,by simpa[Qj]using hc⟩),rfl,p _ _ _ (Z.trans (Ext.lay r)) (f.lay r) ?_⟩;simp only[Rel];exact⟨_,_,rfl,.inl ⟨.inl aT,f.fresh r,f.iw r⟩,rF _⟩
 . cases h)
@[simp] def zZ:qD C k r=(C k r).bind λa=>(i8 a.1 a.2).bind λh=>(fE h).bind λc=>if decide ((bY (λi=>c.getD i 0) c.length).length<=4 /\ ∀i,i<c.length->0<=c.getD i 0/\c.getD i 0<=7)=true then some (.lst ((Qi (bY (λi=>c.getD i 0) c.length)).map .int),a.2)else none:=rfl
noncomputable def vK (x:Expr):Option (Str×Expr):=match x with
 |.Call f c h _=>(match f with
  |.Name t _=>(match c with
   | []=>none|a::r=>if r.isEmpty&&h.isEmpty then some (t,a)else none)
  |_=>none)
 |_=>none
def xO (h:vK e=some (x,K)):∃p pos,e = .Call (.Name x p) [K] [] pos:=by
 cases e with
 |Call f i n pos =>
  cases f with
  |Name q p =>
   cases i with
   |nil=>cases h
   |cons b r =>
    simp only[vK]at h;split at h
    . rename_i c
      rw[l8,aeF,aeF]at c;cases h;obtain⟨rfl,rfl⟩:=c;exact⟨_,_,rfl⟩
    . cases h
  |_=>cases h
 |_=>cases h
noncomputable def ED (m:G0)(c:Cs)(t r:Str)(x:Expr):Option Expr:=(vK x).bind λy=>(vK y.2).bind λz=>if y.1 == t&&z.1 == r&&c.sc.names.lookup y.1 == some .globalImplicit&&c.sc.names.lookup z.1 == some .globalImplicit&&m.k6.elem y.1&&m.k6.elem z.1 && !(isStar z.2)then some z.2 else none
def EE {m:G0}{c:Cs}{r:Str}(h:ED m c x r e=some K):∃p n pos m_,e = .Call (.Name x p) [.Call (.Name r n) [K] [] m_] [] pos/\c.sc.names.lookup x=some .globalImplicit/\c.sc.names.lookup r=some .globalImplicit/\x∈m.k6/\r∈m.k6/\isStar K=false:=by
 obtain⟨⟨u,y⟩,l,i⟩:=bind_some h;obtain⟨⟨v,z⟩,t,b⟩:=bind_some i;dsimp only at b t;obtain⟨p,pos,rfl⟩:=xO l;obtain⟨n,m_,rfl⟩:=xO t;split at b
 . rename_i f
   simp only[l8,beq_iff_eq,wQ]at f;obtain⟨⟨⟨⟨⟨⟨rfl,rfl⟩,o⟩,q⟩,s⟩,j⟩,k⟩:=f;cases b;exact⟨_,_,_,_,rfl,o,q,Q2.mp s,Q2.mp j,k⟩
 . cases b
noncomputable def Px:rZ where
 e:=λm c E _ x=>(ED m c "sorted" "set" x).map λa=>qD (E a)
 Ec:=by intro m c X E g b r x f h;obtain⟨a,i,rfl⟩:=pM.mp h;obtain⟨p,u,pos,s,rfl,k,j,l,o,q⟩:=EE i;exact Pu g.rm.hd (g.bl _ l) (g.bl _ o) (b a) (g.gl k) (g.gl j) rfl (bL q)
 t:=I0
 tok:=by intro m c X E g b x f h;cases h
noncomputable def Jf:Expr->Option (Const×Nat×Pos)
 |.Constant v k p=>some (v,k,p)|_=>none
def EF {v:Const}(h:Jf e=some (v,i,a)):e = .Constant v i a:=by
 cases e with
 |Constant=>cases h;rfl|_=>exact nn h
noncomputable def Py:Expr->Option (T6×Expr×Scope×Pos)
 |.Lambda a b s p=>some (a,b,s,p)|_=>none
def Pz (h:Py e=some (Y,K,O,a)):e = .Lambda Y K O a:=by
 cases e with
 |Lambda=>cases h;rfl|_=>exact nn h
noncomputable def SS:Expr->Bool
 |e=>(Py e).isSome
def xP {b:Type}[DecidableEq b]{x y:Option b}(h:(x.isSome&&decide (x=y))=true):∃z,x=some z/\y=some z:=by simp only[l8,decide_eq_true_eq]at h;obtain⟨z,a⟩:=ad3.mp h.1;exact⟨z,a,h.2 ▸ a⟩
noncomputable def BU (f:Expr->Expr->Bool):List Expr->List Expr->Bool
 | [],bs=>bs.isEmpty|a::c,bs=>(bs.head?.map λb=>f a b&&BU f c bs.tail).getD false
def Ls {f:Expr->Expr->Bool}(h:∀a b,f a b=true->a=b):∀{c bs:List Expr},BU f c bs=true->c=bs:=fun {c}=>by
 induction c with
 |nil=>intro bs q;cases bs with
  |nil=>rfl|cons=>cases q
 |cons a c i=>intro bs q;cases bs with
  |nil=>cases q
  |cons b bs =>
   have q:(f a b&&BU f c bs)=true:=q;rw[l8]at q;rw[h a b q.1,i q.2]
noncomputable def z9:Nat->Expr->Expr->Bool
 | 0,_,_=>false
 |n+1,a,b=>((zQ a).isSome&&decide (zQ a=zQ b))||((Jf a).isSome&&decide (Jf a=Jf b)) ||
  ((IP a).bind λx=>(IP b).map λy=>z9 n x.1 y.1&&z9 n x.2.1 y.2.1&&decide (x.2.2=y.2.2)).getD false ||
  ((Ea a).bind λx=>(Ea b).map λy=>z9 n x.1 y.1&&BU (z9 n) x.2.1 y.2.1&&decide (x.2.2=y.2.2)).getD false
def baV {a b:Type}{x:Option a}{y:Option b}{f:a->b->Bool}(h:(x.bind λu=>y.map λv=>f u v).getD false=true):∃u v,x=some u/\y=some v/\f u v=true:=by
 cases x with
 |none=>cases h
 |some u=>cases y with
  |none=>cases h|some v=>exact⟨u,v,rfl,rfl,h⟩
def PB:∀(n:Nat) (a b:Expr),z9 n a b=true->a=b:=λn=>by
 induction n with
 |zero=>intro a b h;cases h
 |succ n p =>
  intro a b h;rcases ae4.mp h with h|h
  . rcases ae4.mp h with h|h
    . rcases ae4.mp h with h|h
      . obtain⟨z,c,e⟩:=xP h
        exact(rX c).trans (rX e).symm
      . obtain⟨z,c,e⟩:=xP h
        exact(EF c).trans (EF e).symm
    . obtain⟨⟨o,k,i⟩,⟨f,j,l⟩,c,e,h⟩:=baV h
      simp only[l8,decide_eq_true_eq]at h;rw[xC c,xC e,p _ _ h.1.1,p _ _ h.1.2,h.2]
  . obtain⟨⟨o,k,i⟩,⟨f,j,l⟩,c,e,h⟩:=baV h
    simp only[l8,decide_eq_true_eq]at h;rw[rY c,rY e,p _ _ h.1.1,Ls p h.1.2,h.2]
noncomputable def Jg:List Arg->Option (List (Str×Pos))
 | []=>some []|a::c=>if a.annotation.isSome then none else(Jg c).map ((a.arg,a.pos):: ·)
def PC:∀{i:List Arg} {l:List (Str×Pos)},Jg i=some l->i=l.map λq=>⟨q.1,none,q.2⟩:=fun {i}=>by
 induction i with
 |nil=>intro l h;cases h;rfl
 |cons a i n =>
  intro l h;obtain⟨x,r,p⟩:=a;cases r with
  |some=>exact nn h
  |none =>
   obtain⟨c,b,rfl⟩:=pM.mp (show(Jg i).map ((x,p):: ·)=some l from h)
   rw[n b];rfl
noncomputable def EG (a:T6):Option (List (Str×Pos)):=if a.posonlyargs.isEmpty&&a.vararg.isNone&&a.kwonlyargs.isEmpty&&a.kw_defaults.isEmpty&&a.kwarg.isNone&&a.defaults.isEmpty then Jg a.args else none
def EH {l:List (Str×Pos)}(h:EG Y=some l):Y=⟨[],l.map λq=>⟨q.1,none,q.2⟩,none,[],[],none,[]⟩:=by
 obtain⟨p,c,v,k,kd,kw,d⟩:=Y;unfold EG at h;split at h
 . rename_i z
   simp only[l8,aeF,Option.isNone_iff_eq_none]at z;obtain⟨⟨⟨⟨⟨rfl,rfl⟩,rfl⟩,rfl⟩,rfl⟩,rfl⟩:=z;rw[<- PC h]
 . cases h
noncomputable def PD (a b:T6):Bool:=(EG a).isSome&&decide (EG a=EG b)
def Lu {b:T6}(h:PD Y b=true):Y=b:=by obtain⟨z,c,e⟩:=xP h;exact(EH c).trans (EH e).symm
noncomputable def BV (N:List Str):List Str->Option (List Nat)
 | []=>some []|y::c=>(iC N y).bind λi=>(BV N c).map (i :: ·)
theorem z_ {N:List Str}:∀{n:List Str} {is:List Nat},BV N n=some is->D8 N is n
 | [],is,h=>by cases h;exact⟨rfl,λj i y a _=>by simp at a⟩
 |y::n,is,h=>by
  unfold BV at h;obtain⟨i,f,h⟩:=bind_some h;obtain⟨o,l,rfl⟩:=pM.mp h;obtain⟨e,q⟩:=z_ l;refine⟨by simp[e],λj c k a b=>?_⟩;cases j with
  |zero=>simp at a b;subst a b;exact eA f|succ j=>exact q j c k (by simpa using a) (by simpa using b)
noncomputable def aL (E:Expr->FE)(q:Pos×Str×d_)(is:List Nat):List Expr->Option FA
 | []=>some aj
 |e::c=>match Py e with
  |some (ar,bd,sc,p)=>if decide (p=q.1)&&PD ar q.2.2.ar&&z9 9 bd q.2.2.bd&&decide (sc=q.2.2.sc)then(aL E q is c).map (af (mY q.2.1 is))else none|none=>if isStar e then none else(aL E q is c).map (af (E e))
theorem BW {X:Cx}{E:Expr->FE}(u:∀e,DE X e (E e)){p:Pos}{x:Str}{l:d_}(L:vD X p x l){is:List Nat}(v:D8 X.N is l.fv):∀{n:List Expr} {f:FA},aL E (p,x,l) is n=some f->xq X n f
 | [],f,h=>by cases h;exact K_
 |e::n,f,h=>by
  rw[aL]at h;split at h
  . rename_i s bd sc q i
    obtain rfl:=Pz i;split at h
    . rename_i z
      simp only[l8,decide_eq_true_eq]at z;obtain⟨⟨⟨j,r⟩,b⟩,o⟩:=z;obtain⟨c,a,rfl⟩:=pM.mp h;subst j;have:=Lu r;subst this;have:=PB _ _ _ b;subst this;subst o;exact La L v (BW u L v a)
    . cases h
  . split at h
    . cases h
    . rename_i k
      obtain⟨c,a,rfl⟩:=pM.mp h;exact GO (u _) (BW u L v a) (bL (by simpa using k))
noncomputable def XR:rZ where
 e:=λm c E _ x=>(cV x).bind λy=>if iW y.1||y.2.any isStar || !(y.2.any SS) || !c.all || !(decide (c.sc.names.lookup y.1=some .globalImplicit))then none else c.lam.bind λq=>(m.fns.lookup y.1).bind λj=>(BV c.N q.2.2.fv).bind λis=>(aL E q is y.2).map λfr=>aq (gO (m.T j.1)) fr
 Ec:=by
  intro m c X E g s rf x f h;obtain⟨⟨y,as⟩,z,k⟩:=bind_some h;obtain⟨p,pos,rfl⟩:=IQ z;dsimp only at k;split at k
  . cases k
  . rename_i r
    simp only[wt,not_or,Rj,wQ,afG,decide_eq_true_eq]at r;obtain⟨⟨⟨⟨h1,o⟩,h3⟩,h4⟩,h5⟩:=r;obtain⟨⟨p',x',l⟩,hq,k1⟩:=bind_some k;obtain⟨⟨i,n⟩,hf,v⟩:=bind_some k1;obtain⟨is,hi,u⟩:=bind_some v;obtain⟨fr,kh,rfl⟩:=pM.mp u;obtain⟨o1,o2,_⟩:=oA h1;cases as with
    |nil=>cases h3
    |cons a as =>
     rw[yc,F5]at o;obtain⟨fa,fd,ps,ok,hm,kp,b,ln⟩:=g.fn y i n (lookup_mem hf);have IF:D8 X.N is l.fv:=by rw[g.hN];exact z_ hi
     exact GP ok g.rm hm kp b ln (g.al h4) (BW s (g.lh _ _ _ hq) IF kh) (g.gl h5) o1 (bL o.1) (h_ o.2)
 t:=I0
 tok:=by intro m c X E g s x f h;cases h
noncomputable def PF:Nat->Expr->Option Expr
 |_,.Lambda a b s p=>some (.Lambda a b s p)|n+1,.Call _ c _ _=>c.findSome? (PF n)|_,_=>none
noncomputable def Aa:Nat->Stmt->Option Expr
 |n+1,.FunctionDef _ _ b _ _ _ _ _ _ _=>b.findSome? (Aa n)|n+1,.If _ b o _=>(b.findSome? (Aa n)).or (o.findSome? (Aa n))|n+1,.For _ _ b _ _=>b.findSome? (Aa n)|n,.Assign _ v _=>PF n v|n,.Return (some v) _=>PF n v|_,_=>none
noncomputable def BX (c:Str)(e:Stmt):d_:=match Aa 9 e with
 |some (.Lambda a b s _)=>⟨a,b,s,c ++ ".<locals>." ++ "<lambda>",mW s,a.args.map (·.arg)⟩|_=>⟨⟨[],[],none,[],[],none,[]⟩,.Constant .none 0 ⟨0,0,0,0⟩,⟨.function,[],false,false,[]⟩,"",[],[]⟩
noncomputable def PJ (a:Stmt):Pos:=match Aa 9 a with
 |some (.Lambda _ _ _ p)=>p|_=>⟨0,0,0,0⟩
noncomputable def top (i:Nat):Stmt:=PySem.Challenge.pw_wholeglance_k27_whole_one_that_moves.main.body.getD i (.Pass ⟨0,0,0,0⟩)
noncomputable def md (a:Str)(b e:List Str)(i:Nat)(c:Bool:=false)(j:List Str:=[])(f:Bool:=false)(h:Str:=a):cp:=⟨a,b,b++e,top i,c,j,f,h,none,none⟩
noncomputable def mm (a:Str)(b c:List Str)(i:Nat)(x:Str)(e:Str:=a)(f:List Str:=[]):cp:=⟨a,b,b++c,top i,false,f,false,e,none,some (PJ (top i),x)⟩
noncomputable def ml (a x:Str)(i:Nat):cp:=⟨"<lambda>",(BX a (top i)).fv++(BX a (top i)).ps,[],top i,false,[],false,x,some (BX a (top i)),none⟩
noncomputable def XS:=md "number_of" ["manner","name"] [] 2
noncomputable def XT:=md "hands_of" ["manner"] [] 3
noncomputable def XU:=md "places_of" ["manner"] [] 4
noncomputable def XW:=md "collect_boxes" ["manner"] ["word"] 6
noncomputable def XX:=md "last_round" ["stride","span","moves","reads","moved_in"] ["seen","start","moved","hand","often"] 8 false ["seen","*seen"]
noncomputable def XY:=md "numbered_look" ["manner","reads"] ["hands","ending","used","last"] 13
noncomputable def XZ:=md "moves_of" ["manner"] [] 14
noncomputable def X0:=md "renumbered" ["reads"] ["hands"] 15
noncomputable def X4:=md "others_of" ["manner","hand"] [] 20
noncomputable def X5:=md "shaken_by" ["manner","hand"] [] 21
noncomputable def SU:=md "shake_step" ["sources","targets","answer","reads"] ["place"] 22
noncomputable def SV:=mm "shared_look" ["manner","hand","reads"] ["span","ending","used"] 25 "shared_look.lambda"
noncomputable def SX:=mm "round_step" ["manner","hand","reads"] ["calls","signs","collected"] 26 "round_step_shared.lambda" "round_step_shared"
noncomputable def SY:=md "second_collect" ["manner","hand","reads"] ["behind"] 28
noncomputable def S4:=md "moved_in" ["manner","hand","reads"] ["shaken","opening","calls","moved","first","second","others","before","behind"] 29 false ["moved"] false "moved_in_shared"
noncomputable def S_:=md "is_rewritten" ["manner","before","behind"] [] 31
noncomputable def Ta:=mm "signs_look" ["manner","hand","reads"] ["hands","span","ending","used","second"] 34 "signs_look.lambda"
noncomputable def Tb:=mm "round_step" ["manner","hand","reads"] ["others","sources","targets"] 35 "round_step_signs.lambda" "round_step_signs"
noncomputable def Tc:=md "moved_in" ["manner","hand","reads"] ["hands","first","second","moved","place","other","sign"] 37 false ["moved"] false "moved_in_signs"
noncomputable def Td:=md "next_step" ["manner","hand","deed","ahead","reads"] [] 45
noncomputable def Te:=md "look_step" ["manner","hand","reads"] ["word"] 46
noncomputable def Tf:=md "_law_hand" ["_law_script","_law_k"] ["_law_cell"] 50 true
noncomputable def Tg:=md "_law_take" ["_law_hand_here","_law_many"] ["_law_digit","_law_turn","_law_mixed","_law_other"] 51 false ["_law_hand_here"]
noncomputable def Th:=md "_law_pick" ["_law_hand_here","_law_some"] [] 52
noncomputable def Ti:=md "_law_value" ["_law_hand_here"] ["_law_way"] 53
noncomputable def Tj:=md "_law_places" ["_law_manner"] [] 54
noncomputable def To:=md "_law_state" ["_law_hand_here","_law_many"] [] 55
noncomputable def Tp:=md "_law_content" ["_law_hand_here","_law_manner","_law_box"] ["_law_hands","_law_places_here","_law_calls"] 56
noncomputable def Tq:=md "_law_boxes" ["_law_hand_here","_law_manner"] ["_law_hands","_law_names","_law_i"] 57 true
noncomputable def Tr:=md "_law_ahead" ["_law_hand_here","_law_many"] [] 58
noncomputable def Ts:=md "_law_moving_manner" ["_law_hand_here"] ["_law_hands","_law_moves","_law_way","_law_bits"] 59
noncomputable def Tt:=md "_law_put" ["_law_hand_here","_law_manner","_law_boxes_here","_law_j","_law_own"] ["_law_value_here","_law_view","_law_call","_law_calls","_law_k"] 60 false ["_law_boxes_here"]
noncomputable def Tu:=md "_law_turning" ["_law_manner","_law_step","_law_j","_law_places_here"] ["_law_ahead_here"] 61
noncomputable def Tv:=md "_law_long" ["_law_manner"] [] 62
noncomputable def Tw:=md "law" ["_law_script"] ["_law_n","_law_hand_here","_law_manner","_law_own","_law_places_here","_law_j","_law_ahead_here","_law_boxes_here","_law_reads","_law_step","_law_found","_law_view"] 63 false ["_law_boxes_here"]
noncomputable def Tx:=ml "shared_look" "shared_look.lambda" 25
noncomputable def Tz:=ml "round_step" "round_step_shared.lambda" 26
noncomputable def TB:=ml "signs_look" "signs_look.lambda" 34
noncomputable def TC:=ml "round_step" "round_step_signs.lambda" 35
noncomputable def ds:List cp:=[XS,XT,XU,XW,XX,XY,XZ,X0,X4,X5,SU,SV,SX,SY,S4,S_,Ta,Tb,Tc,Td,Te,Tf,Tg,Th,Ti,Tj,To,Tp,Tq,Tr,Ts,Tt,Tu,Tv,Tw,Tx,Tz,TB,TC]
noncomputable def lE:List (Str×D):=[("once",.tup [.str "hands"]),("twice",.tup [.str "hands",.str "turn"]),("handed",.tup [.str "hands",.str "turn",.str "moves"]),("signs",.tup [.str "hands",.str "toggles",.str "shakes",.str "moves"]),("shared",.tup [.str "hands",.str "places",.str "toggles",.str "shakes",.str "moves"]),("tables",.tup [.str "hands",.str "boxes"])]
noncomputable def pk:Pk:=⟨[XC,SK,XD,XE,Je],[Je],[Hb,SM],[Lm,Pe,SN],[XR,SO,Px,Pq]⟩
noncomputable def mo:Mo:=⟨ds,["len","min","int","tuple","sorted","dict","set","range","enumerate","zip"],[],[("NUMBERS",lE)],pk,1000000⟩
@[simp] def Y8:au (.tup A) c r=d7 (.tup A) c r:=rfl
@[simp] def Y9:au (.lst A) c r=d7 (.lst A) c r:=rfl
@[simp] def Y_:au (.ref i) c r=d7 (.ref i) c r:=rfl
@[simp] def Za:au (.bu i) c r=(r[i]?).bind λh=>if aO 6 c=true then(aM h c).map λc=>(c,r)else none:=rfl
@[simp] def X6:kB (.ref i) c R r=putD (.ref i) c R r:=rfl
@[simp] def X7:kB (.bu i) c R r=(r[i]?).bind λh=>if(aO 6 c&&kZ h)=true then some (r.set i (aX h c R))else none:=rfl
@[simp] def Zb {h:FE}:fF C h c k r=(C k r).bind λv=>(h k v.2).bind λq=>(kB v.1 q.1 c q.2).map λi=>(k,i):=rfl
@[simp] def Lv {fr:FA}{a:D->Bool}{m:D->List D->G->Option (D×G)}:gI a m C fr k r=(C k r).bind λc=>if a c.1=true then(fr k c.2).bind λq=>m c.1 q.1 q.2 else none:=rfl
@[simp] def X8:rK k r=some (.bu r.length,r ++ [[]]):=rfl
@[simp] def Zc:ja (.bu i)=true:=rfl
@[simp] def Zd:isRef (.ref i)=true:=rfl
@[simp] def abL:jF (.bu i) [c] r=(r[i]?).bind λh=>if aO 6 c=true then some ((aM h c).getD .ay,r)else none:=rfl
@[simp] def abM:jF (.bu i) [c,R] r=(r[i]?).bind λh=>if aO 6 c=true then some ((aM h c).getD R,r)else none:=rfl
@[simp] def abN:e_ (.ref i) [c] r=(r[i]?).bind λh=>if aC (h.length+1)=true then some (.ay,r.set i (h ++ [c]))else none:=rfl
@[simp] def Ze:aO i (.int M)=true:=by cases i<;>rfl
@[simp] def Zf:p_ c (.bu i) r=(r[i]?).bind λh=>if aO 6 c=true then some (aM h c).isSome else none:=rfl
@[simp] def Zg:mU c R r=(p_ c R r).map λb=>(.bl b,r):=rfl
@[simp] def TF:tw c R r=(p_ c R r).map λb=>(.bl (!b),r):=rfl
end
section
variable {R:Str->Option Fn}{Z:List (List D)}{Y X U:Option D}{f:Nat->Nat}{T b:List D}{Q:G}{O J:FS}{m q p:D}{K:D×G->Prop}{H E:Fn}{B:Prop}{z:Option Nat}{y:FT}{v:List Nat}{t:Int}{s:Sg}
def PK {c:Type}{e:Type}{A Q C:c->e->Prop}(h:∃x y,A x y/\Q x y/\C x y)(k:∀x y,A x y->Q x y->C x y->B):B:=by obtain⟨x,y,i,a,b⟩:=h;exact k x y i a b
def PL {e:Type}{f:Type}{A Q C D:e->f->Prop}(h:∃x y,A x y/\Q x y/\C x y/\D x y)(k:∀x y,A x y->Q x y->C x y->D x y->B):B:=by obtain⟨x,y,i,a,c,b⟩:=h;exact k x y i a c b
def PM {f:Type}{i:Type}{A Q C D E:f->i->Prop}(h:∃x y,A x y/\Q x y/\C x y/\D x y/\E x y)(k:∀x y,A x y->Q x y->C x y->D x y->E x y->B):B:=by obtain⟨x,y,n,a,e,b,c⟩:=h;exact k x y n a e b c
noncomputable def vL:FS:=az (aF b0 (gN 2)) (az (bU (aD (ak oLt a6 (aq bM (af a5 (aj))))) (aF (ak au a5 a6) (gN 2)) (aP)) (aK (aI mkRef (af (ak bj a7 (aq qw (af (ak Dz a7 (ak (bt jS (λi j=>i ^ j.toNat)) i2 (fC (.int 18)))) (aj)))) (af (ak aJ (ak aJ (ak (bt cD (· % ·)) a7 k0) (ak bj (fC (.int 7919)) a6)) fc) (af b0 (aj)))))))
noncomputable def vM:FS:=az (bU (aD (ak Dy (ak au a5 b0) b0)) (az (aF (ak (bt cD (· % ·)) (ak au a5 b0) a6) (gN 2)) (az (aF (ak (bt dh (· / ·)) (ak au a5 b0) a6) (fF a5 b0)) (aK a7))) (aP)) (az (aF (ak aJ (ak au a5 dV) bh) (fF a5 dV)) (az (aF (ak au a5 dV) (gN 3)) (az (aF (ak (bt cD (· % ·)) (ak bj (ak au a5 bh) (ak aJ (ak aJ (fC (.int 48271)) (ak bj (ak bj dV bg) bg)) (ak bj (fC (.int 65537)) bg))) (fC (.int 2305843009213693921))) (gN 4)) (az (aF (ak aJ (ak aJ (ak (bt cD (· % ·)) d4 (fC (.int 1000003))) (ak bj bg (fC (.int 99991)))) (fC (.int 11))) (gN 5)) (az (aF (ak (bt cD (· % ·)) (ak bj d4 ee) (fC (.int 2305843009213693907))) (gN 4)) (aK (ak (bt cD (· % ·)) (ak aJ (ak (bt dh (· / ·)) d4 (fC (.int 97))) (ak (bt dh (· / ·)) d4 (fC (.int 1000033)))) a6)))))))
noncomputable def BY (take:Fn):FS:=aK (ak au a6 (aq take (af a5 (af (aq bM (af a6 (aj))) (aj)))))
mutual
noncomputable def nf:D->Bool
 |.fn _ _=>false|.tup c=>VB c|_=>true
noncomputable def VB:List D->Bool
 | []=>true|d::ds=>nf d&&VB ds
end
def iX (b:-(2 ^ 64)<M)(a:M<2 ^ 64):cu M t=true:=by unfold cu;rw[wt];exact .inl (acB (by omega))
def iY (b:-(2 ^ 64)<t)(a:t<2 ^ 64):cu M t=true:=by unfold cu;rw[wt];exact .inr (acB (by omega))
def gU (b:0<t)(a:t<1073741824):dh M t=true:=by unfold dh;rw[l8];exact⟨acB (by omega),acB (by omega)⟩
def eQ (a:0<t):cD M t=true:=acB (by omega)
def Hd (g:G)(n:Nat)(B:Int):Prop:=∃a b c:Int,g[n]? = some [.int a,.int b,.int c]/\0<=a/\0<=b/\b<2 ^ 62/\0<=c/\c<=B
def Hd.mono {g n B B'}(h:Hd g n B)(o:B<=B'):Hd g n B':=by obtain⟨a,b,c,f,k,i,j,e,l⟩:=h;exact⟨a,b,c,f,k,i,j,e,by omega⟩
def p9 (n:Nat)(g c:G):Prop:=c.length=g.length /\ ∀j,j≠n->c[j]? = g[j]?
def p9.refl {n g}:p9 n g g:=⟨rfl,λ_ _=>rfl⟩
theorem p9.trans {n g g1 g2}(a:p9 n g g1)(b:p9 n g1 g2):p9 n g g2:=⟨b.1.trans a.1,λj h=>(b.2 j h).trans (a.2 j h)⟩
theorem p9.set:p9 i r (r.set i A):=⟨by simp,λj h=>by rw[IZ (qP h)]⟩
def uQ:cL [m,q,c] 0=some m:=rfl
def Jc:cL [m,q,c] 1=some q:=rfl
def at2:cL [m,q,c] 2=some c:=rfl
def X9 (h:r[i]? = some [m,q,c]):putD (.ref i) (.int 0) p r=some (r.set i [p,q,c]):=by unfold putD;simp only[h];rfl
def put2 (h:r[i]? = some [m,q,c]):putD (.ref i) (.int 2) p r=some (r.set i [m,q,p]):=by unfold putD;simp only[h];rfl
def fg (f:Fn):Prop:=∀(n:Nat) (m:Int) (g:G) (B:Int),B<2 ^ 40->0<m->m<1073741824->Hd g n B ->
 ∃r c,f [.ref n,.int m] g=some (.int r,c)/\0<=r/\r<m/\Hd c n (B+1)/\p9 n g c
def Lw:fg (av false 6 2 vM):=λn m g B U hm q h=>by
 obtain⟨a,b,c,e,l,k,j,C,xQ⟩:=h;have i:n<g.length:=(m5.mp e).1;by_cases p:0<a
 . refine⟨a % m,g.set n [.int (a / m),.int b,.int c],aU (σ':=[some (.ref n),some (.int m),some (.int (a % m)),none,none,none]) rfl ?_ (by simp),aeZ _ (by omega),ad_ _ hm,⟨a / m,b,c,by simp[i],Int.ediv_nonneg l (by omega),k,j,C,by omega⟩,p9.set⟩
   simp[vM,e,uQ,p,eQ hm,gU hm q,X9 e]
 . have o:(g.set n [.int a,.int b,.int (c+1)])[n]? = some [.int a,.int b,.int (c+1)]:=by simp[i]
   generalize f:b*(48271+2*(c+1)*(c+1)+65537*(c+1)) % 2305843009213693921=x;have Y:0<=x:=by rw[<- f];exact aeZ _ (by decide)
   have Z:x<2305843009213693921:=by rw[<- f];exact ad_ _ (by decide)
   generalize E:x*(x % 1000003+(c+1)*99991+11) % 2305843009213693907=y;refine⟨(y / 97+y / 1000033) % m,g.set n [.int a,.int b,.int (c+1)],aU (σ':=[some (.ref n),some (.int m),none,some (.int (c+1)),some (.int y),some (.int (x % 1000003+(c+1)*99991+11))]) rfl ?_ (by simp),aeZ _ (by omega),ad_ _ hm,⟨a,b,c+1,o,l,k,j,by omega,by omega⟩,p9.set⟩;have m1:cu 2 (c+1)=true:=iX (by decide) (by decide);have r:cu (2*(c+1)) (c+1)=true:=iY (by omega) (by omega);have H:cu 65537 (c+1)=true:=iX (by decide) (by decide);have z:cu b (48271+2*(c+1)*(c+1)+65537*(c+1))=true:=iX (by omega) (by omega);have I:cu (c+1) 99991=true:=iY (by decide) (by decide);have J:cu x (x % 1000003+(c+1)*99991+11)=true:=iX (by omega) (by omega);have v:cD (b*(48271+2*(c+1)*(c+1)+65537*(c+1))) 2305843009213693921=true:=eQ (by decide);have O:cD x 1000003=true:=eQ (by decide);have s:cD (x*(x % 1000003+(c+1)*99991+11)) 2305843009213693907=true:=eQ (by decide);have Q:cD (y / 97+y / 1000033) m=true:=eQ hm;have u:dh y 97=true:=gU (by decide) (by decide);have R:dh y 1000033=true:=gU (by decide) (by decide);simp[vM,e,uQ,Jc,at2,p,put2 e,o,m1,r,H,z,I,J,v,O,s,Q,u,R,f,E]
def fg.w (h:fg u)(j:t<2 ^ 40)(k:0<M)(l:M<1073741824)(hh:Hd r i t)(q:∀f p,0<=f->f<M->Hd p i (t+1)->p9 i r p->K (.int f,p)):l2 (u [.ref i,.int M] r) K:=by refine PM (h i M r t j k l hh) λf p e b c a n=>?_;exact⟨_,e,q f p b c a n⟩
def jv (f:Fn):Prop:=∀(n:Nat) (c:List D) (g:G) (B:Int),B<2 ^ 40->c ≠ []->c.length<1000->Hd g n B ->
 ∃d h,f [.ref n,.lst c] g=some (d,h)/\d∈c/\Hd h n (B+1)/\p9 n g h
def Ly (t:fg u):jv (av false 2 2 (BY u)):=λn p g B o k s h=>by
 have q:0<p.length:=ae3.mpr k;refine PM (t n (p.length:Int) g B o (by omega) (by omega) h) λr c e f i j b=>?_;have a:r.toNat<p.length:=by omega
 have l:cL p r=some p[r.toNat]:=by unfold cL lJ;rw[if_pos f,if_pos i];exact mA a
 refine⟨p[r.toNat],c,aU (σ':=[some (.ref n),some (.lst p)]) rfl ?_ b.1,u3 a,j,b⟩;simp[BY,e,l]
def jv.w (h:jv u)(f:M<2 ^ 40)(j:A ≠ [])(k:A.length<1000)(hh:Hd r i M)(q:∀d n,d∈A->Hd n i (M+1)->p9 i r n->K (d,n)):l2 (u [.ref i,.lst A] r) K:=by refine PL (h i A r M f j k hh) λd n e b a c=>?_;exact⟨_,e,q d n b a c⟩
def VD:jS 10 18=true:=by decide
def VE:jS 10 12=true:=by decide
def EI (f:Fn):Prop:=∀(h:List Int) (i:Nat) (g:G),i<=100->∃c,f [.lst (h.map .int),.int i] g=some (.ref g.length,g ++ [c])/\Hd (g ++ [c]) g.length 0
def dP {σ1:Sg}{g1:G}(h:O k r=some (.nx,σ1,g1)):az O J k r=J σ1 g1:=by rw[sY,h];rfl
def l6 (h:O k r=some (.rt c,s,Q)):az O J k r=some (.rt c,s,Q):=by rw[sY,h];rfl
def eU {g1:G}{d:D}(h:C k r=some (d,g1)):aF C (gN i) k r=some (.nx,k.set i (some d),g1):=by rw[pb,h];rfl
def kG {g1:G}{f2:FS}(h:y k r=some (true,g1)):bU y O f2 k r=O k g1:=by rw[wX,h];rfl
def cM {g1:G}{f1:FS}{f2:FS}(h:y k r=some (false,g1)):bU y f1 f2 k r=f2 k g1:=by rw[wX,h];rfl
def cU {g1:G}{d:D}(h:C k r=some (d,g1)):aK C k r=some (.rt d,k,g1):=by rw[zu,h];rfl
def aR (h:i<=1000):aC i=true:=by rw[Kz];exact decide_eq_true (by omega)
def Lz:EI (av true 3 2 vL):=λn i g o=>by
 have fin:∀cell:Int,∃p,(aK (aI mkRef (af (ak bj a7 (aq qw (af (ak Dz a7 (ak (bt jS (λi j=>i ^ j.toNat)) i2 (fC (.int 18)))) (aj)))) (af (ak aJ (ak aJ (ak (bt cD (· % ·)) a7 k0) (ak bj (fC (.int 7919)) a6)) fc) (af b0 (aj)))))) [some (.lst (n.map .int)),some (.int i),some (.int cell)] g=some (.rt (.ref g.length),[some (.lst (n.map .int)),some (.int i),some (.int cell)],g ++ [p])/\Hd (g ++ [p]) g.length 0:=by
   intro cell;have l:0<=cell % 2305843009213693951:=aeZ _ (by decide);have q:cell % 2305843009213693951<2305843009213693951:=ad_ _ (by decide);have c:cD cell 2305843009213693951=true:=eQ (by decide);have f:cu 7919 (i:Int)=true:=iX (by decide) (by decide);by_cases r:1000000000000000000<=cell
   . have a:cu cell 1=true:=iY (by decide) (by decide)
     refine⟨[.int cell,.int (cell % 2305843009213693951+7919*i+3),.int 0],by simp[VD,r,a,f,c],?_⟩;exact⟨cell,cell % 2305843009213693951+7919*i+3,0,by simp,by omega,by omega,by omega,by omega,by omega⟩
   . have a:cu cell 0=true:=iY (by decide) (by decide)
     refine⟨[.int 0,.int (cell % 2305843009213693951+7919*i+3),.int 0],by simp[VD,r,a,f,c],?_⟩;exact⟨0,cell % 2305843009213693951+7919*i+3,0,by simp,by omega,by omega,by omega,by omega,by omega⟩
 by_cases h:i<n.length
 . obtain⟨p,e,b⟩:=fin n[i]
   refine⟨p,zw (σ':=[some (.lst (n.map .int)),some (.int i),some (.int n[i])]) rfl ?_,b⟩;unfold vL;refine(dP (eU (d:=.int 0) (g1:=g) rfl)).trans ?_;refine(dP (σ1:=[some (.lst (n.map .int)),some (.int i),some (.int n[i])]) (g1:=g) ((kG (g1:=g) ?_).trans (eU ?_))).trans e
   . have:(i:Int)<(n.length:Int):=by omega
     simp[this]
   . have k:cL (n.map D.int) (i:Int)=some (.int n[i]):=hG (by simp[h])
     simp[k]
 . obtain⟨p,e,b⟩:=fin 0
   refine⟨p,zw (σ':=[some (.lst (n.map .int)),some (.int i),some (.int 0)]) rfl ?_,b⟩;unfold vL;refine(dP (eU (d:=.int 0) (g1:=g) rfl)).trans ?_;refine(dP (σ1:=[some (.lst (n.map .int)),some (.int i),some (.int 0)]) (g1:=g) ((cM (g1:=g) ?_).trans rfl)).trans e;have:¬(i:Int)<(n.length:Int):=by omega
   simp[this]
noncomputable def fU (i:Int)(n:Nat):List D:=(nJ n).map λ(k:Nat)=>D.int (i+k)
def dS {i n}:(fU i n).length=n:=by simp[fU]
def ng {fr:FA}{σ:Sg}{g:G}{Q:List D×G->Prop}(h:l2 (fr σ g) λr=>∃j:Int,r.1 = [.int j] /\ -1000000<=j/\j<=1000000/\Q (fU 0 j.toNat,r.2)):l2 (iz fr σ g) Q:=by obtain⟨⟨ds,c⟩,e,j,rfl,a,b,q⟩:=h;refine⟨_,?_,q⟩;unfold iz;rw[e];simp only[mI];rw[if_pos (fR.of a b)];rfl
def LA (h:(fU M i)[j]? = some c):j<i/\c = .int (M+j):=by
 unfold fU at h;rw[nP]at h;cases n:(nJ i)[j]? with
 |none=>rw[n]at h;cases h
 |some x =>
  rw[n]at h;have a:=(m5.mp n).1;have:x=j:=by rw[acM (by simpa using a)]at n;cases n;rfl
  subst this;cases h;exact⟨by simpa using a,rfl⟩
def gW (h:(fU 0 i)[j]? = some c):j<i/\c = .int j:=by obtain⟨a,rfl⟩:=LA h;exact⟨a,by simp⟩
def PQ {mk:List D->G->Option (D×G)}{i:FI}{t:FG}(h:l2 (i k r) λfr=>aC fr.1.length=true/\l2 (cR t y C fr.1 (cz I k) fr.2) λq=>l2 (mk q.1 q.2) K):l2 (bO mk i I t y C k r) K:=by obtain⟨⟨ds,f⟩,b,a,q⟩:=h;rw[gR,b];simp only[mI];rw[if_pos a,Wm];exact q
theorem ia {n:Nat}:∀{c:List D},(∀x∈c,bT n x=true)->aQ n c=true
 | [],_=>rfl|x::c,h=>by simp only[aQ,l8];exact⟨h x (by simp),ia λy a=>h y (by simp[a])⟩
theorem xR {n:Nat}:∀{i:List D},aQ n i=true->∀x∈i,bT n x=true
 | [],_,x,c=>by simp at c
 |y::i,h,x,c=>by
  simp only[aQ,l8]at h;rcases nv.mp c with rfl|c
  . exact h.1
  . exact xR h.2 x c
def oH {n:Nat}(h:A[n]? = some c):cL A (n:Int)=some c:=by
 have i:=(m5.mp h).1;have b:(0:Int)<=n:=by omega
 have a:(n:Int)<(A.length:Int):=by omega
 unfold cL lJ;rw[if_pos b,if_pos a];simpa using h
def TH:cL [c,m] 0=some c:=rfl
def BZ:cL [c,m] 1=some m:=rfl
theorem baF:∀c:List Int,fE (c.map .int)=some c
 | []=>rfl|v::c=>by simp[fE,baF c]
noncomputable def sj (pick:Fn):FS:=aK (aq gG (af (bO bR (iz (af a6 aj)) [none,none,some 0] (gN 1) cG (aq pick (af a7 (af (aI jQ (af b0 (af bh (af dV (af fc (af (fC (.int 8)) (af (fC (.int 9)) (af (fC (.int 11)) aj)))))))) aj)))) aj))
noncomputable def vN (take pick:Fn):FS:=az (aF (aq take (af a5 (af (fC (.int 8)) aj))) (gN 1)) (az (bU (aD (ak oEq a6 b0)) (aK (aI ax (af (aq take (af a5 (af j0 aj))) (af (aI ax (af (ak (bt bV (· - ·)) (aq take (af a5 (af fc aj))) bh) (af (aI ax aj) aj))) aj)))) aP) (az (bU (aD (ak oEq a6 bh)) (aK (aq pick (af a5 (af (aI jQ (af (n9 kq bh) (af (ak (bt bV (· - ·)) (ak (bt jS (λi j=>i ^ j.toNat)) i2 (fC (.int 12))) bh) (af (ak (bt bV (· - ·)) bh (ak (bt jS (λi j=>i ^ j.toNat)) i2 (fC (.int 12)))) (af (aI ax aj) (af (aI ax (af b0 aj)) aj)))))) aj)))) aP) (aK (aq take (af a5 (af (fC (.int 7)) aj))))))
noncomputable def gX:List D->Bool
 |k::_::r=>aO 6 k&&gX r| []=>true|_=>false
theorem fA {k v:D}(c:aO 6 k=true):∀{i:List D},gX i=true->aM (aX i k v) k=some v
 | [],_=>by simp only[aX,aM];rw[if_pos ((fZ k k c c).mpr rfl)]| [_],h=>by cases h
 |a::b::r,h=>by
  simp only[gX,l8]at h;simp only[aX];by_cases e:bF a k=true
  . rw[if_pos e];simp only[aM];rw[if_pos e]
  . rw[if_neg e];simp only[aM];rw[if_neg e];exact fA c h.2
theorem gB {k i v:D}(j:aO 6 k=true)(l:aO 6 i=true)(n:k≠i):∀{p:List D},gX p=true->aM (aX p k v) i=aM p i
 | [],_=>by simp only[aX,aM];rw[if_neg λz=>n ((fZ k i j l).mp z)]| [_],h=>by cases h
 |a::b::r,h=>by
  simp only[gX,l8]at h;simp only[aX];by_cases e:bF a k=true
  . have f:=(fZ a k h.1 j).mp e
    subst f;have c:¬bF a i=true:=λz=>n ((fZ a i j l).mp z);rw[if_pos e];simp only[aM];rw[if_neg c,if_neg c]
  . rw[if_neg e]
    simp only[aM];rw[gB j l n h.2]
theorem nh {k v:D}(c:aO 6 k=true):∀{i:List D},gX i=true->gX (aX i k v)=true
 | [],_=>by simp[aX,gX,c]| [_],h=>by cases h
 |a::b::r,h=>by
  simp only[gX,l8]at h;simp only[aX];split
  . simp[gX,h]
  . simp[gX,h,nh c h.2]
theorem ni {n:Nat}{k v:D}(e:bT n k=true)(c:bT n v=true):∀{i:List D},aQ n i=true->aQ n (aX i k v)=true
 | [],_=>by simp[aX,aQ,e,c]| [_],_=>by simp[aX,aQ,e,c]
 |a::b::r,h=>by
  simp only[aQ,l8]at h;simp only[aX];split
  . simp[aQ,h,c]
  . simp[aQ,h,ni e c h.2.2]
mutual
theorem dE {n:Nat}:∀d:D,flat d=true->bT n d=true
 |.ay,_=>rfl|.bl _,_=>rfl|.int _,_=>rfl|.str _,_=>rfl|.tup c,h=>by simp only[bT];exact dQ c (by simpa[flat]using h)|.lst c,h=>by simp only[bT];exact dQ c (by simpa[flat]using h)|.eM,h=>by simp[flat]at h|.ref _,h=>by simp[flat]at h|.bu _,h=>by simp[flat]at h|.fn _ _,h=>by simp[flat]at h
theorem dQ {n:Nat}:∀ds:List D,bJ ds=true->aQ n ds=true
 | [],_=>rfl|d::ds,h=>by simp only[bJ,l8]at h;simp only[aQ,dE d h.1,dQ ds h.2,afx]
end
noncomputable def own (a:Str)(j:Nat):D:=.tup [.str a,.int j]
noncomputable def Ab (a:Str)(n:Nat):List D:=(nJ n).map λj=>.tup [.str "read",own a j]
def tP {a n}:(Ab a n).length=n:=by simp[Ab]
def Bd (g:G):Prop:=∀(i:Nat) c,g[i]? = some c->aQ g.length c=true
def nk (h:i<=o):∀{n:List D},aQ i n=true->aQ o n=true:=by
 have main:∀d:D,bT i d=true->bT o d=true:=λd=>by
  refine D.rec (motive_1:=λd=>bT i d=true->bT o d=true) (motive_2:=λds=>aQ i ds=true->aQ o ds=true) ?_ ?_ ?_ ?_ ?_ ?_ ?_ ?_ ?_ ?_ ?_ ?_ d
  . intro h;rfl
  . intro b h;rfl
  . intro b h;rfl
  . intro b h;rfl
  . intro n p h;simpa[bT]using p (by simpa[bT]using h)
  . intro n p h;simpa[bT]using p (by simpa[bT]using h)
  . intro h;rfl
  . intro k h;simp only[bT,decide_eq_true_eq]at h ⊢;omega
  . intro k h;simp only[bT,decide_eq_true_eq]at h ⊢;omega
  . intro x n p h;simpa[bT]using p (by simpa[bT]using h)
  . intro h;rfl
  . intro x n a e h
    simp only[aQ,l8]at h ⊢;exact⟨a h.1,e h.2⟩
 intro n h;exact ia λx c=>main x (xR h x c)
def gT2:gT 2 (bZ (gN i) (bZ (gN j) gu)) (.tup [c,m]) k r=some ((k.set i (some c)).set j (some m),r):=by simp
def vG (d:D):Prop:=flat d=true/\dep d<=3
def l7 (f:Fn):Prop:=∀n g B,B+3<2 ^ 40->Hd g n B->∃d c,f [.ref n] g=some (d,c)/\vG d/\Hd c n (B+3)/\p9 n g c
def LB (A:fg u)(C:jv H):l7 (av false 2 1 (vN u H)):=λn g B z hd=>by
 have J:l2 (av false 2 1 (vN u H) [.ref n] g) λq=>vG q.1/\Hd q.2 n (B+3)/\p9 n g q.2:=by
  refine Ph rfl ?_;simp[vN];refine A.w (by omega) (by decide) (by decide) hd λr R h c f I=>?_;simp;by_cases O:r=0
  . subst O
    simp;refine A.w (by omega) (by decide) (by decide) f λv Q h c p E=>?_;simp;refine A.w (by omega) (by decide) (by decide) p λy U h c k i=>?_;have o:aC 2=true:=rfl;have b:aC 0=true:=rfl;simp[o,b];exact⟨(I.trans (E.trans i)).1,⟨by simp[flat,bJ],by simp[dep,dM]⟩,k.mono (by omega),I.trans (E.trans i)⟩
  . by_cases a:r=1
    . subst a
      have s:aC 5=true:=rfl;have b:aC 0=true:=rfl;have l:aC 1=true:=rfl;simp[s,b,l,VE];refine C.w (by omega) (by simp) (by simp) f λd Q hm p E=>?_;refine⟨(I.trans E).1,?_,p.mono (by omega),I.trans E⟩;simp only[nv,Ex,or_false]at hm;rcases hm with rfl|rfl|rfl|rfl|rfl<;>exact⟨by simp[flat,bJ],by simp[dep,dM]⟩
    . simp[O,a]
      refine A.w (by omega) (by decide) (by decide) f λv Q h c p E=>?_;exact⟨(I.trans E).1,⟨by simp[flat],by simp[dep]⟩,p.mono (by omega),I.trans E⟩
 obtain⟨⟨d,j⟩,e,a,take,x⟩:=J;exact⟨d,j,e,a,take,x⟩
def tR (f:Fn):Prop:=∀n (k:Nat) g (B:Int),k<=20->B+k<2 ^ 40->Hd g n B->∃(is:List Nat) (c:G),f [.ref n,.int k] g=some (.tup (is.map λ(i:Nat)=>D.int i),c)/\is.length=k/\Hd c n (B+k)/\p9 n g c
def Hf (A:jv u):tR (av false 2 2 (sj u)):=λn k g B x y hd=>by
 have C:l2 (av false 2 2 (sj u) [.ref n,.int k] g) λq=>∃is:List Nat,q.1 = .tup (is.map λ(i:Nat)=>D.int i)/\is.length=k/\Hd q.2 n (B+k)/\p9 n g q.2:=by
  refine Ph rfl ?_;simp[sj];refine ng ?_;have l:aC k=true:=aR (by omega);simp[dS,l];refine⟨by omega,?_⟩;refine iV (λj p E a=>(∃h,E = [none,h,some (.ref n)])/\(∃is:List Nat,p=is.map (λ(i:Nat)=>D.int i)/\is.length=j)/\Hd a n (B+j)/\p9 n g a) _ 0 _ _ [] ⟨⟨none,rfl⟩,⟨[],by simp,rfl⟩,by simpa using hd,.refl⟩ ?_ ?_
  . rintro j d p E a r ⟨⟨h,rfl⟩,⟨is,rfl,b⟩,f,c⟩
    obtain⟨z,rfl⟩:=gW r;have o:aC 7=true:=rfl;simp[o];refine A.w (by omega) (by simp) (by simp) f λd J hm H I=>?_;have:∃k:Nat,d = .int k:=by
     simp only[nv,Ex,or_false]at hm;rcases hm with rfl|rfl|rfl|rfl|rfl|rfl|rfl
     . exact⟨0,rfl⟩
     . exact⟨1,rfl⟩
     . exact⟨2,rfl⟩
     . exact⟨3,rfl⟩
     . exact⟨8,rfl⟩
     . exact⟨9,rfl⟩
     . exact⟨11,rfl⟩
    obtain⟨i,rfl⟩:=this;simp at b;exact⟨⟨is ++ [i],by simp,by simp[b]⟩,H.mono (by omega),c.trans I⟩
  . rintro O E a ⟨_,⟨is,e,b⟩,f,c⟩
    simp[dS]at e b f;subst e;simp[bR,b,l];exact⟨c.1,is,rfl,b,f,c⟩
 obtain⟨⟨d,a⟩,e,is,rfl,pick,s,v⟩:=C;exact⟨is,a,e,pick,s,v⟩
noncomputable def nc (a:Str)(i:Nat):List D->List (D×D)
 | []=>[]|v::c=>(own a i,v)::nc a (i+1) c
def baZ:bF (.int M) (.int t)=decide (M=t):=by simp only[bF];rw[Bool.eq_iff_iff];simp
def Bd.app {ys:G}(h:Bd r)(a:∀y∈ys,aQ (r.length+ys.length) y=true):Bd (r++ys):=λi c e=>by
 rw[nN];by_cases hi:i<r.length
 . rw[ra hi]at e
   exact nk (Vx _ _) (h i c e)
 . rw[wm (by omega)]at e
   exact a c (p7 e)
theorem Bd.set (h:Bd r)(b:aQ r.length A=true):Bd (r.set i A):=λg c e=>by
 rw[aga];by_cases hi:g=i
 . subst hi
   have a:g<r.length:=by have:=(m5.mp e).1;simpa using this
   rw[vT a]at e;cases e;exact b
 . rw[IZ (qP hi)]at e
   exact h g c e
def EJ (g:Hd r h M)(e:r[h]? = some A):aQ i A=true:=by obtain⟨a,b,c,f,_⟩:=g;rw[f]at e;cases e;simp[aQ,bT]
def Bd.fr (b:Bd r)(f:p9 h r Q)(a:Hd Q h M):Bd Q:=λi c e=>by
 by_cases hi:i=h
 . subst hi;exact EJ a e
 . rw[f.1];rw[f.2 i hi]at e;exact b i c e
def Bd.hand (b:Bd r)(c:Hd (r ++ [A]) r.length M):Bd (r ++ [A]):=b.app λy a=>by simp at a;subst a;exact EJ c (by simp)
def Hd.app {ys:G}(i:Hd r h M):Hd (r++ys) h M:=by obtain⟨a,b,c,e,f⟩:=i;exact⟨a,b,c,by rw[ra (m5.mp e).1];exact e,f⟩
noncomputable def oI:FS:=az (aF (ak (bt dh (· / ·)) (aq bM (af a5 aj)) dV) (gN 1)) (aK (bO bR (iz (af a6 aj)) [none,none,some 1,some 0] (gN 1) (aD (ak di (ak au (ak au bg a6) bh) (ak au (ak au bg (ak aJ a7 a6)) bh))) a6))
noncomputable def jw:FT:=aD (ak oLe (ak aJ ef a6) (aq bM (af bg aj)))
noncomputable def Hg (R:Str->Option Fn):FS:=qA 6 (λi j=>i+j) a5
noncomputable def qE (R:Str->Option Fn):FS:=az (bU (aD (ak Dy (aq bM (af ew aj)) b0)) (aK (aI ax (af ef (af (aq ((jU lC iA)) (af ew aj)) aj)))) aP) (Hg R)
noncomputable def PR (R:Str->Option Fn):FS:=az (aF (bO bR (cO eW) [none,none,some 2,some 5] (gN 1) (aD (ak oEq (ak au bg a6) a7)) a6) (gN 9)) (qE R)
noncomputable def PU (R:Str->Option Fn):FS:=az (fO (cO eW) (gN 8) (aF (ak aJ (gI ja jF ee (af eu (af b0 aj))) bh) (fF ee eu))) (PR R)
noncomputable def Hh (R:Str->Option Fn):FS:=az (bU (aD (ak oEq (aq bM (af eW aj)) b0)) (aK (aI ax (af ef (af fe aj)))) aP) (PU R)
noncomputable def fP (R:Str->Option Fn):FS:=az (aF (ff R 4 (af (dj bg (bq ef) (bq (ak aJ ef a6))) aj)) (gN 7)) (Hh R)
noncomputable def cK (R:Str->Option Fn):FS:=az (aF rK (gN 5)) (az (aF b0 (gN 6)) (az (Dh 1000000 (aD (ak oLe (ak aJ ef a6) (aq bM (af bg aj)))) (az (aF (ff R 4 (af (dj bg (bq ef) (bq (ak aJ ef a6))) aj)) (gN 7)) (az (bU (aD (ak oEq (aq bM (af eW aj)) b0)) (aK (aI ax (af ef (af fe aj)))) aP) (az (fO (cO eW) (gN 8) (aF (ak aJ (gI ja jF ee (af eu (af b0 aj))) bh) (fF ee eu))) (az (aF (bO bR (cO eW) [none,none,some 2,some 5] (gN 1) (aD (ak oEq (ak au bg a6) a7)) a6) (gN 9)) (az (bU (aD (ak Dy (aq bM (af ew aj)) b0)) (aK (aI ax (af ef (af (aq ((jU lC iA)) (af ew aj)) aj)))) aP) (qA 6 (λi j=>i+j) a5))))))) (aK fe)))
noncomputable def num:D->Int
 |.tup (_ :: .int m::_)=>m|_=>0
def ot (c:D):Prop:=∃v m r,c = .tup (v :: .int m::r)
noncomputable def EK (a b:List D)(j:Nat):Bool:=!(num (a.getD j .ay)== num (b.getD j .ay))
noncomputable def bH (a b:List D):List Nat:=(nJ a.length).filter (EK a b)
noncomputable def dN (l:List Nat):List D:=l.map λ(j:Nat)=>D.int j
def PV (h:j∈bH A b):j<A.length:=by simp only[bH,xX,ug]at h;exact h.1
def PX:(bH A b).Nodup:=aeD.sublist Pp
def cg {l}:(dN l).length=l.length:=by simp[dN]
def X_:cL (c::m::A) 1=some m:=oH (n:=1) rfl
def nq (f:Fn):Prop:=∀(a b:List D) (g:G),a.length=b.length->a.length<=20->(∀c∈a,ot c)->(∀c∈b,ot c)->f [.tup (a++b)] g=some (.lst (dN (bH a b)),g)
def xS:nq (av false 2 1 oI):=λa b g O Q z x=>by
 have p:l2 (av false 2 1 oI [.tup (a++b)] g) λq=>q=(.lst (dN (bH a b)),g):=by
  refine Ph rfl ?_;have E:(((a.length:Int)+(b.length:Int)) / 2)=(a.length:Int):=by omega
  have H:aC a.length=true:=aR (by omega);have hd:∀i,dh i 2=true:=λi=>gU (by decide) (by decide);simp[oI,hd,E];refine ng ?_;simp[dS,H];refine⟨by omega,?_⟩;refine iV (λi n B f=>(∃o,B = [none,o,some (.int a.length),some (.tup (a++b))])/\n=dN ((nJ i).filter (EK a b))/\f=g) _ 0 _ _ [] ⟨⟨none,rfl⟩,rfl,rfl⟩ ?_ ?_
  . rintro i d n B f hi ⟨⟨o,rfl⟩,rfl,rfl⟩
    obtain⟨c,rfl⟩:=gW hi;simp only[CV];have s:(a++b)[i]? = some a[i]:=by rw[ra c];exact mA c
    have l:(a++b)[a.length+i]? = some b[i]:=by rw[wm (by omega)];simp[mA (show i<b.length by omega)]
    obtain⟨v,m,r,j⟩:=z a[i] (u3 c);obtain⟨R,C,U,k⟩:=x b[i] (u3 (by omega));rw[j]at s;rw[k]at l;have y:=oH s;have u:=oH l;simp only[Int.natCast_add]at u;have I:num (a.getD i .ay)=m:=by rw[qa,mA c,j];rfl
    have J:num (b.getD i .ay)=C:=by rw[qa,mA (show i<b.length by omega),k];rfl
    have h:EK a b i = !(m == C):=by unfold EK;rw[I,J]
    simp[y,u,X_,flat,dep,baZ,List.range_succ,afs,dN,h];by_cases hm:m=C
    . simp[hm,h]
    . simp[hm,h]
  . rintro Y B f ⟨_,e,rfl⟩
    simp[dS]at e;subst e;simp[bH]
 obtain⟨q,e,rfl⟩:=p;exact e
noncomputable def A4 (c:List (List D)):Nat->Nat->Nat
 | 0,_=>0|k+1,j=>A4 c k j+if j∈bH (c.getD k []) (c.getD (k+1) [])then 1 else 0
structure SD (sd:List D)(f:Nat->Nat)(N:Nat):Prop where
 ka:gX sd=true
 at_:∀j:Nat,aM sd (.int j)=if f j=0 then none else some (.int (f j))
 len:sd.length<=N
 nr:aQ 0 sd=true
def SD.put {l f N}(h:SD l f N)(j:Nat):SD (aX l (.int j) (.int (f j+1:Nat))) (λi=>f i+if i=j then 1 else 0) (N+2):=by
 refine⟨nh rfl h.ka,λi=>?_,?_,ni rfl rfl h.nr⟩
 . by_cases e:i=j
   . subst e
     rw[fA rfl h.ka];simp
   . rw[gB rfl rfl (λz=>e (by injection z with z;omega)) h.ka,h.at_]
     simp[e]
 . have:∀(p:List D) k v,(aX p k v).length<=p.length+2:=λp k v=>by
     have:∀(n:Nat) (p:List D),p.length<=n->(aX p k v).length<=p.length+2:=λn=>by
      induction n with
      |zero=>intro p c;match p,c with| [],_=>simp[aX]
      |succ n q =>
       intro p c;match p,c with
       | [],_=>simp[aX]| [a],_=>simp[aX]
       |a::b::r,c =>
        simp only[aX];split
        . simp
        . have:=q r (by simp at c;omega)
          simp;omega
     exact this _ p (mn _)
   have:=this l (.int j) (.int (f j+1:Nat));have:=h.len;omega
noncomputable def dy (n:Nat)(mv:D)(c:List D)(a:Str)(q:Nat)(rb:Nat)(h i p:Option D):Sg:=[some (.int n),some (.int (2*n:Nat)),some mv,some (.tup c),some (.fn a []),some (.bu q),some (.int rb),h,i,p]
noncomputable def c_ (f:Nat->Nat)(l:List Nat):Nat->Nat:=λi=>f i+if i∈l then 1 else 0
noncomputable def eJ (f:Nat->Nat)(mv:D)(l:List Nat):List Nat:=l.filter λj=>bF (.int (f j:Nat)) mv
def l_ {rd:List D}{s m:Nat}(h:s+m<=rd.length):qt rd (some (s:Int)) (some ((s+m:Nat):Int))=(rd.drop s).take m:=by unfold qt;rw[iU (by omega),wY h,show s+m-s=m by omega]
def Ac {σ:Sg}{g:G}{l:List Nat}(y:g[i]? = some A)(S:SD A f o)(nd:l.Nodup)(v:o+2*l.length<=900)(B:σ[5]? = some (some (.bu i)))(x:σ.length=10):
  ∃n p,forL (gN 8) (aF (ak aJ (gI ja jF ee (af eu (af b0 aj))) bh) (fF ee eu)) (dN l) σ g=some (.nx,σ.set 8 p,g.set i n)/\SD n (c_ f l) (o+2*l.length)/\(l = []->σ.set 8 p=σ):=by
 induction l generalizing σ g A f o with
 |nil =>
  refine⟨A,σ[8]'(by omega),?_,⟨S.ka,λj=>by simp[c_,S.at_],S.len,S.nr⟩,λ_=>by simp⟩;simp only[dN,ag7,forL];rw[NZ];obtain⟨c,e⟩:=m5.mp y;rw[<- e,NZ]
 |cons j l C =>
  rw[Dx]at nd;simp only[yw]at v;have c:=(m5.mp y).1;have s:=S.put j;have u:(aM A (.int j)).getD (.int 0)= .int (f j:Nat):=by
    rw[S.at_ j];by_cases e:f j=0
    . simp[e]
    . simp[e]
  have k:kZ A=true:=by unfold kZ;exact aR (by have:=S.len;omega)
  have b:(σ.set 8 (some (.int j)))[5]? = some (some (.bu i)):=by rw[IZ (by decide)];exact B
  have r:(σ.set 8 (some (D.int j)))[8]? = some (some (.int j)):=vT (by omega);have N:aF (ak aJ (gI ja jF ee (af eu (af b0 aj))) bh) (fF ee eu) (σ.set 8 (some (.int j))) g=some (.nx,σ.set 8 (some (.int j)),g.set i (aX A (.int j) (.int (f j+1:Nat)))):=by simp[b,r,y,u,k]
  obtain⟨n,p,h,a,_⟩:=C (σ:=σ.set 8 (some (.int j))) (g:=g.set i (aX A (.int j) (.int (f j+1:Nat)))) (vT c) s nd.2 (by omega) b (by simp[x]);refine⟨n,p,?_,?_,λz=>by cases z⟩
  . simp only[dN,wk,forL]at h ⊢
    rw[show gN 8 (D.int j) σ g=some (σ.set 8 (some (.int j)),g) from rfl];simp only[mI,N];rw[h,Pc,Pc]
  . refine⟨a.ka,λq=>?_,by have:=a.len;simp only[yw];omega,a.nr⟩
    rw[a.at_ q];have:c_ (λq=>f q+if q=j then 1 else 0) l q=c_ f (j::l) q:=by
      unfold c_;by_cases e:q=j
      . subst e;simp[nd.1]
      . simp[e]
    rw[this]
theorem qF {q:Nat}{g:G}{o:List D}{f:Nat->Nat}{mv:D}(k:g[q]? = some o)(c:flat mv=true):∀(l:List Nat),(∀j∈l,aM o (.int j)=some (.int (f j:Nat)))->∀p,cR (gN 1) (aD (ak oEq (ak au bg a6) a7)) a6 (dN l) [none,p,some mv,some (.bu q)] g=some (dN (eJ f mv l),g)
 | [],_,_=>rfl
 |j::l,h,p=>by
  have n:=qF (f:=f) k c l (λi a=>h i (by simp[a])) (some (.int j));have b:=h j (by simp);have e:oEq (.int (f j:Nat)) mv g=some (.bl (bF (.int (f j:Nat)) mv),g):=by simp[oEq,flat,c,dep]
  simp only[dN,wk]at n ⊢;simp only[cR];simp[k,b,e];by_cases r:bF (.int (f j:Nat)) mv=true
  . simp[r,n,eJ,dN]
  . simp[r,n,eJ,dN]
structure Ad (R:Str->Option Fn)(fn:Fn)(nm:Str)(n q rb N:Nat)(mv:D)(rd a b sd:List D)(f:Nat->Nat)(g:G):Prop where
 hR:R nm=some fn
 hf:nq fn
 hw:(rd.drop rb).take (2*n)=a++b
 ha:a.length=n
 hb:b.length=n
 ca:∀c∈a,ot c
 cb:∀c∈b,ot c
 n1:1<=n
 EL:n<=20
 hs:rb+2*n<=rd.length
 hq:g[q]? = some sd
 S:SD sd f N
 hN:N+2*n<=900
 fm:flat mv=true
def xU {fn:Fn}{rd:List D}(H:Ad R fn x i o j h c rd A b l f r):(aF (ff R 4 (af (dj bg (bq ef) (bq (ak aJ ef a6))) aj)) (gN 7)) (dy i c rd x o j Y X U) r=some (.nx,dy i c rd x o j (some (.lst (dN (bH A b)))) X U,r):=by
 have n:=H.hf A b r (by rw[H.ha,H.hb]) (by rw[H.ha];exact H.EL) H.ca H.cb;have q:=l_ (rd:=rd) (s:=j) (m:=2*i) H.hs;rw[H.hw]at q;have nm:ff R 4 (af (dj bg (bq ef) (bq (ak aJ ef a6))) aj) (dy i c rd x o j Y X U) r=some (.lst (dN (bH A b)),r):=by
  rw[Ey (y:=x) (fn:=fn) rfl H.hR];have e:(j:Int)+((2*i:Nat):Int)=((j+2*i:Nat):Int):=by simp
  simp[dy];simp only[ah0]at e q;simp[gH];have e5:qt rd (some (j:Int)) (some ((j:Int)+2*(i:Int)))=A++b:=by rw[<- q];simp
  rw[e5];exact n
 rw[pb,nm];rfl
def LC {o7:Option D}{o8:Option D}{o9:Option D}(H:Ad R u x i o j h c A l b T f r)(e:bH l b = []):∃n,fP R (dy i c A x o j o7 o8 o9) r=some (.rt (.tup [.int j,.ay]),n,r):=by have fn:aC 2=true:=rfl;refine⟨dy i c A x o j (some (.lst (dN (bH l b)))) o8 o9,?_⟩;unfold fP;rw[dP (xU H)];unfold Hh;simp[dy,e,dN,fn]
def EM {sd:List D}{o7:Option D}{o8:Option D}{o9:Option D}(H:Ad R u x i o j h c A T b sd f r)(C:bH T b ≠ []):∃p B,fP R (dy i c A x o j o7 o8 o9) r=qE R (dy i c A x o j (some (.lst (dN (bH T b)))) B (some (.lst (dN (eJ (c_ f (bH T b)) c (bH T b)))))) (r.set o p)/\SD p (c_ f (bH T b)) (h+2*i):=by
 have E:(bH T b).length<=i:=by have:(bH T b).length<=(nJ T.length).length:=N0 _ _;rw[N2,H.ha]at this;exact this
 refine PK (Ac (l:=bH T b) (σ:=dy i c A x o j (some (.lst (dN (bH T b)))) o8 o9) H.hq H.S PX (by have:=H.hN;omega) rfl rfl) λp B n N _=>?_;have rb:SD p (c_ f (bH T b)) (h+2*i):=⟨N.ka,N.at_,by have:=N.len;omega,N.nr⟩
 have mv:(r.set o p)[o]? = some p:=vT (m5.mp H.hq).1;have nm:=qF (f:=c_ f (bH T b)) mv H.fm (bH T b) (λa s=>by rw[rb.at_ a,if_neg];simp[c_,s]) none
 refine⟨p,B,?_,rb⟩;have v:¬(((bH T b).length:Int)=0):=λz=>C (acL.mp (by omega));have zl:aC (bH T b).length=true:=aR (by have:=H.EL;omega);unfold fP;rw[dP (xU H)];unfold Hh;have k:(bU (aD (ak oEq (aq bM (af eW aj)) b0)) (aK (aI ax (af ef (af fe aj)))) aP) (dy i c A x o j (some (.lst (dN (bH T b)))) o8 o9) r=some (.nx,dy i c A x o j (some (.lst (dN (bH T b)))) o8 o9,r):=by simp[dy,cg,v,C]
 rw[dP k];unfold PU;have q:(fO (cO eW) (gN 8) (aF (ak aJ (gI ja jF ee (af eu (af b0 aj))) bh) (fF ee eu))) (dy i c A x o j (some (.lst (dN (bH T b)))) o8 o9) r=some (.nx,dy i c A x o j (some (.lst (dN (bH T b)))) B o9,r.set o p):=by have e:cO eW (dy i c A x o j (some (.lst (dN (bH T b)))) o8 o9) r=some (dN (bH T b),r):=rfl;show((cO eW (dy i c A x o j (some (.lst (dN (bH T b)))) o8 o9) r).bind λfn=>forL _ _ fn.1 _ fn.2)=_;rw[e,mI,n];rfl
 rw[dP q];unfold PR;have y:(aF (bO bR (cO eW) [none,none,some 2,some 5] (gN 1) (aD (ak oEq (ak au bg a6) a7)) a6) (gN 9)) (dy i c A x o j (some (.lst (dN (bH T b)))) B o9) (r.set o p)=some (.nx,dy i c A x o j (some (.lst (dN (bH T b)))) B (some (.lst (dN (eJ (c_ f (bH T b)) c (bH T b))))),r.set o p):=by refine eU ?_;have e:cO eW (dy i c A x o j (some (.lst (dN (bH T b)))) B o9) (r.set o p)=some (dN (bH T b),r.set o p):=rfl;simp only[gR,e,mI,cg,zl,if_true];show((cR (gN 1) _ _ (dN (bH T b)) [none,none,some c,some (.bu o)] (r.set o p)).bind _)=_;rw[nm];rfl
 rw[dP y]
def Jj {o7:Option D}{o8:Option D}{o9:Option D}(H:Ad R u x i o j h c A l b T f r)(nm:bH l b ≠ [])(fn:eJ (c_ f (bH l b)) c (bH l b)= []):∃n q p v,fP R (dy i c A x o j o7 o8 o9) r=some (.nx,dy i c A x o (j+i) q p v,r.set o n)/\SD n (c_ f (bH l b)) (h+2*i):=by obtain⟨n,p,e,S⟩:=EM (o7:=o7) (o8:=o8) (o9:=o9) H nm;refine⟨n,some (.lst (dN (bH l b))),p,some (.lst (dN [])),?_,S⟩;rw[e,fn];unfold qE Hg;simp[dy,dN]
def EN {g:G}(h:i∈v)(k:∀j∈v,i<=j):jU lC iA [.lst (dN v)] g=some (.int i,g):=by
 have e:fE (dN v)=some (v.map λ(j:Nat)=>(j:Int)):=by have:=baF (v.map λ(j:Nat)=>(j:Int));rw[u6]at this;exact this
 have m:(v.map λ(j:Nat)=>(j:Int)).min? = some (i:Int):=by rw[agz];refine⟨mO.mpr ⟨i,h,rfl⟩,λb a=>?_⟩;obtain⟨j,c,rfl⟩:=mO.mp a;have:=k j c;omega
 show iA [.lst (dN v)] g=_;simp[i8,e,m]
def PY {N:Nat}{g:G}{o7:Option D}{o8:Option D}{o9:Option D}(H:Ad R u x o j h N c A l b T f g)(fn:bH l b ≠ [])(q:i∈eJ (c_ f (bH l b)) c (bH l b))(r:∀rb∈eJ (c_ f (bH l b)) c (bH l b),i<=rb):∃p v,fP R (dy o c A x j h o7 o8 o9) g=some (.rt (.tup [.int h,.int i]),v,g.set j p):=by obtain⟨p,n,e,S⟩:=EM (o7:=o7) (o8:=o8) (o9:=o9) H fn;refine⟨p,dy o c A x j h (some (.lst (dN (bH l b)))) n (some (.lst (dN (eJ (c_ f (bH l b)) c (bH l b))))),?_⟩;rw[e];have hm:=EN (g:=g.set j p) q r;have nm:0<(eJ (c_ f (bH l b)) c (bH l b)).length:=agp q;have k:aC 2=true:=rfl;unfold qE;simp[dy,cg,nm,hm,k]
theorem ib {n:Nat}{rest:List D}:∀{cs:List (List D)} {k:Nat},(∀c∈cs,c.length=n)->k<=cs.length->(cs.flatten++rest).drop (k*n)=(cs.drop k).flatten++rest
 |cs,0,_,_=>by simp| [],k+1,_,h=>by simp at h|c::cs,k+1,i,h=>by have a:c.length=n:=i c (by simp);have p:=ib (rest:=rest) (cs:=cs) (k:=k) (λx b=>i x (by simp[b])) (by simpa using h);rw[F1,ta,show(k+1)*n=c.length+k*n by rw[tF,a];omega,List.drop_length_add_append,p];simp
theorem eR {n:Nat}:∀{i:List (List D)},(∀c∈i,c.length=n)->i.flatten.length=i.length*n
 | [],_=>by simp|c::i,h=>by rw[F1,nN,eR λx a=>h x (by simp[a]),h c (by simp),yw,tF];omega
def Hi (f:∀c∈Z,c.length=i)(h:o+1<Z.length):((Z.flatten++A).drop (o*i)).take (2*i)=Z.getD o []++Z.getD (o+1) []:=by
 rw[ib f (by omega)];have e:Z.drop o=Z.getD o []::Z.getD (o+1) []::Z.drop (o+2):=by rw[N8 (by omega),N8 (by omega)];simp[qa,mA h,mA (show o<Z.length by omega)]
 have a:(Z.getD o []).length=i:=by rw[qa,mA (show o<Z.length by omega)];exact f _ (u3 _)
 have b:(Z.getD (o+1) []).length=i:=by rw[qa,mA h];exact f _ (u3 _)
 rw[e,F1,F1,<- ta,ta,adv (by rw[nN,a,b];omega),Dc (by rw[nN,a,b];omega)]
def ma:c_ (A4 Z i) (bH (Z.getD i []) (Z.getD (i+1) []))=A4 Z (i+1):=rfl
def Goes (mv:D)(c:List (List D))(i:Nat):Prop:=bH (c.getD i []) (c.getD (i+1) []) ≠ []/\eJ (A4 c (i+1)) mv (bH (c.getD i []) (c.getD (i+1) []))= []
noncomputable def oJ (mv:D)(c:List (List D))(i:Nat):Option Nat->Prop
 |none=>bH (c.getD i []) (c.getD (i+1) [])= []|some j=>bH (c.getD i []) (c.getD (i+1) []) ≠ []/\j∈eJ (A4 c (i+1)) mv (bH (c.getD i []) (c.getD (i+1) [])) /\ ∀k∈eJ (A4 c (i+1)) mv (bH (c.getD i []) (c.getD (i+1) [])),j<=k
noncomputable def eD:Option Nat->D
 |none=>.ay|some j=>.int j
structure oM (n:Nat)(cs:List (List D)):Prop where
 len:∀c∈cs,c.length=n
 all:∀c∈cs,∀x∈c,ot x
 n1:1<=n
 EL:n<=20
 fB:cs.length*n<=400
theorem oM.getD {n c k}(h:oM n c)(a:k<c.length):(c.getD k []).length=n /\ ∀x∈c.getD k [],ot x:=by rw[qa,mA a];exact⟨h.len _ (u3 _),h.all _ (u3 _)⟩
def xV {rest:List D}(hR:R x=some u)(l:nq u)(n:oM i Z)(fn:flat c=true){k:Nat}(h:k+1<Z.length)(g:r[o]? = some A)(S:SD A (A4 Z k) (k*(2*i))):
   Ad R u x i o (k*i) (k*(2*i)) c (Z.flatten++rest) (Z.getD k []) (Z.getD (k+1) []) A (A4 Z k) r:=by
 obtain⟨nm,a⟩:=n.getD (k:=k) (by omega);obtain⟨f,b⟩:=n.getD (k:=k+1) h;refine⟨hR,l,Hi n.len h,nm,f,a,b,n.n1,n.EL,?_,g,S,?_,fn⟩
 . rw[nN,eR n.len]
   have:(k+2)*i<=Z.length*i:=ac7 _ (by omega);rw[tF]at this;omega
 . have j:=n.fB
   have:(k+2)*i<=Z.length*i:=ac7 _ (by omega);rw[tF]at this;have e:k*(2*i)=2*(k*i):=by rw[Nat.mul_left_comm]
   omega
def nu (h:i+2*o<=A.length):jw (dy o c A x j i Y X U) r=some (true,r):=by
 have e:((i:Int)+2*(o:Int)<=(A.length:Int)):=by omega
 simp[jw,dy,d6,e]
def uR (h:A.length<i+2*o):jw (dy o c A x j i Y X U) r=some (false,r):=by
 have e:¬((i:Int)+2*(o:Int)<=(A.length:Int)):=by omega
 simp[jw,dy,d6,e]
section
variable {q:Nat}{rest:List D}
theorem Ae (hR:R x=some u)(fn:nq u)(B:oM i Z)(v:flat c=true)(mv:rest.length<i):∀(m k p:Nat) (g:G) (sd:List D) (o7 o8 o9:Option D),k+1+m=Z.length->m<p->g[q]? = some sd->SD sd (A4 Z k) (k*(2*i))->(∀nm,k<=nm->nm+1<Z.length->Goes c Z nm) ->
  ∃C y,gF jw (fP R) p (dy i c (Z.flatten++rest) x q (k*i) o7 o8 o9) g=some (.nx,C,g.set q y)/\aQ 0 y=true
 | 0,k,p+1,g,sd,o7,o8,o9,I,J,hq,S,E=>by
  refine⟨dy i c (Z.flatten++rest) x q (k*i) o7 o8 o9,sd,?_,S.nr⟩;simp only[gF];rw[uR (by rw[nN,eR B.len,<- I];simp only[ahe];rw[tF];omega)]
  obtain⟨b,e⟩:=m5.mp hq;simp only[mI,ql,if_false];rw[<- e,NZ]
 |m+1,k,p+1,g,sd,o7,o8,o9,I,J,hq,S,E=>by have H:=xV (rest:=rest) hR fn B v (show k+1<Z.length by omega) hq S;obtain⟨O,f⟩:=E k (mn _) (by omega);obtain⟨y,l,n,h,e,a⟩:=Jj (o7:=o7) (o8:=o8) (o9:=o9) H O (by rw[ma];exact f);rw[ma]at a;have b:=(m5.mp hq).1;obtain⟨C,r,o,j⟩:=Ae hR fn B v mv m (k+1) p (g.set q y) y l n h (by omega) (by omega) (vT b) ⟨a.ka,a.at_,by have:=a.len;rw[tF];omega,a.nr⟩ λnm s=>E nm (by omega);refine⟨C,r,?_,j⟩;simp only[gF];rw[nu H.hs];simp only[mI,if_true,e];rw[show k*i+i=(k+1)*i by rw[tF];omega,o,Pc]
end
section
variable {q:Nat}{rest:List D}
theorem Af (hR:R x=some u)(y:nq u)(E:oM i Z)(z:flat c=true){en:Option Nat}:∀(m k p:Nat) (g:G) (sd:List D) (o7 o8 o9:Option D),k+2+m=Z.length->m<p->g[q]? = some sd->SD sd (A4 Z k) (k*(2*i))->(∀nm,k<=nm->nm+2<Z.length->Goes c Z nm)->oJ c Z (Z.length-2) en ->
  ∃B C,gF jw (fP R) p (dy i c (Z.flatten++rest) x q (k*i) o7 o8 o9) g=some (.rt (.tup [.int ((Z.length-2)*i:Nat),eD en]),B,g.set q C)
 | 0,k,p+1,g,sd,o7,o8,o9,Q,U,hq,S,J,I=>by
  have H:=xV (rest:=rest) hR y E z (show k+1<Z.length by omega) hq S;have o:Z.length-2=k:=by omega
  rw[o]at I ⊢;cases en with
  |none =>
   obtain⟨B,e⟩:=LC (o7:=o7) (o8:=o8) (o9:=o9) H I;refine⟨B,sd,?_⟩;simp only[gF];rw[nu H.hs];simp only[mI,if_true,e];obtain⟨n,fn⟩:=m5.mp hq;rw[<- fn,NZ];rfl
  |some j =>
   obtain⟨O,b,f⟩:=I;rw[<- ma]at b f;obtain⟨C,B,e⟩:=PY (o7:=o7) (o8:=o8) (o9:=o9) H O b f;refine⟨B,C,?_⟩;simp only[gF];rw[nu H.hs];simp only[mI,if_true,e];rfl
 |m+1,k,p+1,g,sd,o7,o8,o9,Q,U,hq,S,J,I=>by have H:=xV (rest:=rest) hR y E z (show k+1<Z.length by omega) hq S;obtain⟨O,b⟩:=J k (mn _) (by omega);obtain⟨C,r,h,l,e,a⟩:=Jj (o7:=o7) (o8:=o8) (o9:=o9) H O (by rw[ma];exact b);rw[ma]at a;have n:=(m5.mp hq).1;obtain⟨B,v,s⟩:=Af hR y E z (en:=en) m (k+1) p (g.set q C) C r h l (by omega) (by omega) (vT n) ⟨a.ka,a.at_,by have:=a.len;rw[tF];omega,a.nr⟩ (λnm mv=>J nm (by omega)) I;refine⟨B,v,?_⟩;simp only[gF];rw[nu H.hs];simp only[mI,if_true,e];rw[show k*i+i=(k+1)*i by rw[tF];omega,s,Pc]
end
def last_eq:cK R=az (aF rK (gN 5)) (az (aF b0 (gN 6)) (az (Dh 1000000 jw (fP R)) (aK fe))):=rfl
def EO (h:Bd r)(e:Q.take r.length=r):(Q.take r.length).all (aQ r.length)=true:=by rw[e,HL];intro x b;obtain⟨i,a⟩:=aeK.mp b;exact h i x a
def take_set:((r ++ [[]]).set r.length A).take r.length=r:=by rw[adF _ _ (mn _)];simp
def last_run (a:Bd r)(b:bT r.length c=true)(h:gF jw (fP R) 1000000 (dy i m l x r.length 0 none none none) (r ++ [[]])=some (.rt c,k,(r ++ [[]]).set r.length A)):av false 10 5 (cK R) [.int i,.int (2*i:Nat),m,.tup l,.fn x []] r=some (c,r):=by
 have n:l2 (av false 10 5 (cK R) [.int i,.int (2*i:Nat),m,.tup l,.fn x []] r) λq=>q=(c,r):=by
  refine jY rfl ?_;have e:cK R ([D.int i,.int (2*i:Nat),m,.tup l,.fn x []].map some++m6 (10-5) none) r=some (.rt c,k,(r ++ [[]]).set r.length A):=by rw[last_eq,dP (σ1:=[some (.int i),some (.int (2*i:Nat)),some m,some (.tup l),some (.fn x []),some (.bu r.length),none,none,none,none]) (g1:=r ++ [[]]) rfl,dP (σ1:=dy i m l x r.length 0 none none none) (g1:=r ++ [[]]) rfl];exact l6 h
  rw[e];simp only[gw];exact⟨b,EO a take_set,by simp,by rw[take_set]⟩
 obtain⟨q,e,rfl⟩:=n;exact e
def uS {σ':Sg}{sd':List D}(a:Bd r)(h:gF jw (fP R) 1000000 (dy i c A x r.length 0 none none none) (r ++ [[]])=some (.nx,σ',(r ++ [[]]).set r.length sd')):av false 10 5 (cK R) [.int i,.int (2*i:Nat),c,.tup A,.fn x []] r=some (.ay,r):=by
 have n:l2 (av false 10 5 (cK R) [.int i,.int (2*i:Nat),c,.tup A,.fn x []] r) λq=>q=(.ay,r):=by
  refine jY rfl ?_;have e:cK R ([D.int i,.int (2*i:Nat),c,.tup A,.fn x []].map some++m6 (10-5) none) r=some (.rt .ay,σ',(r ++ [[]]).set r.length sd'):=by rw[last_eq,dP (σ1:=[some (.int i),some (.int (2*i:Nat)),some c,some (.tup A),some (.fn x []),some (.bu r.length),none,none,none,none]) (g1:=r ++ [[]]) rfl,dP (σ1:=dy i c A x r.length 0 none none none) (g1:=r ++ [[]]) rfl];exact(dP h).trans rfl
  rw[e];simp only[gw];exact⟨rfl,EO a take_set,by simp,by rw[take_set]⟩
 obtain⟨q,e,rfl⟩:=n;exact e
def ER {rest:List D}(hR:R x=some u)(h:nq u)(b:oM i Z)(k:flat c=true)(l:rest.length<i)(nm:Bd r)(f:∀fn,fn+1<Z.length->Goes c Z fn):av false 10 5 (cK R) [.int i,.int (2*i:Nat),c,.tup (Z.flatten++rest),.fn x []] r=some (.ay,r):=by
 by_cases n:Z = []
 . subst n
   refine uS (sd':=[]) (σ':=dy i c rest x r.length 0 none none none) nm ?_;show((jw _ _).bind _)=_;rw[af5,P_,uR (by omega)];simp only[mI,ql,if_false];rw[adF _ _ (mn _)];simp
 . have a:0<Z.length:=ae3.mpr n
   obtain⟨σ',sd',e,_⟩:=Ae (q:=r.length) (rest:=rest) hR h b k l (Z.length-1) 0 1000000 (r ++ [[]]) [] none none none (by omega) (by have:=b.fB;have:=af8 Z.length b.n1;omega) (by simp) (by rw[aea];exact⟨rfl,λj=>by simp[aM,A4],by simp,rfl⟩) λfn _=>f fn;rw[aea]at e;exact uS nm e
def ES {rest:List D}(hR:R x=some u)(k:nq u)(nm:oM i Z)(l:flat c=true)(o:Bd r)(en:2<=Z.length)(f:∀fn,fn+2<Z.length->Goes c Z fn)(h:oJ c Z (Z.length-2) z):av false 10 5 (cK R) [.int i,.int (2*i:Nat),c,.tup (Z.flatten++rest),.fn x []] r=some (.tup [.int ((Z.length-2)*i:Nat),eD z],r):=by obtain⟨b,a,e⟩:=Af (q:=r.length) (rest:=rest) hR k nm l (Z.length-2) 0 1000000 (r ++ [[]]) [] none none none (by omega) (by have:=nm.fB;have:=af8 Z.length nm.n1;omega) (by simp) (by rw[aea];exact⟨rfl,λj=>by simp[aM,A4],by simp,rfl⟩) (λfn _=>f fn) h;rw[aea]at e;refine last_run o ?_ e;cases z<;>simp[bT,aQ,eD]
noncomputable def PZ (c:Str)(a b moves:Fn):FS:=aK (aI ax (af (aI ax (af fh (af (ak au (ak au ee (ak au bg bh)) dV) aj))) (af d4 aj)))
noncomputable def P0 (c:Str)(a b moves:Fn):FS:=az (bU (aD (ak kY (ak au bg bh) fe)) (aK (aI ax (af (aI ax (af fh (af (aq gG (af (bO bR (cO ee) [none,none] (gN 1) cG (ak au a6 b0)) aj)) aj))) (af d4 aj)))) aP) (PZ c a b moves)
noncomputable def P1 (c:Str)(a b moves:Fn):FS:=az (aF (dj a6 (bq (ak (bt bV (· - ·)) d4 a7)) (bq d4)) (gN 5)) (P0 c a b moves)
noncomputable def P2 (c:Str)(a b moves:Fn):FS:=az (aF (ak aJ (ak au bg b0) (ak bj dV a7)) (gN 4)) (P1 c a b moves)
noncomputable def Hj (c:Str)(a b moves:Fn):FS:=az (bU (aD (ak kY bg fe)) (aK (aI ax (af (aI ax (af hY (af (aI ax (af fb (af (ak (bt cD (· % ·)) (aq bM (af a6 aj)) a7) aj))) aj))) (af (aq bM (af a6 aj)) aj)))) aP) (P2 c a b moves)
noncomputable def Hk (c:Str)(b a moves:Fn):FS:=az (aF (aq a (af a7 (af (ak bj dV a7) (af (aq moves (af a5 aj)) (af a6 (af (fC (.fn c [])) aj)))))) (gN 3)) (Hj c b a moves)
noncomputable def oN (c:Str)(a b moves:Fn):FS:=az (aF (aq a (af a5 aj)) (gN 2)) (Hk c a b moves)
noncomputable def Hl:D->D
 |.tup (v::_)=>v|_=>.ay
noncomputable def VF:D->D
 |.tup (_::_::w::_)=>w|_=>.ay
noncomputable def lF (c:List D):Option Nat->D
 |none=>.tup (c.map Hl)|some j=>VF (c.getD j .ay)
def LD {rest:List D}(hh:∀r,H [m] r=some (.int i,r))(nm:∀r,E [m] r=some (c,r))(hR:R x=some u)(fn:nq u)(l:oM i Z)(s:flat c=true)(v:rest.length<i)(y:Bd r)(o:∀n,n+1<Z.length->Goes c Z n):
  av false 6 2 (oN x H (av false 10 5 (cK R)) E) [m,.tup (Z.flatten++rest)] r=some (.tup [.tup [.str "read",own "own" ((Z.flatten++rest).length % i)],.int (Z.flatten++rest).length],r):=by
 have e:=ER hR fn l s v y o;have j:=l.n1;have k:((i:Int))≠0:=by omega
 have h:aC 2=true:=rfl;have f:cu 2 (i:Int)=true:=iX (by decide) (by decide);have mv:∀n:Int,cD n (i:Int)=true:=λn=>eQ (by omega);have b:((2*i:Nat):Int)=2*(i:Int):=by simp
 rw[b]at e;have p:l2 (av false 6 2 (oN x H (av false 10 5 (cK R)) E) [m,.tup (Z.flatten++rest)] r) λq=>q=(.tup [.tup [.str "read",own "own" ((Z.flatten++rest).length % i)],.int (Z.flatten++rest).length],r):=by generalize Z.flatten++rest=B at e ⊢;refine Ph rfl ?_;simp[oN,hh];unfold Hk;simp[hh,nm,f,e];unfold Hj;have a:kY .ay .ay r=some (.bl true,r):=rfl;simp[a,h,mv,own,show gv .ay=true from rfl]
 obtain⟨q,e,rfl⟩:=p;exact e
def Hm (b:oM o Z)(h:i<Z.length):((Z.flatten++A).drop (i*o)).take o=Z.getD i []:=by rw[ib b.len (by omega),N8 h,F1,ta];have a:Z[i].length=o:=b.len _ (u3 _);rw[adv (by omega),Dc (by omega),qa,mA h];rfl
theorem baU {g:G}:∀(c:List D),(∀x∈c,ot x)->∀i,cR (gN 1) cG (ak au a6 b0) c [none,i] g=some (c.map Hl,g)
 | [],_,_=>rfl|x::c,h,i=>by have p:=baU (g:=g) c (λy a=>h y (by simp[a])) (some x);obtain⟨v,m,r,rfl⟩:=h x (by simp);have b:cL (v :: .int m::r) 0=some v:=oH (n:=0) rfl;simp only[cR];simp[b,p,Hl]
def LF {rest:List D}{g:G}(hh:∀g,H [m] g=some (.int i,g))(I:∀g,E [m] g=some (c,g))(hR:R x=some u)(p:nq u)(A:oM i Z)(mv:flat c=true)(J:Bd g)(L:2<=Z.length){en:Option Nat}(C:∀nm,nm+2<Z.length->Goes c Z nm)(B:oJ c Z (Z.length-2) en)(K:en≠none->∀n∈Z,∀U∈n,∃v m w,U = .tup [v,.int m,w]):
  av false 6 2 (oN x H (av false 10 5 (cK R)) E) [m,.tup (Z.flatten++rest)] g=some (.tup [.tup [.str "told",lF (Z.getD (Z.length-1) []) en],.int (Z.length*i:Nat)],g):=by
 have e:=ES (rest:=rest) hR p A mv J L C B;have n1:=A.n1;have h:aC 2=true:=rfl;have r:cu 2 (i:Int)=true:=iX (by decide) (by decide);have Y:((2*i:Nat):Int)=2*(i:Int):=by simp
 rw[Y]at e;have O:Z.length*i<=(Z.flatten++rest).length:=by rw[nN,eR A.len];omega
 have fn:(((Z.length-2)*i:Nat):Int)+2*(i:Int)=((Z.length*i:Nat):Int):=by
  have:(Z.length-2)*i+2*i=Z.length*i:=by rw[<- tF];congr 1;omega
  rw[<- this];simp
 have z:((Z.length*i:Nat):Int)-(i:Int)=(((Z.length-1)*i:Nat):Int):=by
  have:(Z.length-1)*i+i=Z.length*i:=by rw[show(Z.length-1)*i+i=(Z.length-1+1)*i by rw[tF];omega];congr 1;omega
  omega
 have ec:qt (Z.flatten++rest) (some (((Z.length-1)*i:Nat):Int)) (some ((Z.length*i:Nat):Int))=Z.getD (Z.length-1) []:=by
  have h1:(Z.length-1)*i+i=Z.length*i:=by rw[show(Z.length-1)*i+i=(Z.length-1+1)*i by rw[tF];omega];congr 1;omega
  have:=l_ (rd:=Z.flatten++rest) (s:=(Z.length-1)*i) (m:=i) (by omega);rw[h1]at this;rw[this,Hm A (by omega)]
 obtain⟨l,o⟩:=A.getD (k:=Z.length-1) (by omega);have f:Z.getD (Z.length-1) []∈Z:=by rw[qa,mA (show Z.length-1<Z.length by omega)];exact u3 _
 have Q:l2 (av false 6 2 (oN x H (av false 10 5 (cK R)) E) [m,.tup (Z.flatten++rest)] g) λq=>q=(.tup [.tup [.str "told",lF (Z.getD (Z.length-1) []) en],.int (Z.length*i:Nat)],g):=by
  generalize Z.flatten++rest=rd at e ec O ⊢;generalize hL:Z.getD (Z.length-1) []=n at ec l o f ⊢;generalize (Z.length-2)*i=u0 at e fn;generalize Z.length*i=u1 at *;generalize (Z.length-1)*i=u2 at *;refine Ph rfl ?_;simp[oN,hh];unfold Hk;simp[hh,I,r,e];unfold Hj;have hi:gv (.tup [.int u0,eD en])=false:=rfl;simp[hi];unfold P2;simp[TH,r,fn];unfold P1;simp[z,gH,ec];unfold P0;cases en with
  |none =>
   have zc:aC n.length=true:=by rw[l];exact aR (by have:=A.EL;omega)
   have cv:=baU (g:=g) n o none;simp[BZ,eD,show gv .ay=true from rfl,zc,cv,h,lF]
  |some j =>
   obtain⟨_,hj,_⟩:=B;have b:j<n.length:=by have:=PV (xX.mp hj).1;obtain⟨l3,_⟩:=A.getD (k:=Z.length-2) (by omega);omega
   obtain⟨v,k,w,y⟩:=K (by simp) n f n[j] (u3 b);have a1:cL n (j:Int)=some (.tup [v,.int k,w]):=oH (by rw[mA b,y]);have a2:cL [v,.int k,w] 2=some w:=rfl;have a:lF n (some j)=w:=by simp only[lF];rw[qa,mA b,y];rfl
   simp[BZ,eD,show gv (.int (j:Int))=false from rfl];unfold PZ;simp[BZ,a1,a2,h,a]
 obtain⟨q,e,rfl⟩:=Q;exact e
def wp_seq {Q:F×Sg×G->Prop}(h:l2 (O k r) λi=>i.1 = .nx/\l2 (J i.2.1 i.2.2) Q):l2 (az O J k r) Q:=by obtain⟨⟨i,c,n⟩,e,a,b⟩:=h;dsimp only at a b;subst a;rw[sY,e];exact b
end
section
variable {R:Str->Option Fn}{w Q:List D}{a:List (List Nat)}{Z:List Nat}{Y:List (List D)}{X U T:Option D}{O J:G}{f:Nat->Nat}{K E:FS}{b y d:D}{I:Sg}{H:Option (F×Sg×G)}{t:FT}{B:F×Sg×G->Prop}{v:FE}{s m:Fn}{q:FA}{p:Nat}
def bp {σ1:Sg}{g1:G}{f1:FS}(h:f1 k r=some (.nx,σ1,g1))(c:K σ1 g1=H):az f1 K k r=H:=(dP h).trans c
def bD {g1:G}(h:C k r=some (d,g1))(c:K (k.set i (some d)) g1=H):az (aF C (gN i)) K k r=H:=bp (eU h) c
def fT {g1:G}{g2:G}(c:t k r=some (true,g1))(h:C k g1=some (d,g2)):az (bU t (aK C) K) E k r=some (.rt d,k,g2):=l6 ((kG c).trans (cU h))
def pD {σ1:Sg}{g1:G}(h:K k r=some (.nx,σ1,g1))(c:l2 (E σ1 g1) B):l2 (az K E k r) B:=by rw[dP h];exact c
def k_ {g1:G}(h:C k r=some (d,g1))(c:l2 (K (k.set i (some d)) g1) B):l2 (az (aF C (gN i)) K k r) B:=pD (eU h) c
def Jk (c:t k r=some (true,O))(h:K k O=some (.nx,I,J)):gF t K (i+1) k r=gF t K i I J:=by simp only[gF,c,mI,if_true,h]
def Jl (c:t k r=some (true,O))(h:K k O=some (.rt d,I,J)):gF t K (i+1) k r=some (.rt d,I,J):=by simp only[gF,c,mI,if_true,h]
def bK {g1:G}{g2:G}{f:FE}{f':FE}{d':D}{o:D->D->G->Option (D×G)}(h:f k r=some (d,g1))(c:f' k g1=some (d',g2)):ak o f f' k r=o d d' g2:=by simp[h,c]
def B0 {g1:G}{g2:G}{d':D}(h:C k r=some (d,g1))(c:v k g1=some (d',g2)):mR i j (af C (af v aj)) k r=some (.nx,(k.set i (some d)).set j (some d'),g2):=by simp[h,c]
def so {σ:Sg}{g:G}{g1:G}{n:Nat}{fr:FA}(h:fr σ g=some ([.int n],g1))(b:n<=1000):iz fr σ g=some (fU 0 n,g1):=by obtain⟨q,a,e⟩:=ng (fr:=fr) (σ:=σ) (g:=g) (Q:=λq=>q=(fU 0 n,g1)) ⟨_,h,n,rfl,by omega,by omega,by simp⟩;rw[a,e]
def me {l:List Nat}:bJ (dN l)=true:=by
 induction l with
 |nil=>rfl|cons x l c=>exact c
noncomputable def fL (n:Nat)(mv:D)(c:List D)(a:D)(q:Nat)(rb:Nat)(h i p:Option D):Sg:=[some (.int n),some (.int n),some mv,some (.tup c),some a,some (.bu q),some (.int rb),h,i,p]
def uT {y:Str}{ds:List D}{fn:Fn}(h:k[i]? = some (some (.fn y ds)))(a:R y=some fn):ff R i q k r=(q k r).bind λfr=>fn (ds++fr.1) fr.2:=by unfold ff;rw[h];simp[a]
structure Ag (R:Str->Option Fn)(fn:Fn)(nm:Str)(cap:List D)(n q rb N:Nat)(mv:D)(rd w:List D)(ms:List Nat)(sd:List D)(f:Nat->Nat)(g:G):Prop where
 hR:R nm=some fn
 hw:(rd.drop rb).take n=w
 hf:∀g,fn (cap ++ [.tup w]) g=some (.lst (dN ms),g)
 nd:ms.Nodup
 ml:ms.length<=20
 hs:rb+n<=rd.length
 hq:g[q]? = some sd
 S:SD sd f N
 hN:N+40<=900
 fm:flat mv=true
def xY {fn:Fn}{rd:List D}(H:Ag R fn x A i o j h c rd w Z l f r):(aF (ff R 4 (af (dj bg (bq ef) (bq (ak aJ ef a6))) aj)) (gN 7)) (fL i c rd (.fn x A) o j X U T) r=some (.nx,fL i c rd (.fn x A) o j (some (.lst (dN Z))) U T,r):=by have a:=l_ (rd:=rd) (s:=j) (m:=i) H.hs;rw[H.hw]at a;refine eU ?_;rw[uT (y:=x) (ds:=A) (fn:=fn) rfl H.hR];simp[fL,gH];rw[show(j:Int)+(i:Int)=((j+i:Nat):Int) by simp,a];exact H.hf r
def LG {o7:Option D}{o8:Option D}{o9:Option D}(H:Ag R u x A i o j h c l w Z Q f r)(b:Z = []):∃n,fP R (fL i c l (.fn x A) o j o7 o8 o9) r=some (.rt (.tup [.int j,.ay]),n,r):=by have a:aC 2=true:=rfl;exact⟨_,bp (xY H) (fT (g1:=r) (d:=.tup [.int j,.ay]) (g2:=r) (by simp[fL,b,dN]) (by simp[fL,a]))⟩
def ET {sd:List D}{o7:Option D}{o8:Option D}{o9:Option D}(H:Ag R u x A i o j h c Q w Z sd f r)(fn:Z ≠ []):∃p v,fP R (fL i c Q (.fn x A) o j o7 o8 o9) r=qE R (fL i c Q (.fn x A) o j (some (.lst (dN Z))) v (some (.lst (dN (eJ (c_ f Z) c Z))))) (r.set o p)/\SD p (c_ f Z) (h+40):=by
 have y:=H.ml;refine PK (Ac (l:=Z) (σ:=fL i c Q (.fn x A) o j (some (.lst (dN Z))) o8 o9) H.hq H.S H.nd (by have:=H.hN;omega) rfl rfl) λp v n a _=>?_;have b:SD p (c_ f Z) (h+40):=⟨a.ka,a.at_,by have:=a.len;omega,a.nr⟩
 have q:(r.set o p)[o]? = some p:=vT (m5.mp H.hq).1;have e:=qF (f:=c_ f Z) q H.fm Z (λrb k=>by rw[b.at_ rb,if_neg];simp[c_,k]) none
 have nm:¬((Z.length:Int)=0):=λz=>fn (acL.mp (by omega));have zl:aC Z.length=true:=aR (by omega);exact⟨p,v,bp (xY H) (bp ((cM (g1:=r) (by simp[fL,cg,nm,fn])).trans rfl) (bp (f1:=fO (cO eW) (gN 8) (aF (ak aJ (gI ja jF ee (af eu (af b0 aj))) bh) (fF ee eu))) n (bD (d:=.lst (dN (eJ (c_ f Z) c Z))) (g1:=r.set o p) (by simp[fL,cO,bA,cg,zl,cz,e,bR]) rfl))),b⟩
def Jm {o7:Option D}{o8:Option D}{o9:Option D}(H:Ag R u x A i o j h c l w Z Q f r)(a:Z ≠ [])(b:eJ (c_ f Z) c Z = []):∃n q p v,fP R (fL i c l (.fn x A) o j o7 o8 o9) r=some (.nx,fL i c l (.fn x A) o (j+i) q p v,r.set o n)/\SD n (c_ f Z) (h+40):=by obtain⟨n,p,e,S⟩:=ET (o7:=o7) (o8:=o8) (o9:=o9) H a;refine⟨n,some (.lst (dN Z)),p,some (.lst (dN [])),?_,S⟩;rw[e,b];unfold qE Hg;simp[fL,dN]
def P5 {g:G}{o7:Option D}{o8:Option D}{o9:Option D}(H:Ag R u x A i o j p c l w Z Q f g)(k:Z ≠ [])(fn:h∈eJ (c_ f Z) c Z)(r:∀n∈eJ (c_ f Z) c Z,h<=n):∃q v,fP R (fL i c l (.fn x A) o j o7 o8 o9) g=some (.rt (.tup [.int j,.int h]),v,g.set o q):=by obtain⟨q,a,e,S⟩:=ET (o7:=o7) (o8:=o8) (o9:=o9) H k;refine⟨q,fL i c l (.fn x A) o j (some (.lst (dN Z))) a (some (.lst (dN (eJ (c_ f Z) c Z)))),?_⟩;rw[e];have hm:=EN (g:=g.set o q) fn r;have b:0<(eJ (c_ f Z) c Z).length:=agp fn;have nm:aC 2=true:=rfl;unfold qE;simp[fL,cg,b,hm,nm]
noncomputable def gY (a:List (List Nat)):Nat->Nat->Nat
 | 0,_=>0|k+1,j=>gY a k j+if j∈a.getD k []then 1 else 0
def xZ:c_ (gY a i) (a.getD i [])=gY a (i+1):=rfl
def fH (mv:D)(a:List (List Nat))(i:Nat):Prop:=a.getD i [] ≠ []/\eJ (gY a (i+1)) mv (a.getD i [])= []
noncomputable def jV (mv:D)(a:List (List Nat))(i:Nat):Option Nat->Prop
 |none=>a.getD i []= []|some j=>a.getD i [] ≠ []/\j∈eJ (gY a (i+1)) mv (a.getD i []) /\ ∀k∈eJ (gY a (i+1)) mv (a.getD i []),j<=k
structure x4 (fn:Fn)(cap:List D)(n:Nat)(ws:List (List D))(ps:List (List Nat)):Prop where
 len:∀w∈ws,w.length=n
 lp:ps.length=ws.length
 n1:1<=n
 fB:ws.length<=20
 at_:∀i,i<ws.length->(∀g,fn (cap ++ [.tup (ws.getD i [])]) g=some (.lst (dN (ps.getD i [])),g))/\(ps.getD i []).Nodup/\(ps.getD i []).length<=20
def LH (a:∀w∈Y,w.length=o)(h:i<Y.length):((Y.flatten++A).drop (i*o)).take o=Y.getD i []:=by
 rw[ib a (by omega),N8 h,F1,ta];have e:Y.getD i []=Y[i]:=by rw[qa,mA h];rfl
 rw[e,adv (by rw[a _ (u3 h)];exact mn _),Dc (by rw[a _ (u3 h)];exact mn _)]
def x5 {rest:List D}(hR:R x=some u)(n:x4 u l o Y a)(k:flat c=true)(h:i<Y.length)(e:r[j]? = some A)(S:SD A (gY a i) (i*40)):
   Ag R u x l o j (i*o) (i*40) c (Y.flatten++rest) (Y.getD i []) (a.getD i []) A (gY a i) r:=by
 obtain⟨p,q,g⟩:=n.at_ i h;refine⟨hR,LH n.len h,p,q,g,?_,e,S,?_,k⟩
 . rw[nN,eR n.len]
   have:(i+1)*o<=Y.length*o:=ac7 _ (by omega);rw[tF]at this;omega
 . have:=n.fB;omega
def ny (h:i+o<=A.length):jw (fL o b A c j i X U T) r=some (true,r):=by
 have e:((i:Int)+(o:Int)<=(A.length:Int)):=by omega
 simp[jw,fL,d6,e]
def EU (h:A.length<i+o):jw (fL o b A c j i X U T) r=some (false,r):=by
 have e:¬((i:Int)+(o:Int)<=(A.length:Int)):=by omega
 simp[jw,fL,d6,e]
section
variable {q:Nat}{rest:List D}
theorem Ah (hR:R x=some u)(B:x4 u A i Y a)(fn:flat c=true)(v:rest.length<i):∀(m k p:Nat) (g:G) (sd:List D) (o7 o8 o9:Option D),k+m=Y.length->m<p->g[q]? = some sd->SD sd (gY a k) (k*40)->(∀nm,k<=nm->nm<Y.length->fH c a nm) ->
  ∃C y,gF jw (fP R) p (fL i c (Y.flatten++rest) (.fn x A) q (k*i) o7 o8 o9) g=some (.nx,C,g.set q y)/\aQ 0 y=true
 | 0,k,p+1,g,sd,o7,o8,o9,J,O,hq,S,E=>by
  refine⟨fL i c (Y.flatten++rest) (.fn x A) q (k*i) o7 o8 o9,sd,?_,S.nr⟩;simp only[gF];rw[EU (by rw[nN,eR B.len,<- J];simp only[ahe];omega)]
  obtain⟨b,e⟩:=m5.mp hq;simp only[mI,ql,if_false];rw[<- e,NZ]
 |m+1,k,p+1,g,sd,o7,o8,o9,J,O,hq,S,E=>by have H:=x5 (rest:=rest) hR B fn (show k<Y.length by omega) hq S;obtain⟨Q,f⟩:=E k (mn _) (by omega);obtain⟨y,l,I,h,e,n⟩:=Jm (o7:=o7) (o8:=o8) (o9:=o9) H Q (by rw[xZ];exact f);rw[xZ]at n;have b:=(m5.mp hq).1;obtain⟨C,r,o,j⟩:=Ah hR B fn v m (k+1) p (g.set q y) y l I h (by omega) (by omega) (vT b) ⟨n.ka,n.at_,by have:=n.len;rw[tF];omega,n.nr⟩ λnm s=>E nm (by omega);refine⟨C,r,(Jk (ny H.hs) e).trans ?_,j⟩;rw[show k*i+i=(k+1)*i by rw[tF];omega,o,Pc]
end
section
variable {q:Nat}{rest:List D}
theorem Ai (hR:R x=some u)(E:x4 u A i Y a)(y:flat c=true){en:Option Nat}:∀(m k p:Nat) (g:G) (sd:List D) (o7 o8 o9:Option D),k+1+m=Y.length->m<p->g[q]? = some sd->SD sd (gY a k) (k*40)->(∀nm,k<=nm->nm+1<Y.length->fH c a nm)->jV c a (Y.length-1) en ->
  ∃B C,gF jw (fP R) p (fL i c (Y.flatten++rest) (.fn x A) q (k*i) o7 o8 o9) g=some (.rt (.tup [.int ((Y.length-1)*i:Nat),eD en]),B,g.set q C)
 | 0,k,p+1,g,sd,o7,o8,o9,U,Z,hq,S,O,I=>by
  have H:=x5 (rest:=rest) hR E y (show k<Y.length by omega) hq S;have o:Y.length-1=k:=by omega
  rw[o]at I ⊢;cases en with
  |none =>
   obtain⟨B,e⟩:=LG (o7:=o7) (o8:=o8) (o9:=o9) H I;refine⟨B,sd,(Jl (ny H.hs) e).trans ?_⟩;obtain⟨J,fn⟩:=m5.mp hq;rw[<- fn,NZ];rfl
  |some j =>
   obtain⟨Q,b,f⟩:=I;rw[<- xZ]at b f;obtain⟨C,B,e⟩:=P5 (o7:=o7) (o8:=o8) (o9:=o9) H Q b f;exact⟨B,C,Jl (ny H.hs) e⟩
 |m+1,k,p+1,g,sd,o7,o8,o9,U,Z,hq,S,O,I=>by have H:=x5 (rest:=rest) hR E y (show k<Y.length by omega) hq S;obtain⟨Q,b⟩:=O k (mn _) (by omega);obtain⟨C,r,h,l,e,mv⟩:=Jm (o7:=o7) (o8:=o8) (o9:=o9) H Q (by rw[xZ];exact b);rw[xZ]at mv;have J:=(m5.mp hq).1;obtain⟨B,v,s⟩:=Ai hR E y (en:=en) m (k+1) p (g.set q C) C r h l (by omega) (by omega) (vT J) ⟨mv.ka,mv.at_,by have:=mv.len;rw[tF];omega,mv.nr⟩ (λnm n=>O nm (by omega)) I;refine⟨B,v,(Jk (ny H.hs) e).trans ?_⟩;rw[show k*i+i=(k+1)*i by rw[tF];omega,s,Pc]
end
def uU (n:bT 0 d=true)(h:az (Dh 1000000 jw (fP R)) (aK fe) (fL i b l c 0 0 none none none) [[]]=some (.rt d,k,[A])):av false 10 5 (cK R) [.int i,.int i,b,.tup l,c] []=some (d,[]):=by
 have p:l2 (av false 10 5 (cK R) [.int i,.int i,b,.tup l,c] []) λq=>q=(d,[]):=by refine jY rfl ?_;rw[last_eq];refine k_ (d:=.bu 0) (g1:=[[]]) rfl (k_ (d:=.int 0) (g1:=[[]]) rfl ⟨_,h,?_⟩);exact⟨n,by simp,by simp,by simp⟩
 obtain⟨q,e,rfl⟩:=p;exact e
def P6:SD [] (gY a 0) i:=⟨rfl,λj=>by simp[aM,gY],by simp,rfl⟩
def sr {mv:D}{rest:List D}(hR:R x=some u)(D:x4 u A i Y a)(f:flat mv=true)(h:rest.length<i)(c:∀fn,fn<Y.length->fH mv a fn):av false 10 5 (cK R) [.int i,.int i,mv,.tup (Y.flatten++rest),.fn x A] []=some (.ay,[]):=by obtain⟨b,nm,e,_⟩:=Ah (q:=0) (rest:=rest) hR D f h Y.length 0 1000000 [[]] [] none none none (by omega) (by have:=D.fB;omega) rfl P6 λfn _=>c fn;rw[aea]at e;exact uU rfl ((dP e).trans rfl)
def su {mv:D}{rest:List D}(hR:R x=some u)(D:x4 u A i Y a)(h:flat mv=true)(j:1<=Y.length){en:Option Nat}(c:∀fn,fn+1<Y.length->fH mv a fn)(f:jV mv a (Y.length-1) en):av false 10 5 (cK R) [.int i,.int i,mv,.tup (Y.flatten++rest),.fn x A] []=some (.tup [.int ((Y.length-1)*i:Nat),eD en],[]):=by obtain⟨b,nm,e⟩:=Ai (q:=0) (rest:=rest) hR D h (Y.length-1) 0 1000000 [[]] [] none none none (by omega) (by have:=D.fB;omega) rfl P6 (λfn _=>c fn) f;rw[aea]at e;refine uU ?_ (l6 e);cases en<;>simp[bT,aQ,eD]
theorem uV (val:Nat->Int):∀(n:Nat) (k:Int),k∈bY val n ↔ ∃i,i<n/\val i=k
 | 0,k=>by simp[bY]
 |n+1,k=>by
  have c:=uV val n;unfold bY j9;have:k∈(if val n∈bY val n then bY val n else bY val n ++ [val n])↔ k∈bY val n\/k=val n:=by
    split
    . rename_i h
      exact⟨.inl,λa=>by rcases a with a|rfl;exact a;exact h⟩
    . simp
  rw[this,c];constructor
  . rintro(⟨i,b,a⟩|rfl)
    . exact⟨i,by omega,a⟩
    . exact⟨n,by omega,rfl⟩
  . rintro⟨i,b,a⟩
    by_cases e:i=n
    . subst e;exact .inr a.symm
    . exact .inl ⟨i,by omega,a⟩
theorem x6 (val:Nat->Int):∀n,(bY val n).Nodup
 | 0=>RT
 |n+1=>by
  have i:=x6 val n;unfold bY j9;split
  . exact i
  . rename_i h
    rw[Ux];exact⟨i,by simp,λa e b c z=>by simp at c;subst c;subst z;exact h e⟩
def Hn (c:List Int)(k:Int):k∈bY (λi=>c.getD i 0) c.length ↔ k∈c:=by
 rw[uV,Qe];constructor
 . rintro⟨i,a,b⟩
   exact⟨i,a,by simpa[a]using b⟩
 . rintro⟨i,a,b⟩
   exact⟨i,a,by simpa[a]using b⟩
def EV {L ms:List Nat}(h:∀j,j∈ms ↔ j∈L)(nd:ms.Nodup)(f:ms.Pairwise (· <= ·)):Qi (bY (λi=>(L.map λ(j:Nat)=>(j:Int)).getD i 0) (L.map λ(j:Nat)=>(j:Int)).length)=ms.map λ(j:Nat)=>(j:Int):=by
 refine(af4 ((List.perm_ext_iff_of_nodup (baA (λa _ b _ e=>by omega) nd) (x6 _ _)).mpr λk=>?_) ?_).symm
 . rw[Hn]
   simp only[mO];exact⟨λ⟨j,c,e⟩=>⟨j,(h j).mp c,e⟩,λ⟨j,c,e⟩=>⟨j,(h j).mpr c,e⟩⟩
 . rw[ahv]
   exact f.imp λh=>by omega
noncomputable def dC (n o:Nat):List Nat:=(nJ n).filter λj=>!(j == o)
noncomputable def aB (n o sh:Nat):List Nat:=if sh=1 then dC n o else []
def gC:j∈dC i o ↔ j<i/\j≠o:=by simp[dC]
def x8:(dC i o).Nodup:=aeD.sublist Pp
def mf {n:Nat}:(dC n o).length<=n:=by have:=N0 (λj=>!(j == o)) (nJ n);rw[N2]at this;exact this
def ic {n sh:Nat}:(aB n o sh).length<=n:=by
 unfold aB;split
 . exact mf
 . simp
def de:j∈aB i o h ↔ h=1/\j<i/\j≠o:=by
 unfold aB;split
 . rename_i n;rw[gC];simp[n]
 . rename_i n;simp[n]
def P7:(aB i o j).Nodup:=by
 unfold aB;split
 . exact x8
 . exact RT
inductive SC (n:Nat):D->Prop
 |mk (v:D) (bs:List Int) (t:Int) (vw:List D) (hv:vG v) (hb:bs.length=n) (hw:vw.length=n) (ha:∀x∈vw,vG x):SC n (.tup [v,.tup (bs.map .int),.int t,.tup vw])
noncomputable def x9 (c:D)(i:Nat):D:=match c with
 |.tup h=>h.getD i .ay|_=>.ay
noncomputable def uW:D->Int
 |.int i=>i|_=>0
noncomputable def cB (c:D)(j:Nat):Int:=uW (x9 (x9 c 1) j)
noncomputable def cT (c:D):Int:=uW (x9 c 2)
noncomputable def baX (c:D):D:=x9 c 0
noncomputable def cW (c:D):D:=x9 c 3
def B1:cL [y,b,c,d] 1=some b:=rfl
def Jn:cL [y,b,c,d] 2=some c:=rfl
def TJ:cL [y,b,c,d] 3=some d:=rfl
def TK:cL [y,b,c,d] 0=some y:=rfl
def SC.bit {g:G}(h:SC i c)(b:o<i):(au c (.int 1) g).bind (λr=>au r.1 (.int o) r.2)=some (.int (cB c o),g):=by
 cases h with
 |mk v bs t vw n hb hw ha =>
  have e:(bs.map D.int)[o]? = some (.int bs[o]):=by rw[nP,mA (by omega)];rfl
  have a:cB (.tup [v,.tup (bs.map .int),.int t,.tup vw]) o=bs[o]:=by show uW ((bs.map D.int).getD o .ay)=_;rw[qa,e];rfl
  simp[d7,B1,hG e,a]
def SC.VG {g:G}(h:SC i c):au c (.int 2) g=some (.int (cT c),g):=by
 cases h with
 |mk v bs t vw n hb hw ha=>simp[d7,Jn];rfl
def SC.val {n:Nat}(h:SC n c):au c (.int 0) r=some (baX c,r):=by
 cases h with
 |mk v bs t vw i hb hw ha=>simp[d7,TK];rfl
def SC.view {g:G}(h:SC i c):au c (.int 3) g=some (cW c,g):=by
 cases h with
 |mk v bs t vw n hb hw ha=>simp[d7,TJ];rfl
structure iO (n o sh:Nat)(ks fs ss:List D):Prop where
 kl:ks.length=(aB n o sh).length
 fl:fs.length=n
 sl:ss.length=n
 ka:∀c∈ks,SC n c
 fa:∀c∈fs,SC n c
 sa:∀c∈ss,SC n c
noncomputable def eB (h:List D):List D:=h.flatMap λc=>[c,.ay]
def iZ:(eB A).length=2*A.length:=by
 induction A with
 |nil=>rfl|cons c A h=>simp[eB]at h ⊢;omega
def sv (h:A[p]? = some c):(eB A)[2*p]? = some c:=by
 induction A generalizing p with
 |nil=>simp at h
 |cons d A i =>
  cases p with
  |zero=>simp at h;subst h;rfl
  |succ p =>
   have:=i (p:=p) (by simpa using h);simp only[eB,C7]at this ⊢;rw[show 2*(p+1)=2*p+2 by omega];simpa using this
noncomputable def cX (c fs h:List D):List D:=eB c++fs++h
noncomputable def sgn (n o sh:Nat)(c:List D)(j:Nat):Int:=cB (c.getD ((aB n o sh).idxOf j) .ay) o
noncomputable def sx (tg:Nat)(fs c:List D)(j:Nat):Bool:=decide (tg=1)&&decide (cT (fs.getD j .ay)≠cT (c.getD j .ay))
noncomputable def mh (n o sh:Nat)(c fs h:List D)(j:Nat):Bool:=decide (sh=1)&&(decide (cB (fs.getD j .ay) o≠sgn n o sh c j)||decide (cB (h.getD j .ay) o≠sgn n o sh c j))
noncomputable def jx (n o tg sh:Nat)(h fs c:List D):List Nat:=(dC n o).filter λj=>sx tg fs c j||mh n o sh h fs c j
def EW {ks:List D}{a b:Int}(h:A.length=i)(fs:l.length=i)(j:1<=i)(k:a = -(2*(i:Int)))(n:b = -(i:Int)):qt (cX ks A l) (some a) (some b)=A:=by
 have c:(cX ks A l).length=(eB ks).length+i+i:=by simp[cX,h,fs];omega
 unfold qt;have f:bz (cX ks A l).length 0 (some a)=(eB ks).length:=by show(if a<0 then(a+((cX ks A l).length:Int)).toNat else _)=_;rw[if_pos (by omega),c];omega
 have e:bz (cX ks A l).length (cX ks A l).length (some b)=(eB ks).length+i:=by show(if b<0 then(b+((cX ks A l).length:Int)).toNat else _)=_;rw[if_pos (by omega),c];omega
 rw[f,e];unfold cX;rw[ta,adH,show(eB ks).length+i-(eB ks).length=A.length by omega,ae9]
def B2 {ks:List D}{b:Int}(e:A.length=i)(f:l.length=i)(h:1<=i)(fs:b = -(i:Int)):qt (cX ks A l) (some b) none=l:=by
 have a:(cX ks A l).length=(eB ks++A).length+i:=by simp[cX,e,f];omega
 unfold qt;have c:bz (cX ks A l).length 0 (some b)=(eB ks++A).length:=by show(if b<0 then(b+((cX ks A l).length:Int)).toNat else _)=_;rw[if_pos (by omega),a];omega
 rw[c,j6];unfold cX at a ⊢;rw[adH,a];exact Dc (by omega)
noncomputable def Jo:FT:=aD (ak di (ak au (ak au a7 a6) dV) (ak au (ak au bg a6) dV))
noncomputable def ba2:FS:=az (aF (ak au (ak au (ak au a7 (ak bj dV eW)) bh) a6) (gN 9)) (bU (C8 (aD (ak di (ak au (ak au (ak au d4 eu) bh) a6) ew)) (aD (ak di (ak au (ak au (ak au ee eu) bh) a6) ew))) (i7 (gI isRef e_ ef (af eu aj))) aP)
noncomputable def x_ (a:Fn):FS:=az (fO (vy (aq a (af a5 (af a6 aj)))) (gT 2 (bZ (gN 7) (bZ (gN 8) gu))) ba2) (aK (qD ef))
noncomputable def P8 (num a b:Fn):FS:=az (bU (aD (ak oEq (aq num (af a5 (af hB aj))) bh)) (aF (bO jE (cO (aq a (af a5 (af a6 aj)))) [none,none,some 4,some 5] (gN 1) Jo a6) (gN 6)) aP) (x_ b)
noncomputable def qG (num a b c:Fn):FS:=az (aF (aq a (af a5 aj)) (gN 3)) (az (aF (dj a7 (bq (ak bj (n9 kq dV) bg)) (bq (n9 kq bg))) (gN 4)) (az (aF (dj a7 (bq (n9 kq bg)) eO) (gN 5)) (az (aF (aI mkRef aj) (gN 6)) (P8 num b c))))
def XP {j:Int}:di (.int M) (.int j) r=some (.bl (decide (M≠j)),r):=by
 by_cases e:M=j
 . subst e;simp[di,flat,dep,bF]
 . simp[di,flat,dep,bF,e]
def EX {xs:List D}(h:j<xs.length):cL xs j=some (xs.getD j .ay):=hG (by rw[qa,mA h];rfl)
def Z9 {xs:List D}(h:j<xs.length):xs.getD j .ay∈xs:=by rw[qa,mA h];exact u3 h
def B3 {g:G}{σ:Sg}(f:C σ g=some (c,g))(b:σ[i]? = some (some (.int o)))(h:SC j c)(k:o<j):ak au (ak au C bh) (aa i) σ g=some (.int (cB c o),g):=by
 have:=h.bit (g:=g) k;simp only[wW,f,mI,Bn,o_,b];cases e:au c (.int 1) g with
 |none=>rw[e]at this;cases this
 |some r =>
  rw[e]at this;have a:r.2=g:=by
   cases h with
   |mk v bs t vw n hb hw ha=>simp[d7,B1]at e;rw[<- e]
  simp only[mI]at this ⊢;rw[a]at this;rw[a];simpa using this
def TM {g:G}(f:cL A j=some c)(b:cL l j=some d)(a:au c (.int 2) g=some (.int (cT c),g))(e:au d (.int 2) g=some (.int (cT d),g)):Jo [none,some (.int j),some (.tup A),some (.tup l)] g=some (decide (cT c≠cT d),g):=by unfold Jo;rw[dU,bK (d:=.int (cT c)) (d':=.int (cT d)) (g1:=g) (g2:=g) (by simp[d7,bA,f,a]) (by simp[d7,bA,b,e]),XP];rfl
section
variable {g:G}
theorem ya (R:iO i o h A l w):∀(sh:List Nat),(∀j∈sh,j<i)->∀r,cR (gN 1) Jo a6 (dN sh) [none,r,some (.tup l),some (.tup w)] g=some (dN (sh.filter λj=>decide (cT (l.getD j .ay)≠cT (w.getD j .ay))),g)
 | [],_,_=>rfl
 |j::sh,v,r=>by
  have u:=ya R sh (λn b=>v n (by simp[b])) (some (.int j));have a:=v j (by simp);have e:=(R.fa _ (Z9 (xs:=l) (j:=j) (by rw[R.fl];exact a))).VG (g:=g);have c:=(R.sa _ (Z9 (xs:=w) (j:=j) (by rw[R.sl];exact a))).VG (g:=g);have q:=EX (xs:=l) (j:=j) (by rw[R.fl];exact a);have k:=EX (xs:=w) (j:=j) (by rw[R.sl];exact a);have f:=TM (g:=g) q k e c;simp only[dN,wk]at u ⊢;simp only[cR];rw[show gN 1 (D.int j) [none,r,some (.tup l),some (.tup w)] g=some ([none,some (.int j),some (.tup l),some (.tup w)],g) from rfl];simp only[mI,f,u];by_cases p:cT (l.getD j .ay)≠cT (w.getD j .ay)
  . rw[VC,if_pos (decide_eq_true p),if_pos (decide_eq_true p),show a6 [none,some (D.int j),some (.tup l),some (.tup w)] g=some (.int j,g) from rfl,mI,u]
    rfl
  . rw[VC,if_neg (by simpa using p),if_neg (by simpa using p)]
end
def TN {y z:Int}(f:C k r=some (.int M,r))(i:v k r=some (.int y,r))(e:k[9]? = some (some (.int z))):C8 (aD (ak di C ew)) (aD (ak di v ew)) k r=some (decide (M≠z)||decide (y≠z),r):=by
 have c:aD (ak di C ew) k r=some (decide (M≠z),r):=by rw[dU,wW,f];simp only[mI,o_,e,XP,d6]
 have a:aD (ak di v ew) k r=some (decide (y≠z),r):=by rw[dU,wW,i];simp only[mI,o_,e,XP,d6]
 rw[Oe,c,mI,a];by_cases h:M≠z
 . rw[if_pos (decide_eq_true h),decide_eq_true h];rfl
 . rw[if_neg (by simpa using h),decide_eq_false h];rfl
def P9 {b:Bool}(n:t k r=some (b,r))(f:k[6]? = some (some (.ref i)))(h:k[8]? = some (some (.int j)))(e:r[i]? = some (dN Z))(hz:Z.length<900):bU t (i7 (gI isRef e_ ef (af eu aj))) aP k r=some (.nx,k,r.set i (dN (Z++if b then [j]else []))):=by
 have z:aC ((dN Z).length+1)=true:=aR (by rw[cg];omega);rw[wX,n];cases b with
 |true =>
  rw[cg]at z;simp[f,h,e,z,dN]
 |false =>
  obtain⟨c,a⟩:=m5.mp e;simp only[mI,ql,if_false,wz];rw[<- a,NZ];rfl
noncomputable def nL (m:D)(o n q:Nat)(W fs h:List D)(a b c:Option D):Sg:=[some m,some (.int o),some (.tup W),some (.int n),some (.tup fs),some (.tup h),some (.ref q),a,b,c]
section
variable {m:D}
theorem Aj (R:iO i o h A l w)(fs:o<i)(C:i<=5)(B:h=1):∀(r:Nat) (p:Nat) (L:List Nat) (q:Nat) (g:G) (J O H:Option D),p+r=(aB i o h).length->g[q]? = some (dN L)->L.length+r<=18 ->
  ∃E,forL (gT 2 (bZ (gN 7) (bZ (gN 8) gu))) ba2 (((dN (aB i o h)).zipIdx.drop p).map λx=>.tup [.int (x.2:Nat),x.1]) (nL m o i q (cX A l w) l w J O H) g=some (.nx,E,g.set q (dN (L++((aB i o h).drop p).filter λj=>mh i o h A l w j)))/\E[6]? = some (some (.ref q))
 | 0,p,L,q,g,J,O,H,hp,hq,sh=>by have e:(aB i o h).drop p = []:=ac6.mpr (by omega);have U:(dN (aB i o h)).zipIdx.drop p = []:=ac6.mpr (by simp[cg];omega);refine⟨nL m o i q (cX A l w) l w J O H,?_,rfl⟩;rw[e,U];simp only[ag7,forL,ah4,wz];obtain⟨sh,Y⟩:=m5.mp hq;rw[<- Y,NZ]
 |r+1,p,L,q,g,J,O,H,hp,hq,sh=>by
  have a:p<(aB i o h).length:=by omega
  have u:=u3 a;generalize Q:(aB i o h)[p]=j at u;obtain⟨_,b,ab⟩:=de.mp u;have s:p<A.length:=by rw[R.kl];exact a
  have y:A[p]? = some (A.getD p .ay):=by rw[qa,mA s];rfl
  have z:(aB i o h).idxOf j=p:=by rw[<- Q];exact P7.idxOf_getElem p a
  have c:=R.ka _ (Z9 (xs:=A) s);have f:=R.fa _ (Z9 (xs:=l) (j:=j) (by rw[R.fl];exact b));have k:=R.sa _ (Z9 (xs:=w) (j:=j) (by rw[R.sl];exact b));have Z:(cX A l w)[2*p]? = some (A.getD p .ay):=by unfold cX;rw[ta,ra (by rw[iZ];omega)];exact sv y
  have d1:(aB i o h).drop p=j::(aB i o h).drop (p+1):=by rw[N8 a,Q]
  have d2:(dN (aB i o h)).zipIdx.drop p=(.int j,p)::(dN (aB i o h)).zipIdx.drop (p+1):=by rw[N8 (by simp[cg];exact a)];congr 1;simp[dN,Q]
  have I:=(m5.mp hq).1;have hz:aC ((dN L).length+1)=true:=aR (by rw[cg];omega);have n:sgn i o h A j=cB (A.getD p .ay) o:=by unfold sgn;rw[z]
  have v:=hG Z;rw[show((2*p:Nat):Int)=2*(p:Int) by simp]at v;have om:cu 2 (p:Int)=true:=rfl;have x1:=EX (xs:=l) (j:=j) (by rw[R.fl];exact b);have x2:=EX (xs:=w) (j:=j) (by rw[R.sl];exact b);have step:ba2 (nL m o i q (cX A l w) l w (some (.int p)) (some (.int j)) H) g=some (.nx,nL m o i q (cX A l w) l w (some (.int p)) (some (.int j)) (some (.int (sgn i o h A j))),g.set q (dN (L ++ [j].filter λj=>mh i o h A l w j))):=by rw[VC,ah4];unfold mh;rw[decide_eq_true B,afv,n];exact bD (B3 (by simp[nL,om,d7,bA,v]) rfl c fs) (P9 (TN (B3 (by simp[nL,d7,bA,x1]) rfl f fs) (B3 (by simp[nL,d7,bA,x2]) rfl k fs) rfl) rfl rfl hq (by omega))
  obtain⟨E,e,h6⟩:=Aj R fs C B r (p+1) (L ++ [j].filter λj=>mh i o h A l w j) q (g.set q (dN (L ++ [j].filter λj=>mh i o h A l w j))) (some (.int p)) (some (.int j)) (some (.int (sgn i o h A j))) (by omega) (vT I) (by have:=N0 (λj=>mh i o h A l w j) [j];simp only[nN,yw,ahW]at this ⊢;omega)
  refine⟨E,?_,h6⟩;rw[d2,d1,wk];simp only[forL];rw[gT2];simp only[mI,nL,ag9,afm]at step e ⊢;rw[step];simp only[mI];rw[e,Pc,ta,<- afs];rfl
end
section
variable {n o tg sh:Nat}{m:D}{ks fs ss:List D}{g:G}{num hands aV aH:Fn}
def Ak:j∈jx n o tg sh ks fs ss ↔ (j∈dC n o/\sx tg fs ss j=true)\/(j∈aB n o sh/\mh n o sh ks fs ss j=true):=by
 unfold jx;rw[xX,wt];constructor
 . rintro⟨h,a|a⟩
   . exact .inl ⟨h,a⟩
   . refine .inr ⟨?_,a⟩
     have:sh=1:=by unfold mh at a;simp at a;exact a.1
     rw[de];exact⟨this,gC.mp h⟩
 . rintro(⟨h,a⟩|⟨h,a⟩)
   . exact⟨h,.inl a⟩
   . exact⟨gC.mpr (de.mp h).2,.inr a⟩
def EY:(jx n o tg sh ks fs ss).Nodup:=x8.sublist Pp
def Qa:(jx n o tg sh ks fs ss).Pairwise (· <= ·):=by
 have:(nJ n).Pairwise (· <= ·):=agq.imp λh=>RI h
 exact(this.sublist (Pp (p:=λj=>!(j == o)))).sublist Pp
def LI:(jx n o tg sh ks fs ss).length<=n:=pe (N0 _ _) mf
structure Al (m:D)(n o tg sh:Nat)(num hands aV aH:Fn):Prop where
 hh:∀g,hands [m] g=some (.int n,g)
 ht:∀g,num [m,.str "toggles"] g=some (.int tg,g)
 ho:∀g,aV [m,.int o] g=some (.lst (dN (dC n o)),g)
 hs:∀g,aH [m,.int o] g=some (.lst (dN (aB n o sh)),g)
 on:o<n
 n5:n<=5
noncomputable def O6 (m:D)(o n:Nat)(ks fs ss:List D)(q:Nat):Sg:=nL m o n q (cX ks fs ss) fs ss none none none
def EZ (S:Al m n o tg sh num hands aV aH)(R:iO n o sh ks fs ss){L:List Nat}(y:g[i]? = some (dN L))(A:L.length<=10)(z:∀j,j∈jx n o tg sh ks fs ss ↔ j∈L\/(j∈aB n o sh/\mh n o sh ks fs ss j=true)):∃p H,x_ aH (O6 m o n ks fs ss i) g=some (.rt (.lst (dN (jx n o tg sh ks fs ss))),p,H):=by
 have B:=(m5.mp y).1;have fin:∀(a:List Nat) (p:Sg),p[6]? = some (some (.ref i))->a.length<=18->(∀j,j∈jx n o tg sh ks fs ss ↔ j∈a)->aK (qD ef) p (g.set i (dN a))=some (.rt (.lst (dN (jx n o tg sh ks fs ss))),p,g.set i (dN a)):=λa p b u k=>by
   have e:=EV k EY Qa;have C:=(ad9 (bY (λq=>(a.map λ(j:Nat)=>(j:Int)).getD q 0) (a.map λ(j:Nat)=>(j:Int)).length)).length_eq.symm.trans (congrArg afb e)
   replace C:=aeU C
   replace C:=pe C (pe (pe (aeU (n7 _)) (N0 _ _)) ((show ∀n,n<=5->∀o,o<n->(dC n o).length<=4 by decide) n S.n5 o S.on))
   have r:fE (dN a)=some (a.map λ(j:Nat)=>(j:Int)):=by have:=baF (a.map λ(j:Nat)=>(j:Int));rw[u6]at this;exact this
   rw[zu,zZ];simp only[o_,b,mI,i8,vT B,r];have s:∀q,q<(a.map λ(j:Nat)=>(j:Int)).length->0<=(a.map λ(j:Nat)=>(j:Int)).getD q 0/\(a.map λ(j:Nat)=>(j:Int)).getD q 0<=7:=λq c=>by rw[n7]at c;have:a[q]< n:=(gC.mp (xX.mp ((k _).mpr (u3 c))).1).1;have:=S.n5;rw[qa,nP,mA c];exact⟨afn _,by show(a[q]:Int)<=7;omega⟩
   rw[if_pos (decide_eq_true ⟨C,s⟩),e];simp[dN,u6,L1]
 unfold x_;by_cases E:sh=1
 . obtain⟨p,e,b⟩:=Aj (m:=m) R S.on S.n5 E (aB n o sh).length 0 L i g none none none (by omega) y (by have:=ic (n:=n) (o:=o) (sh:=sh);have:=S.n5;omega)
   rw[aei,aei]at e;refine⟨_,_,bp (σ1:=p) ?_ (fin (L++(aB n o sh).filter λj=>mh n o sh ks fs ss j) p b ?_ λj=>?_)⟩
   . rw[lS,w8,show aq aH (af a5 (af a6 aj)) (O6 m o n ks fs ss i) g=_ from S.hs g]
     exact e
   . have x:=N0 (λj=>mh n o sh ks fs ss j) (aB n o sh)
     have v:=ic (n:=n) (o:=o) (sh:=sh);have:=S.n5;rw[nN];omega
   . rw[z j,m3,xX]
 . have f:aB n o sh = []:=by unfold aB;rw[if_neg E]
   have h:=S.hs g;rw[f]at h;refine⟨_,_,bp (σ1:=O6 m o n ks fs ss i) ?_ (fin L _ rfl (by omega) λj=>?_)⟩
   . rw[lS,w8,show aq aH (af a5 (af a6 aj)) (O6 m o n ks fs ss i) g=_ from h]
     obtain⟨A,l⟩:=m5.mp y;rw[<- l,NZ];rfl
   rw[z j,f];simp
def Qb (S:Al m n o tg sh num hands aV aH)(R:iO n o sh ks fs ss):av false 10 3 (qG num hands aV aH) [m,.int o,.tup (cX ks fs ss)] []=some (.lst (dN (jx n o tg sh ks fs ss)),[]):=by
 have l:1<=n:=by have:=S.on;omega
 have p:∃i f,qG num hands aV aH ([m,.int o,.tup (cX ks fs ss)].map some++m6 (10-3) none) []=some (.rt (.lst (dN (jx n o tg sh ks fs ss))),i,f):=by
  have v:cu (-2) (n:Int)=true:=rfl;have s:=EW (ks:=ks) (a:=-2*(n:Int)) (b:=-(n:Int)) R.fl R.sl l (by omega) rfl;have x:=B2 (ks:=ks) (b:=-(n:Int)) R.fl R.sl l rfl
  suffices h:∃i f,P8 num aV aH (O6 m o n ks fs ss 0) [[]]=some (.rt (.lst (dN (jx n o tg sh ks fs ss))),i,f) by obtain⟨i,f,h⟩:=h;exact⟨i,f,bD (S.hh []) (bD (d:=.tup fs) (g1:=[]) (by simp[gH,v,s]) (bD (d:=.tup ss) (g1:=[]) (by simp[gH,x]) (bD (d:=.ref 0) (g1:=[[]]) rfl h)))⟩
  by_cases h:tg=1
  . have z:aC (dC n o).length=true:=aR (by have:=mf (n:=n) (o:=o);have:=S.n5;omega)
    have c:=ya (g:=[[]]) R (dC n o) (λj r=>(gC.mp r).1) none;have y:(λj=>sx tg fs ss j)=λj=>decide (cT (fs.getD j .ay)≠cT (ss.getD j .ay)):=by funext j;simp[sx,h]
    rw[<- y]at c
    suffices k:∃i f,x_ aH (O6 m o n ks fs ss 1) [[],dN ((dC n o).filter λj=>sx tg fs ss j)]=some (.rt (.lst (dN (jx n o tg sh ks fs ss))),i,f) by obtain⟨i,f,e⟩:=k;exact⟨i,f,bp ((kG (g1:=[[]]) (by simp[O6,nL,S.ht,d6,h])).trans (eU (d:=.ref 1) (by simp[O6,nL,S.ho,cO,bA,cg,z,cz,c,jE]))) e⟩
    refine EZ S R (L:=(dC n o).filter λj=>sx tg fs ss j) rfl ?_ λj=>?_
    . have h1:=N0 (λj=>sx tg fs ss j) (dC n o)
      have:=mf (n:=n) (o:=o);have:=S.n5;omega
    . rw[Ak,xX]
  . have u:¬((tg:Int)=1):=by omega
    suffices k:∃i f,x_ aH (O6 m o n ks fs ss 0) [[]]=some (.rt (.lst (dN (jx n o tg sh ks fs ss))),i,f) by obtain⟨i,f,e⟩:=k;exact⟨i,f,bp ((cM (g1:=[[]]) (by simp[O6,nL,S.ht,d6,u])).trans rfl) e⟩
    refine EZ S R (L:=[]) rfl (by simp) λj=>?_;rw[Ak];simp[sx,h]
 obtain⟨i,f,e⟩:=p;have w:l2 (av false 10 3 (qG num hands aV aH) [m,.int o,.tup (cX ks fs ss)] []) λq=>q=(.lst (dN (jx n o tg sh ks fs ss)),[]):=by refine jY rfl ?_;rw[e];simp only[gw];refine⟨?_,by simp,by simp,by simp⟩;simp only[bT];exact dQ _ me
 obtain⟨q,e,rfl⟩:=w;exact e
end
mutual
theorem gZ:∀d:D,flat d=true->jJ d=true
 |.ay,_=>rfl|.bl _,_=>rfl|.int _,_=>rfl|.str _,_=>rfl|.tup c,h=>by simp only[jJ];exact gj c (by simpa[flat]using h)|.lst c,h=>by simp only[jJ];exact gj c (by simpa[flat]using h)|.eM,_=>rfl|.ref _,_=>rfl|.bu _,_=>rfl|.fn _ _,h=>by simp[flat]at h
theorem gj:∀ds:List D,bJ ds=true->gh ds=true
 | [],_=>rfl|d::ds,h=>by simp only[bJ,l8]at h;simp only[gh,gZ d h.1,gj ds h.2,afx]
end
def g_ (h:∀d∈A,flat d=true):bJ A=true:=by
 induction A with
 |nil=>rfl|cons d A c=>simp only[bJ,h d (by simp),c λx a=>h x (by simp[a]),afx]
def pF {k:Nat}(h:∀d∈A,dep d<=k):dM A<=k:=by
 induction A with
 |nil=>simp[dM]|cons d A c=>simp only[dM];exact Nat.max_le.mpr ⟨h d (by simp),c λx a=>h x (by simp[a])⟩
theorem SC.flat {n:Nat}{c:D}(h:SC n c):_root_.flat c=true:=by
 cases h with
 |mk v bs t vw p hb hw ha =>
  have b:bJ (bs.map D.int)=true:=g_ λd hd=>by obtain⟨i,_,rfl⟩:=mO.mp hd;rfl
  have a:bJ vw=true:=g_ λd hd=>(ha d hd).1;simp[_root_.flat,bJ,p.1,b,a]
theorem SC.dep {n:Nat}{c:D}(h:SC n c):_root_.dep c<=9:=by
 cases h with
 |mk v bs t vw p hb hw ha =>
  have b:dM (bs.map D.int)<=5:=pF λd hd=>by obtain⟨i,_,rfl⟩:=mO.mp hd;simp[_root_.dep]
  have a:dM vw<=5:=pF λd hd=>pe (ha d hd).2 (by decide);have:=p.2;simp only[_root_.dep,dM];omega
noncomputable def B4:FE:=ak au (ak au a6 bh) a5
def LJ (h:SC i c)(f:o<i):cY (bN 1 1 B4) [.int o,c] r=some (.int (cB c o),r):=by
 have b:gh [.int o,c]=true:=by simp[gh,jJ,gZ c h.flat]
 have a:aQ 0 [.int o,c]=true:=by simp[aQ,bT,dE c h.flat]
 have e:bN 1 1 B4 [.int o,c] []=some (.int (cB c o),[]):=by unfold bN;rw[if_pos (show [D.int o,c].length=1+1 from rfl)];exact B3 (σ:=[some (.int o),some c]) rfl rfl h f
 unfold cY fJ;rw[if_pos b,if_pos a,e];rfl
noncomputable def jy (R:Str->Option Fn):FS:=az (aF (ak (bt dh (· / ·)) (aq bM (af bg aj)) dV) (gN 4)) (az (bU (aD (ak oEq (ak (bt cD (· % ·)) (aq bM (af bg aj)) dV) b0)) (aK (aI ax (af hY (af (ak au a5 d4) aj)))) aP) (aK (aI ax (af (fC (.str "write")) (af (ak au a6 d4) (af (ff R 2 (af (ak au bg (n9 kq bh)) aj)) aj))))))
def sA (h:w.length=2*p)(k:A[p]? = some d):av false 5 4 (jy R) [.lst A,.lst l,c,.tup w] r=some (.tup [.str "read",d],r):=by
 have b:((w.length:Int) / 2)=(p:Int):=by omega
 have a:((w.length:Int) % 2)=0:=by omega
 have e:aC 2=true:=rfl;have f:dh (w.length:Int) 2=true:=rfl;have i:cD (w.length:Int) 2=true:=rfl;refine aU (σ':=[some (.lst A),some (.lst l),some c,some (.tup w),some (.int p)]) rfl ?_ rfl;have x:=hG k;simp[jy,f,i,b,a,x,e]
def uX {fn:Fn}{cap:List D}(hR:R x=some fn)(u:fn (cap ++ [c]) r=some (b,r))(s:(w ++ [c]).length=2*p+1)(v:A[p]? = some d):av false 5 4 (jy R) [.lst l,.lst A,.fn x cap,.tup (w ++ [c])] r=some (.tup [.str "write",d,b],r):=by
 have k:w.length=2*p:=by simpa using s
 have f:(((w ++ [c]).length:Int) / 2)=(p:Int):=by rw[s];omega
 have e:¬(((w ++ [c]).length:Int) % 2)=0:=by rw[s];omega
 have a:aC 3=true:=rfl;have i:dh ((w ++ [c]).length:Int) 2=true:=rfl;have h:cD ((w ++ [c]).length:Int) 2=true:=rfl;have q:=hG v;have n:cL (w ++ [c]) (-1)=some c:=FV w c;generalize j:w ++ [c]=W at *;refine aU (σ':=[some (.lst l),some (.lst A),some (.fn x cap),some (.tup W),some (.int p)]) rfl ?_ rfl;have ec:ff R 2 (af (ak au bg (n9 kq bh)) aj) [some (.lst l),some (.lst A),some (.fn x cap),some (.tup W),some (.int p)] r=some (b,r):=by rw[uT (y:=x) (ds:=cap) (fn:=fn) rfl hR];simp[d7,bA,n,u]
 simp[jy,i,h,f,e,q,a,ec]
noncomputable def ba (o j:Nat):D:=.tup [.str "sign",.int o,.int j]
noncomputable def Ou (o:Nat)(a:Nat×D):List D:=[.tup [.str "read",own "own" a.1],.tup [.str "write",ba o a.1,.int (cB a.2 o)]]
noncomputable def sC (n o sh:Nat)(c:List D):List D:=((aB n o sh).zip c).flatMap (Ou o)++Ab "own" n++Ab "own" n
theorem pG {o:Nat}:∀{l:List (Nat×D)},(l.flatMap (Ou o)).length=2*l.length
 | []=>rfl|x::l=>by rw[C7,nN,pG];simp[Ou];omega
theorem yd {o:Nat}:∀{l:List (Nat×D)} {p:Nat} {x:Nat×D},l[p]? = some x->(l.flatMap (Ou o))[2*p]? = some (.tup [.str "read",own "own" x.1])
 | [],p,x,h=>by simp at h|y::l,0,x,h=>by simp at h;subst h;rfl|y::l,p+1,x,h=>by have:=yd (o:=o) (l:=l) (p:=p) (x:=x) (by simpa using h);rw[C7,show 2*(p+1)=(Ou o y).length+2*p by simp[Ou];omega,wm (by omega)];simpa using this
theorem An {o:Nat}:∀{l:List (Nat×D)} {p:Nat} {x:Nat×D},l[p]? = some x->(l.flatMap (Ou o))[2*p+1]? = some (.tup [.str "write",ba o x.1,.int (cB x.2 o)])
 | [],p,x,h=>by simp at h|y::l,0,x,h=>by simp at h;subst h;rfl|y::l,p+1,x,h=>by have:=An (o:=o) (l:=l) (p:=p) (x:=x) (by simpa using h);rw[C7,show 2*(p+1)+1=(Ou o y).length+(2*p+1) by simp[Ou];omega,wm (by omega)];simpa using this
def iO.zl (R:iO i o j A l w):((aB i o j).zip A).length=(aB i o j).length:=by rw[Ih,R.kl];omega
def iO.wl (R:iO i o j A l w):(cX A l w).length=2*(aB i o j).length+2*i:=by simp[cX,iZ,R.kl,R.fl,R.sl];omega
def iO.ME (R:iO j o h A l w)(b:1<=j)(a:2*(aB j o h).length<=i)(f:i<2*(aB j o h).length+2*j):(sC j o h A)[i]? = some (.tup [.str "read",own "own" ((i-2*(aB j o h).length) % j)]):=by
 unfold sC;rw[ta,wm (by rw[pG,R.zl];exact a),pG,R.zl];have c:i-2*(aB j o h).length<2*j:=by omega
 generalize i-2*(aB j o h).length=e at *;have uQ:∀{e:Nat},e<j->(Ab "own" j)[e]? = some (.tup [.str "read",own "own" e]):=fun {e} n=>by simp[Ab,n]
 by_cases n:e<j
 . rw[ra (by rw[tP];exact n),adP n];exact uQ n
 . rw[wm (by rw[tP];omega),tP,ahf (by omega),adP (by omega)];exact uQ (by omega)
noncomputable def Ho:FE:=bO bR (cO bg) [none,none] (gN 1) cG (aI ax (af fb (af a6 aj)))
noncomputable def Hq:FE:=bO bR (cO bg) [none,none,some 1] (gN 1) cG (aI ax (af f6 (af a7 (af a6 aj))))
noncomputable def Ao (a c b:Fn)(e:Str):FS:=az (aF (aq c (af a5 (af a6 aj))) (gN 3)) (az (bU (aD (ak oLt (aq bM (af a7 aj)) (ak bj dV (aq bM (af bg aj))))) (az (aF Ho (gN 4)) (az (aF Hq (gN 5)) (aK (aq (gO b) (af d4 (af ee (af (mY e [1]) (af a7 aj)))))))) aP) (aK (aI ax (af hY (af (aI ax (af fb (af (ak (bt cD (· % ·)) (ak (bt bV (· - ·)) (aq bM (af a7 aj)) (ak bj dV (aq bM (af bg aj)))) (aq a (af a5 aj))) aj))) aj)))))
theorem iO.flat (R:iO i o j A l w):∀x∈cX A l w,_root_.flat x=true:=λx a=>by
 unfold cX eB at a;rcases m3.mp a with a|a
 . rcases m3.mp a with a|a
   . obtain⟨c,b,a⟩:=adm.mp a
     simp only[nv,Ex,or_false]at a;rcases a with rfl|rfl
     . exact(R.ka _ b).flat
     . rfl
   . exact(R.fa _ a).flat
 . exact(R.sa _ a).flat
def Qc (hz:Z.length<=20)(i:k[3]? = some (some (.lst (dN Z)))):Ho k r=some (.lst (Z.map λj=>own "own" j),r):=by
 have b:aC Z.length=true:=aR (by omega);have f:aC 2=true:=rfl;have c:=dZ (t:=gN 1) (c:=cG) (e:=aI ax (af fb (af a6 aj))) (h:=λd=>D.tup [.str "own",d]) (λk=>∃a,k = [none,a]) (dN Z) [none,none] r ⟨_,rfl⟩ (by rintro t hm k ⟨a,rfl⟩;exact⟨[none,some t],by simp,by simp,by simp[f],_,rfl⟩)
 simp[Ho,i,cO,bA,cg,cz,c,bR,b];simp[dN,own,L1]
def Qd (hz:Z.length<=20)(S:k[1]? = some (some (.int o)))(i:k[3]? = some (some (.lst (dN Z)))):Hq k r=some (.lst (Z.map λj=>ba o j),r):=by
 have f:aC Z.length=true:=aR (by omega);have b:aC 3=true:=rfl;have c:=dZ (t:=gN 1) (c:=cG) (e:=aI ax (af f6 (af a7 (af a6 aj)))) (h:=λd=>D.tup [.str "sign",.int o,d]) (λk=>∃a,k = [none,a,some (.int o)]) (dN Z) [none,none,some (.int o)] r ⟨_,rfl⟩ (by rintro t hm k ⟨a,rfl⟩;exact⟨[none,some t,some (.int o)],by simp,by simp,by simp[b],_,rfl⟩)
 simp[Hq,S,i,cO,bA,cg,cz,c,bR,f];simp[dN,ba,L1]
def i0 {g:G}(b:aQ 0 A=true)(c:u A []=some (d,[]))(a:flat d=true):gO u A g=some (d,g):=by unfold gO fJ;rw[if_pos b,c];simp only[mI];rw[if_pos (dE d a)];simp only[mI];rw[if_pos (gZ d a)]
def TQ {n:Nat}{sh:Nat}{g:G}{I:Fn}(hR:R x=some (cY (bN 1 1 B4)))(S:Al c n o j sh u s m I)(H:iO n o sh A l w)(C:i<2*(aB n o sh).length+2*n):
   ∃num,(sC n o sh A)[i]? = some num/\av false 6 3 (Ao s I (av false 5 4 (jy R)) x) [c,.int o,.tup ((cX A l w).take i)] g=some (num,g):=by
 have J:=H.wl;have n5:=S.n5;have z:1<=n:=by have:=S.on;omega
 have sl:=ic (n:=n) (o:=o) (sh:=sh);have lt:((cX A l w).take i).length=i:=by rw[yN,J];omega
 have fs:cu 2 ((aB n o sh).length:Int)=true:=rfl;by_cases h:i<2*(aB n o sh).length
 . have b:i / 2<(aB n o sh).length:=by omega
   have f:i / 2<A.length:=by rw[H.kl];exact b
   have k:((aB n o sh).zip A)[i / 2]? = some ((aB n o sh)[i / 2],A[i / 2]):=by rw[ad0];exact⟨mA b,mA f⟩
   have O:aQ 0 ((aB n o sh).map λE=>own "own" E)=true:=ia λnum a=>by obtain⟨E,_,rfl⟩:=mO.mp a;rfl
   have Q:aQ 0 ((aB n o sh).map λE=>ba o E)=true:=ia λnum a=>by obtain⟨E,_,rfl⟩:=mO.mp a;rfl
   have y:aQ 0 ((cX A l w).take i)=true:=ia λnum a=>dE num (H.flat num (Ng a));obtain⟨num,v,tg,a⟩:∃num,(((aB n o sh).zip A).flatMap (Ou o))[i]? = some num/\flat num=true/\av false 5 4 (jy R) [.lst ((aB n o sh).map λE=>own "own" E),.lst ((aB n o sh).map λE=>ba o E),.fn x [.int o],.tup ((cX A l w).take i)] []=some (num,[]):=by
     by_cases Z:i % 2=0
     . have:=yd (o:=o) k
       rw[show 2*(i / 2)=i by omega]at this;exact⟨_,this,rfl,sA (p:=i / 2) (by rw[lt];omega) (by rw[nP,mA b];rfl)⟩
     . have B:(cX A l w)[2*(i / 2)]? = some A[i / 2]:=by
         unfold cX;rw[ta,ra (by rw[iZ];omega)];exact sv (mA f)
       have e:(cX A l w).take i=(cX A l w).take (2*(i / 2)) ++ [A[i / 2]]:=by
         conv=>lhs;rw[show i=2*(i / 2)+1 by omega]
         rw[ae_,B];rfl
       have:=An (o:=o) k;rw[show 2*(i / 2)+1=i by omega]at this;refine⟨_,this,rfl,?_⟩;rw[e];refine uX (p:=i / 2) hR (LJ (H.ka _ (u3 f)) S.on) ?_ ?_
       . rw[<- e,lt];omega
       . rw[nP,mA b];rfl
   refine⟨num,?_,?_⟩
   . unfold sC
     rw[ta,ra (by rw[pG,H.zl];exact h)];exact v
   generalize (cX A l w).take i=W at *;refine aU rfl (bD (S.hs g) (l6 ((kG (g1:=g) ?_).trans (bD (Qc (by omega) rfl) (bD (Qd (o:=o) (by omega) rfl rfl) (cU (i0 (by simp[aQ,bT,O,Q,y]) a tg))))))) rfl;simp[cg,fs,d6,lt];omega
 . refine⟨_,H.ME z (by omega) C,?_⟩
   have q:aC 2=true:=rfl;have U:cD ((i:Int)-2*((aB n o sh).length:Int)) (n:Int)=true:=eQ (by omega);have Y:((i:Int)-2*((aB n o sh).length:Int)) % (n:Int)=(((i-2*(aB n o sh).length) % n:Nat):Int):=by rw[show(i:Int)-2*((aB n o sh).length:Int)=((i-2*(aB n o sh).length:Nat):Int) by omega];exact(Int.natCast_emod _ _).symm
   have r:¬((i:Int)<2*((aB n o sh).length:Int)):=by omega
   generalize (cX A l w).take i=W at *;refine aU rfl (bD (S.hs g) (bp (g1:=g) ((cM (g1:=g) (by simp[cg,fs,d6,lt,r])).trans rfl) (cU ?_))) rfl;simp[cg,fs,lt,S.hh g,U,Y,q,own]
abbrev R3:=List D×List D×List D
noncomputable def cN (r:R3):List D:=cX r.1 r.2.1 r.2.2
noncomputable def bP (n o sh:Nat):Nat:=2*(aB n o sh).length+2*n
noncomputable def Yb:FS:=aK (aI ax (af (aI ax (af fh (af (ak au (ak au eW (ak au ee bh)) fc) aj))) (af ef aj)))
noncomputable def Qf:FS:=az (bU (aD (ak kY (ak au ee bh) fe)) (aK (aI ax (af (aI ax (af fh (af (aq gG (af (bO bR (cO eW) [none,none] (gN 1) cG (ak au a6 b0)) aj)) aj))) (af ef aj)))) aP) Yb
noncomputable def Yc:FS:=az (aF (dj a7 (bq (ak (bt bV (· - ·)) ef bg)) (bq ef)) (gN 7)) Qf
noncomputable def Yd:FS:=az (aF (ak aJ (ak au ee b0) d4) (gN 6)) Yc
noncomputable def Qg (rstep:Fn):FS:=az (bU (aD (ak kY ee fe)) (aK (aI ax (af (aq rstep (af a5 (af a6 (af (dj a7 (bq (ak bj (ak (bt dh (· / ·)) (aq bM (af a7 aj)) d4) d4)) eO) aj)))) (af (aq bM (af a7 aj)) aj)))) aP) Yd
noncomputable def Ye (num a rstep:Fn)(b:Str):FS:=az (aF (aq (gO a) (af d4 (af d4 (af (aq num (af a5 (af kn aj))) (af a7 (af (mY b [0,1]) aj)))))) (gN 5)) (Qg rstep)
noncomputable def Ap (num a e b rstep:Fn)(c:Str):FS:=az (aF (aq a (af a5 aj)) (gN 3)) (az (aF (ak aJ (ak bj dV (aq bM (af (aq e (af a5 (af a6 aj))) aj))) (ak bj dV bg)) (gN 4)) (Ye num b rstep c))
noncomputable def oO (a:Fn):FE:=aq a (af a5 (af a6 (af a7 aj)))
section
variable {n o tg sh mo:Nat}{m:D}{g:G}{num hands aV aH:Fn}{rs:List R3}
structure qd (n o sh:Nat)(rs:List R3):Prop where
 all:∀r∈rs,iO n o sh r.1 r.2.1 r.2.2
 fB:rs.length<=20
noncomputable def jM (n o tg sh:Nat)(r:R3):List Nat:=jx n o tg sh r.1 r.2.1 r.2.2
def qd.E2 (S:Al m n o tg sh num hands aV aH)(y:flat m=true)(W:qd n o sh rs):x4 (cY (bN 2 1 (oO (av false 10 3 (qG num hands aV aH))))) [m,.int o] (bP n o sh) (rs.map cN) (rs.map (jM n o tg sh)):=by
 have x:1<=n:=by have:=S.on;omega
 refine⟨λw hw=>?_,by simp,by unfold bP;omega,by simpa using W.fB,λi u=>?_⟩
 . obtain⟨r,f,rfl⟩:=mO.mp hw
   exact(W.all r f).wl
 . have a:i<rs.length:=by simpa using u
   have h:(rs.map cN).getD i []=cN rs[i]:=by simp[qa,nP,mA a]
   have v:(rs.map (jM n o tg sh)).getD i []=jM n o tg sh rs[i]:=by simp[qa,nP,mA a]
   have R:=W.all _ (u3 a);rw[h,v];refine⟨λg=>?_,EY,by have:=LI (n:=n) (o:=o) (tg:=tg) (sh:=sh) (ks:=rs[i].1) (fs:=rs[i].2.1) (ss:=rs[i].2.2);have:=S.n5;show(jx _ _ _ _ _ _ _).length<=20;omega⟩;have b:bJ (cN rs[i])=true:=g_ R.flat;have j:gh ([m,.int o] ++ [.tup (cN rs[i])])=true:=by simp[gh,jJ,gZ m y,gj _ b]
   have q:aQ 0 ([m,.int o] ++ [.tup (cN rs[i])])=true:=by simp[aQ,bT,dE m y,dQ _ b]
   have e:bN 2 1 (oO (av false 10 3 (qG num hands aV aH))) ([m,.int o] ++ [.tup (cN rs[i])]) []=some (.lst (dN (jM n o tg sh rs[i])),[]):=by unfold bN;rw[if_pos (show([m,.int o] ++ [.tup (cN rs[i])]:List D).length=2+1 from rfl)];exact Qb S R
   have c:=me (l:=jM n o tg sh rs[i]);have s:bT 0 (.lst (dN (jM n o tg sh rs[i])))=true:=by simp only[bT];exact dQ _ c
   have k:jJ (.lst (dN (jM n o tg sh rs[i])))=true:=by simp only[jJ];exact gj _ c
   unfold cY fJ;rw[if_pos j,if_pos q,e];simp only[mI];rw[if_pos s];simp only[mI];rw[if_pos k]
structure E3 (m:D)(n o tg sh mo:Nat)(num hands aV aH:Fn)(R R':Str->Option Fn)(nm oP:Str):Prop where
 S:Al m n o tg sh num hands aV aH
 hm:∀g,num [m,.str "moves"] g=some (.int mo,g)
 fm:flat m=true
 h1:R nm=some (cY (bN 2 1 (oO (av false 10 3 (qG num hands aV aH)))))
 h2:R' oP=some (cY (bN 1 1 B4))
variable {R R':Str->Option Fn}{nm oP:Str}
def Aq (F:E3 m n o tg sh mo num hands aV aH R R' nm oP){rstep:Fn}(f:gO u [.int (bP n o sh),.int (bP n o sh),.int mo,.tup A,.fn nm [m,.int o]] g=some (c,g)):
   Ap num hands aH u rstep nm ([m,.int o,.tup A].map some++m6 (8-3) none) g=Qg rstep [some m,some (.int o),some (.tup A),some (.int n),some (.int (bP n o sh)),some c,none,none] g:=by
 have e:(2*((aB n o sh).length:Int)+2*(n:Int))=((bP n o sh:Nat):Int):=by unfold bP;omega
 refine bD (F.S.hh g) (bD (d:=.int (bP n o sh)) (g1:=g) ?_ (bD (d:=c) (g1:=g) ?_ rfl))
 . have b:cu 2 ((aB n o sh).length:Int)=true:=rfl
   have a:cu 2 (n:Int)=true:=rfl;simp[F.S.hs g,cg,b,a,e]
 . simp[F.hm g,mY,tI,f]
def Ar (S:Al m n o tg sh num hands aV aH):1<=bP n o sh:=by have:=S.on;unfold bP;omega
def LK (W:qd n o sh rs)(c:∀x∈A,flat x=true):bJ ((rs.map cN).flatten++A)=true:=g_ λx a=>by
 rcases m3.mp a with a|a
 . obtain⟨w,hw,a⟩:=ahO.mp a
   obtain⟨r,b,rfl⟩:=mO.mp hw;exact(W.all r b).flat x a
 . exact c x a
def E4 (W:qd n o sh rs){rest:List D}:((rs.map cN).flatten++rest).length=rs.length*bP n o sh+rest.length:=by rw[nN,eR (n:=bP n o sh) (λw hw=>by obtain⟨r,a,rfl⟩:=mO.mp hw;exact(W.all r a).wl),n7]
def uY (F:E3 m n o tg sh mo num hands aV aH R R' nm oP)(W:qd n o sh rs)(a:∀x∈A,flat x=true):aQ 0 [.int (bP n o sh),.int (bP n o sh),.int mo,.tup ((rs.map cN).flatten++A),.fn nm [m,.int o]]=true:=by have:=dQ (n:=0) _ (LK W a);simp[aQ,bT,dE m F.fm];simpa using this
def E5 (F:E3 m n o tg sh mo num hands aV aH R R' nm oP)(W:qd n o sh rs){r:R3}(y:iO n o sh r.1 r.2.1 r.2.2)(z:i<bP n o sh)(A:∀k,k<rs.length->fH (.int mo) (rs.map (jM n o tg sh)) k):
  ∃x u,(sC n o sh r.1)[i]? = some x/\av false 8 3 (Ap num hands aH (av false 10 5 (cK R)) (av false 6 3 (Ao hands aH (av false 5 4 (jy R')) oP)) nm) [m,.int o,.tup ((rs.map cN).flatten++(cN r).take i)] g=some (.tup [x,u],g):=by
 have B:=Ar F.S;have fr:∀x∈(cN r).take i,flat x=true:=λx a=>y.flat x (Ng a);have lt:((cN r).take i).length=i:=by rw[yN,show(cN r).length=bP n o sh from y.wl];omega
 have b:=sr (rest:=(cN r).take i) (mv:=.int mo) F.h1 (W.E2 F.S F.fm) rfl (by rw[lt];exact z) (λk h=>A k (by simpa using h));have f:=i0 (g:=g) (uY F W fr) b rfl;obtain⟨x,a,ex⟩:=TQ (g:=g) F.h2 F.S y (i:=i) z;refine⟨x,.int ((rs.length*bP n o sh+i:Nat):Int),a,?_⟩;have len:=E4 W (rest:=(cN r).take i);rw[lt]at len;have cut:qt ((rs.map cN).flatten++(cN r).take i) (some ((rs.length*bP n o sh:Nat):Int)) none=(cN r).take i:=by unfold qt;rw[j6,iU (by rw[len];omega),ib (n:=bP n o sh) (λw hw=>by obtain⟨q,j,rfl⟩:=mO.mp hw;exact(W.all q j).wl) (by simp)];rw[show List.drop rs.length (rs.map cN)= [] from ac6.mpr (by simp),af5,P_,len];exact Dc (by rw[lt];omega)
 have l:((rs.length*bP n o sh+i:Nat):Int) / (bP n o sh:Int)*(bP n o sh:Int)=((rs.length*bP n o sh:Nat):Int):=by
  have:(rs.length*bP n o sh+i) / bP n o sh=rs.length:=by rw[XG,ah5 (by omega),ahP z];omega
  rw[<- ahQ,this];simp
 have v:bP n o sh<=20:=by have:=F.S.n5;have:=ic (n:=n) (o:=o) (sh:=sh);unfold bP;omega
 generalize (rs.map cN).flatten++(cN r).take i=C at *;change av _ _ _ _ [m,.int o,.tup ((cN r).take i)] g=_ at ex;have st:=Aq (rstep:=av false 6 3 (Ao hands aH (av false 5 4 (jy R')) oP)) F f;generalize rs.length*bP n o sh+i=L at *;generalize rs.length*bP n o sh=U at *;generalize bP n o sh=p at *;have s:dh L p=true:=gU (by omega) (by omega);have e:cu ((L:Int) / p) p=true:=iY (by omega) (by omega);have c:aC 2=true:=rfl;refine aU rfl (st.trans (fT (g1:=g) rfl ?_)) rfl;simp[len,s,e,l,gH,cut,ex,c]
def Hr (W:qd n o sh rs){r:R3}(j:iO n o sh r.1 r.2.1 r.2.2){rest:List D}:qt (((rs ++ [r]).map cN).flatten++rest) (some (((rs.length+1)*bP n o sh-n:Nat):Int)) (some (((rs.length+1)*bP n o sh:Nat):Int))=r.2.2:=by
 have b:((rs.map cN).flatten++cN r).length=(rs.length+1)*bP n o sh:=by rw[E4 W,show(cN r).length=bP n o sh from j.wl,tF];omega
 have e:((rs ++ [r]).map cN).flatten++rest=((rs.map cN).flatten++(eB r.1++r.2.1))++(r.2.2++rest):=by simp[cN,cX]
 have c:n<=bP n o sh:=by unfold bP;omega
 have i:n<=(rs.length+1)*bP n o sh:=by rw[tF];omega
 have a:((rs.map cN).flatten++(eB r.1++r.2.1)).length=(rs.length+1)*bP n o sh-n:=by
  have h:((rs.map cN).flatten++cN r).length=((rs.map cN).flatten++(eB r.1++r.2.1)).length+n:=by simp only[cN,cX,nN,j.sl];omega
  omega
 have f:(((rs ++ [r]).map cN).flatten++rest).length>=(rs.length+1)*bP n o sh:=by rw[e,nN,a,nN,j.sl];omega
 unfold qt;rw[iU (by omega),wY (by omega),e,<- a,adH,show(rs.length+1)*bP n o sh-((rs.map cN).flatten++(eB r.1++r.2.1)).length=r.2.2.length by rw[a,j.sl];omega,ae9]
noncomputable def ba1 (c:List D):Option Nat->D
 |none=>.tup (c.map baX)|some j=>cW (c.getD j .ay)
def E6 (F:E3 m n o tg sh mo num hands aV aH R R' nm oP)(W:qd n o sh rs){r:R3}(A:iO n o sh r.1 r.2.1 r.2.2)(I:rs.length<20){rest:List D}(H:∀x∈rest,flat x=true){en:Option Nat}(B:∀k,k<rs.length->fH (.int mo) ((rs ++ [r]).map (jM n o tg sh)) k)(C:jV (.int mo) ((rs ++ [r]).map (jM n o tg sh)) rs.length en)(E:∀j,en=some j->j<n){rstep:Fn}:
  av false 8 3 (Ap num hands aH (av false 10 5 (cK R)) rstep nm) [m,.int o,.tup (((rs ++ [r]).map cN).flatten++rest)] g=some (.tup [.tup [.str "told",ba1 r.2.2 en],.int (((rs.length+1)*bP n o sh:Nat):Int)],g):=by
 have sp:=Ar F.S;have z:qd n o sh (rs ++ [r]):=⟨λq f=>by
  rcases m3.mp f with f|f
  . exact W.all q f
  . simp at f;subst f;exact A,by simp;omega⟩
 have J:((rs ++ [r]).map cN).length=rs.length+1:=by simp
 have s:=su (rest:=rest) (mv:=.int mo) (en:=en) F.h1 (z.E2 F.S F.fm) rfl (by omega) (λk Y=>B k (by rw[J]at Y;omega)) (by rw[J,aeb];exact C);rw[J,aeb]at s;have Z:=i0 (g:=g) (uY F z H) s (by cases en<;>rfl);have hn:n<=bP n o sh:=by unfold bP;omega
 have cut:=Hr W A (rest:=rest);have u:aC 2=true:=rfl;have e6:((rs.length*bP n o sh:Nat):Int)+(bP n o sh:Int)=(((rs.length+1)*bP n o sh:Nat):Int):=by rw[tF];omega
 have e7:(((rs.length+1)*bP n o sh:Nat):Int)-(n:Int)=(((rs.length+1)*bP n o sh-n:Nat):Int):=by
  have:n<=(rs.length+1)*bP n o sh:=by rw[tF];omega
  omega
 generalize ((rs ++ [r]).map cN).flatten++rest=RD at *;generalize (rs.length+1)*bP n o sh=U at *;generalize rs.length*bP n o sh=S at *;rw[<- e7]at cut;have a0:∀a b:D,cL [a,b] 0=some a:=λ_ _=>rfl;have O:∀a b:D,cL [a,b] 1=some b:=λ_ _=>rfl;obtain⟨p,st,i,Q,v⟩:∃p:Sg,Ap num hands aH (av false 10 5 (cK R)) rstep nm ([m,.int o,.tup RD].map some++m6 (8-3) none) g=Qf p g/\p[5]? = some (some (.tup [.int S,eD en]))/\p[6]? = some (some (.int U))/\p[7]? = some (some (.tup r.2.2)):=
  ⟨_,(Aq F Z).trans (bp rfl (bD (d:=.int U) (g1:=g) (by simp[d7,bA,a0,e6]) (bD (d:=.tup r.2.2) (g1:=g) (by simp[gH,cut]) rfl))),rfl,rfl,rfl⟩
 cases en with
 |none =>
  refine aU rfl (st.trans (fT (g1:=g) (by simp[i,d7,bA,O,eD,gv]) ?_)) rfl;have zs:aC r.2.2.length=true:=aR (by rw[A.sl];have:=F.S.n5;omega);have c:=dZ (t:=gN 1) (c:=cG) (e:=ak au a6 b0) (h:=baX) (λp=>∃a,p = [none,a]) r.2.2 [none,none] g ⟨_,rfl⟩ (by rintro t hm p ⟨a,rfl⟩;exact⟨[none,some t],by simp,by simp,(A.sa t hm).val,⟨_,rfl⟩⟩)
  simp[Q,v,cO,bA,cz,zs,c,bR,u,ba1]
 |some j =>
  have l:j<r.2.2.length:=by rw[A.sl];exact E j rfl
  have x:=EX l;have sc:=(A.sa _ (Z9 l)).view (g:=g);refine aU rfl (st.trans (bp (σ1:=p) (g1:=g) (by simp[i,d7,bA,O,eD,gv]) (cU ?_))) rfl;show _=some (D.tup [.tup [.str "told",cW (r.2.2.getD j .ay)],.int U],g);generalize r.2.2.getD j .ay=y at *;simp[i,Q,v,d7,bA,O,eD,x,sc,u]
end
end
section
variable {Z:List Int}{Y X K:Nat}{U T R Q O z:Fn}{B:Str->Option Fn}{I:List Nat}{H:Option (F×Sg×G)}{b m:D}{E:FS}{C:List D}
def E_ {ks r:List D}{g:G}(o:ks.length<=20):td (.tup (eB ks++r)) none (some ((2*ks.length:Nat):Int)) (some 2) g=some (.tup ks,g):=by
 have hw:(eB ks).length=2*ks.length:=iZ;have len:(eB ks++r).length=2*ks.length+r.length:=by rw[nN,hw]
 have i:(bC (2*ks.length+r.length) none (some ((2*ks.length:Nat):Int)) 2).2=ks.length:=by simp only[bC,Sx,Xb];simp;split<;>omega
 have f:(bC (2*ks.length+r.length) none (some ((2*ks.length:Nat):Int)) 2).1=0:=by simp only[bC,Sx,Xb];simp
 have e:aC ks.length=true:=aR (by omega);unfold td;simp only[len,i,e,f];rw[if_pos (by decide)];congr 3;unfold gy;have:∀(l:List Nat) (a b:Nat->Option D),(∀k∈l,a k=b k)->l.filterMap a=l.filterMap b:=λl a b h=>by
  induction l with
  |nil=>rfl|cons x r p=>rw[Dw,Dw,h x (by simp),p λk c=>h k (by simp[c])]
 rw[this _ _ (λk=>ks[k]?) λk c=>by rw[ug]at c;rw[show((0:Int)+(k:Int)*2).toNat=2*k by omega,ra (by omega),mA c];exact sv (mA c)]
 have j:∀(n:List D),(nJ n.length).filterMap (λk=>n[k]?)=n:=λn=>by
  induction n with
  |nil=>rfl
  |cons x n p =>
   rw[yw,agj,Dw];simp only[ado,ag4]
   exact congrArg (x :: ·) p
 exact j ks
def BC (c:D):Prop:=∃v a t,c = .tup [v,.int a,.int t]/\vG v
theorem BC.flat (h:BC c):_root_.flat c=true:=by obtain⟨v,a,t,rfl,b⟩:=h;simp[_root_.flat,bJ,b.1]
noncomputable def bI (c:List Int):List D:=c.map D.int
structure jN (m:D)(n p o tg sh mo:Nat)(num cC aV aH:Fn):Prop where
 hp:∀g,cC [m] g=some (.int p,g)
 ht:∀g,num [m,.str "toggles"] g=some (.int tg,g)
 hm:∀g,num [m,.str "moves"] g=some (.int mo,g)
 ho:∀g,aV [m,.int o] g=some (.lst (dN (dC n o)),g)
 hs:∀g,aH [m,.int o] g=some (.lst (dN (aB n o sh)),g)
 on:o<n
 n5:n<=5
 p1:1<=p
 p4:p<=4
 fm:flat m=true
noncomputable def uZ (c h:Fn):FS:=az (aF (ak (bt bV (· - ·)) (aq bM (af a7 aj)) (aq bM (af (aq h (af a5 (af a6 aj))) aj))) (gN 3)) (aK (dj a7 (bq (ak (bt bV (· - ·)) bg (aq c (af a5 aj)))) (bq bg)))
noncomputable def qf (num:Fn):FS:=az (bU (aD (ak di (ak au a6 bh) (ak au a7 bh))) (aK ko) aP) (aK (mN (ak oEq (aq num (af a5 (af hB aj))) bh) (ak di (ak au a6 dV) (ak au a7 dV))))
def B6:cL [m,b,c] 1=some b:=rfl
def TR:cL [m,b,c] 2=some c:=rfl
def ne_self (h:flat c=true)(a:dep c<=60):di c c r=some (.bl false,r):=by simp[di,h,a,mP c h]
noncomputable def B7:FI:=rN (af eW (af eu aj))
noncomputable def B8:FI:=rN (af bg (af (w9 a7 eO (bq d4) (bq dV)) (af ee aj)))
noncomputable def Jp:FG:=gT 2 (bZ (gN 10) (bZ (gN 11) gu))
noncomputable def Fb (a:Fn):FS:=bU (wB (aD (ak mU (ak au eL bh) ew)) (lz (aq a (af a5 (af fy (af eL aj)))))) (i7 (gI isRef e_ ef (af (ak au eL bh) aj))) aP
noncomputable def Qn (num c h i scF a:Fn):FS:=az (aF (aq i (af a5 (af a6 aj))) (gN 3)) (az (aF (ak bj dV (aq bM (af bg aj))) (gN 4)) (az (aF (dj a7 (bq (ak (bt bV (· - ·)) (aq bM (af a7 aj)) (aq bM (af bg aj)))) eO) (gN 5)) (az (aF (bO jE B8 [none,none,none,none] (gT 3 (bZ (gN 1) (bZ (gN 2) (bZ (gN 3) gu)))) (aD (ak di a7 bg)) a6) (gN 6)) (az (aF (dj a7 (bq d4) (bq (ak aJ d4 (aq c (af a5 aj))))) (gN 7)) (az (aF (aq scF (af a5 (af a6 (af a7 aj)))) (gN 8)) (az (aF (aq h (af a5 (af a6 aj))) (gN 9)) (az (fO B7 Jp (Fb a)) (aK (qD ef)))))))))
noncomputable def vW (a:Str)(o:Nat)(S:List Nat):List D:=S.map λ(j:Nat)=>D.tup [.str a,.int j,.int o]
noncomputable def Qo (a:Fn):FE:=bO bR (cO (aq a (af a5 (af a6 aj)))) [none,none,some 1] (gN 1) cG (aI ax (af i3 (af a6 (af a7 aj))))
noncomputable def Qp (a:Fn):FE:=bO bR (cO (aq a (af a5 (af a6 aj)))) [none,none,some 1] (gN 1) cG (aI ax (af f6 (af a7 (af a6 aj))))
noncomputable def xQ (a e b:Fn)(c:Str):FS:=az (aF (Qo a) (gN 3)) (az (bU (aD (ak oLt (aq bM (af a7 aj)) (ak bj dV (aq bM (af bg aj))))) (az (aF (Qp a) (gN 4)) (aK (aq (gO b) (af bg (af d4 (af (mY c []) (af a7 aj))))))) aP) (az (aF (ak bj dV (aq e (af a5 aj))) (gN 5)) (aK (aI ax (af hY (af (ak au (ak aJ ee (aq gG (af bg aj))) (ak (bt bV (· - ·)) (aq bM (af a7 aj)) (ak bj dV (aq bM (af bg aj))))) aj))))))
theorem As {c:Type}{a b:c->D}:∀{l:List c} {p:Nat} {x:c},l[p]? = some x->(l.flatMap λx=>[a x,b x])[2*p]? = some (a x)
 | [],p,x,h=>by simp at h|y::l,0,x,h=>by simp at h;subst h;rfl|y::l,p+1,x,h=>by have:=As (a:=a) (b:=b) (l:=l) (p:=p) (x:=x) (by simpa using h);rw[C7,show 2*(p+1)=2*p+1+1 by omega];simpa using this
theorem Fc {c:Type}{a b:c->D}:∀{l:List c} {p:Nat} {x:c},l[p]? = some x->(l.flatMap λx=>[a x,b x])[2*p+1]? = some (b x)
 | [],p,x,h=>by simp at h|y::l,0,x,h=>by simp at h;subst h;rfl|y::l,p+1,x,h=>by have:=Fc (a:=a) (b:=b) (l:=l) (p:=p) (x:=x) (by simpa using h);rw[C7,show 2*(p+1)+1=2*p+1+1+1 by omega];simpa using this
theorem sD {c:Type}{a b:c->D}:∀{l:List c},(l.flatMap λx=>[a x,b x]).length=2*l.length
 | []=>rfl|x::l=>by rw[C7,nN,sD];simp;omega
noncomputable def Hs (l:List D):List D:=l.map λk=>.tup [.str "read",k]
noncomputable def fD (p:Nat):List D:=(nJ p).map λj=>own "box" j
noncomputable def qg (n p o sh:Nat):List D:=fD p++fD p++vW "call" o (aB n o sh)
noncomputable def Rr (n p o sh:Nat)(c:List Int):List D:=(((aB n o sh).zip c).flatMap λq=>[.tup [.str "read",.tup [.str "call",.int q.1,.int o]],.tup [.str "write",ba o q.1,.int q.2]])++Hs (qg n p o sh)
def ye {n:Nat}{sh:Nat}(S:jN m n i o j sh Y u U T R)(l:k[0]? = some (some m))(p:k[1]? = some (some (.int o))):Qo R k r=some (.lst (vW "call" o (aB n o sh)),r)/\Qp R k r=some (.lst ((aB n o sh).map λtg=>ba o tg),r):=by
 have b:aC 3=true:=rfl;have zl:aC (aB n o sh).length=true:=aR (by have:=ic (n:=n) (o:=o) (sh:=sh);have:=S.n5;omega);have q:=dZ (t:=gN 1) (c:=cG) (e:=aI ax (af i3 (af a6 (af a7 aj)))) (h:=λd=>D.tup [.str "call",d,.int o]) (λk=>∃a,k = [none,a,some (.int o)]) (dN (aB n o sh)) [none,none,some (.int o)] r ⟨_,rfl⟩ (by rintro t hm k ⟨a,rfl⟩;exact⟨[none,some t,some (.int o)],by simp,by simp,by simp[b],_,rfl⟩)
 have f:=dZ (t:=gN 1) (c:=cG) (e:=aI ax (af f6 (af a7 (af a6 aj)))) (h:=λd=>D.tup [.str "sign",.int o,d]) (λk=>∃a,k = [none,a,some (.int o)]) (dN (aB n o sh)) [none,none,some (.int o)] r ⟨_,rfl⟩ (by rintro t hm k ⟨a,rfl⟩;exact⟨[none,some t,some (.int o)],by simp,by simp,by simp[b],_,rfl⟩)
 have sub:cz [none,none,some 1] k = [none,none,some (.int o)]:=by simp[cz,p]
 constructor
 . simp[Qo,l,p,S.hs r,cO,bA,cg,zl,sub,q,bR]
   simp[dN,vW,L1]
 . simp[Qp,l,p,S.hs r,cO,bA,cg,zl,sub,f,bR]
   simp[dN,ba,L1]
def Qq (h:flat c=true):cY (bN 0 1 a5) [c] r=some (c,r):=by
 have b:gh [c]=true:=by simp[gh,gZ c h]
 have a:aQ 0 [c]=true:=by simp[aQ,dE c h]
 have e:bN 0 1 a5 [c] []=some (c,[]):=by unfold bN;rw[if_pos (show [c].length=0+1 from rfl)];rfl
 unfold cY fJ;rw[if_pos b,if_pos a,e];simp only[mI];rw[if_pos (dE c h)];simp only[mI];rw[if_pos (gZ c h)]
noncomputable def yf (num c h a step scF:Fn)(b:Str)(X:FS):FS:=az (aF (ak aJ (ak bj fc (aq bM (af (aq h (af a5 (af a6 aj))) aj))) (ak bj dV (aq c (af a5 aj)))) (gN 3)) (az (aF (aq (gO a) (af bg (af bg (af (aq num (af a5 (af kn aj))) (af a7 (af (mY b [0,1]) aj)))))) (gN 4)) (az (bU (aD (ak kY d4 fe)) (aK (aI ax (af (aq step (af a5 (af a6 (af (dj a7 (bq (ak bj (ak (bt dh (· / ·)) (aq bM (af a7 aj)) bg) bg)) eO) aj)))) (af (aq bM (af a7 aj)) aj)))) aP) (az (aF (ak aJ (ak au d4 b0) bg) (gN 5)) (az (bU (aD (ak kY (ak au d4 bh) fe)) (aK (aI ax (af (aI ax (af fh (af (aq gG (af (bO bR (cO (aq scF (af a5 (af a6 (af (dj a7 eO (bq ee)) aj))))) [none,none] (gN 1) cG (ak au a6 b0)) aj)) aj))) (af ee aj)))) aP) X))))
noncomputable def qh (num c i h:Fn):Fn:=av false 12 3 (Qn num c i h (av false 4 3 (uZ c h)) (av false 3 3 (qf num)))
noncomputable def bG (n p o sh:Nat):Nat:=3*(aB n o sh).length+2*p
def Au (S:jN m i j o h Y X R Q O z)(step:gO u [.int (bG i j o Y),.int (bG i j o Y),.int X,.tup A,.fn x [m,.int o]] r=some (c,r))(k:az (bU (aD (ak kY d4 fe)) (aK (aI ax (af (aq U (af a5 (af a6 (af (dj a7 (bq (ak bj (ak (bt dh (· / ·)) (aq bM (af a7 aj)) bg) bg)) eO) aj)))) (af (aq bM (af a7 aj)) aj)))) aP) (az (aF (ak aJ (ak au d4 b0) bg) (gN 5)) (az (bU (aD (ak kY (ak au d4 bh) fe)) (aK (aI ax (af (aI ax (af fh (af (aq gG (af (bO bR (cO (aq T (af a5 (af a6 (af (dj a7 eO (bq ee)) aj))))) [none,none] (gN 1) cG (ak au a6 b0)) aj)) aj))) (af ee aj)))) aP) E)) [some m,some (.int o),some (.tup A),some (.int (bG i j o Y)),some c,none] r=H):
   yf R Q z u U T x E ([m,.int o,.tup A].map some++m6 (6-3) none) r=H:=by
 have e:(3*((aB i o Y).length:Int)+2*(j:Int))=((bG i j o Y:Nat):Int):=by unfold bG;omega
 refine bD (d:=.int (bG i j o Y)) (g1:=r) ?_ (bD (d:=c) (g1:=r) ?_ k)
 . have b:cu 3 ((aB i o Y).length:Int)=true:=rfl
   have a:cu 2 (j:Int)=true:=rfl;simp[S.hs r,S.hp r,cg,b,a,e]
 . simp[S.hm r,mY,tI,step]
def Jq {n:Nat}(S:jN m n i o j h Y u U T R)(fr:∀c∈A,flat c=true):aQ 0 [.int (bG n i o h),.int (bG n i o h),.int Y,.tup A,.fn x [m,.int o]]=true:=by have:=dQ (n:=0) _ (g_ fr);simp[aQ,bT,dE m S.fm];simpa using this
noncomputable def cH (c:List Int)(fs h:List D)(i:List Int):List D:=eB (bI c)++fs++h++bI i
structure Rg (n p o sh:Nat)(ks:List Int)(fs ss:List D)(cs:List Int):Prop where
 kl:ks.length=(aB n o sh).length
 fl:fs.length=p
 sl:ss.length=p
 cl:cs.length=(aB n o sh).length
 fa:∀c∈fs,BC c
 sa:∀c∈ss,BC c
noncomputable def tS (c:D):Int:=uW (x9 c 1)
noncomputable def Qr (c:D):Int:=uW (x9 c 2)
noncomputable def sE (tg:Nat)(a b:D):Bool:=decide (tS a≠tS b)||(decide (tg=1)&&decide (Qr a≠Qr b))
noncomputable def qi (n o:Nat)(x:Int):Bool:=(dN (dC n o)).any λy=>bF y (.int x)
def LL:qi i o M=true ↔ ∃j,j∈dC i o/\M=(j:Nat):=by
 unfold qi dN;rw[aeB];constructor
 . rintro⟨y,b,e⟩
   obtain⟨j,a,rfl⟩:=mO.mp b;refine⟨j,a,?_⟩;have:((j:Int)== M)=true:=e;exact(eq_of_beq this).symm
 . rintro⟨j,a,rfl⟩
   refine⟨.int j,mO.mpr ⟨j,a,rfl⟩,?_⟩;show((j:Int)== (j:Int))=true;exact beq_self_eq_true _
noncomputable def kH (n o tg:Nat)(a:List (D×D)):List Int:=(a.filter λq=>qi n o (tS q.2)&&sE tg q.1 q.2).map λq=>tS q.2
noncomputable def mi (S:List Nat)(c h:List Int):List Nat:=((S.zip (c.zip h)).filter λq=>decide (q.2.1≠q.2.2)).map (·.1)
noncomputable def lg (n o tg sh:Nat)(c:List Int)(fs h:List D)(i:List Int):List Int:=(mi (aB n o sh) c i).map (λ(j:Nat)=>(j:Int))++kH n o tg (fs.zip h)
noncomputable def iP (n o tg sh:Nat)(c:List Int)(fs h:List D)(i:List Int):List Nat:=(dC n o).filter λj=>decide ((j:Int)∈lg n o tg sh c fs h i)
def LM (h:j∈mi I J Z):j∈I:=by obtain⟨q,a,rfl⟩:=mO.mp h;have:=(xX.mp a).1;exact(W9 this).1
def Av (x:M∈lg i o j h J A l Z):∃n,n∈dC i o/\M=(n:Nat):=by
 rcases m3.mp x with x|x
 . obtain⟨n,b,rfl⟩:=mO.mp x
   have:=de.mp (LM b);exact⟨n,gC.mpr this.2,rfl⟩
 . obtain⟨q,a,rfl⟩:=mO.mp x
   have:=(xX.mp a).2;rw[l8]at this;exact LL.mp this.1
def LN:j∈iP i o h Y J A l Z ↔ (j:Int)∈lg i o h Y J A l Z:=by
 unfold iP;rw[xX,decide_eq_true_eq];refine⟨λtg=>tg.2,λtg=>⟨?_,tg⟩⟩;obtain⟨n,a,e⟩:=Av tg;have:j=n:=by omega
 subst this;exact a
def Fe:(iP i o j h J A l Z).Nodup:=x8.sublist Pp
def Qu {n:Nat}:(iP n o i j J A l Z).Pairwise (· <= ·):=by unfold iP dC;exact((agq (n:=n)).imp λh=>RI h).sublist (Pp.trans Pp)
def Aw (b:i<=5)(a:o<i):(iP i o j h J A l Z).length<=4:=by refine pe (N0 _ _) ?_;exact(show ∀i,i<=5->∀o,o<i->(dC i o).length<=4 by decide) i b o a
def Rg.wl (R:Rg i j o h J A l Z):(cH J A l Z).length=3*(aB i o h).length+2*j:=by simp[cH,iZ,bI,R.kl,R.fl,R.sl,R.cl];omega
def Rg.fla (R:Rg i j o h J A l Z):∀x∈cH J A l Z,flat x=true:=λx a=>by
 have b:∀(J:List Int),∀x∈bI J,flat x=true:=λJ x a=>by obtain⟨n,_,rfl⟩:=mO.mp a;rfl
 simp only[cH,m3]at a;rcases a with((a|a)|a)|a
 . obtain⟨c,e,a⟩:=adm.mp a
   simp only[nv,Ex,or_false]at a;rcases a with rfl|rfl
   . exact b _ _ e
   . rfl
 . exact(R.fa _ a).flat
 . exact(R.sa _ a).flat
 . exact b _ _ a
def Rg.kw (R:Rg i j o h J A l Z):(eB (bI J)).length=2*(aB i o h).length:=by rw[iZ,bI,n7,R.kl]
def Qv (R:Rg i j o h J A l Z){rest:List D}:qt (cH J A l Z++rest) (some ((2*(aB i o h).length+j:Nat):Int)) (some ((2*(aB i o h).length+2*j:Nat):Int))=l:=by
 have:=l_ (rd:=cH J A l Z++rest) (s:=2*(aB i o h).length+j) (m:=j) (by rw[nN,R.wl];omega);rw[show 2*(aB i o h).length+2*j=2*(aB i o h).length+j+j by omega,this];have e:cH J A l Z++rest=(eB (bI J)++A)++(l++(bI Z++rest)):=by simp[cH]
 rw[e,show 2*(aB i o h).length+j=(eB (bI J)++A).length by rw[nN,R.kw,R.fl],adH,show j=l.length from R.sl.symm,ae9]
def Qw (R:Rg i j o h J A l Z):qt (cH J A l Z) (some ((2*(aB i o h).length:Nat):Int)) (some ((2*(aB i o h).length+j:Nat):Int))=A:=by
 rw[l_ (rd:=cH J A l Z) (s:=2*(aB i o h).length) (m:=j) (by rw[R.wl];omega)];have e:cH J A l Z=eB (bI J)++(A++(l++bI Z)):=by simp[cH]
 rw[e,<- R.kw,adH,show j=A.length from R.fl.symm,ae9]
def Qx (R:Rg i j o h J A l Z):qt (cH J A l Z) (some ((2*(aB i o h).length+2*j:Nat):Int)) none=bI Z:=by
 unfold qt;rw[j6,iU (by rw[R.wl];omega)];have e:cH J A l Z=(eB (bI J)++A++l)++bI Z:=by simp[cH]
 rw[e,show 2*(aB i o h).length+2*j=(eB (bI J)++A++l).length by simp[R.kw,R.fl,R.sl];omega,adH];exact Dc (by simp;omega)
def Qy {g:G}(S:jN m i j o h Y X u U T R)(p:Rg i j o Y J A l Z):av false 4 3 (uZ U R) [m,.int o,.tup (cH J A l Z)] g=some (.tup l,g):=by
 have tg:=p.wl;have e:((cH J A l Z).length:Int)-((aB i o Y).length:Int)=((2*(aB i o Y).length+2*j:Nat):Int):=by rw[tg];omega
 have f:((2*(aB i o Y).length+2*j:Nat):Int)-(j:Int)=((2*(aB i o Y).length+j:Nat):Int):=by omega
 have c:=Qv (rest:=[]) p;rw[wz]at c;generalize cH J A l Z=W at *;refine aU rfl (bD (d:=.int ((2*(aB i o Y).length+2*j:Nat):Int)) (g1:=g) (by simp[S.hs g,cg,e]) (cU (d:=.tup l) (g1:=g) ?_)) rfl;generalize n:((2*(aB i o Y).length+2*j:Nat):Int)=a at *;generalize ((2*(aB i o Y).length+j:Nat):Int)=b at *;simp[S.hp g,f,gH,c]
def Qz {g:G}(S:jN m i j o h Y X u U T R)(a:BC c)(y:BC b):av false 3 3 (qf u) [m,c,b] g=some (.bl (sE h c b),g):=by
 obtain⟨v,x,t,rfl,r⟩:=a;obtain⟨n,p,f,rfl,s⟩:=y;refine aU (σ':=[some m,some (.tup [v,.int x,.int t]),some (.tup [n,.int p,.int f])]) rfl ?_ rfl;have e:sE h (.tup [v,.int x,.int t]) (.tup [n,.int p,.int f])=(decide (x≠p)||(decide (h=1)&&decide (t≠f))):=rfl;rw[e];have q:ak di (ak au a6 bh) (ak au a7 bh) [some m,some (.tup [v,.int x,.int t]),some (.tup [n,.int p,.int f])] g=some (.bl (decide (x≠p)),g):=by rw[bK (d:=.int x) (d':=.int p) (g1:=g) (g2:=g) rfl rfl,XP]
 have k:ak di (ak au a6 dV) (ak au a7 dV) [some m,some (.tup [v,.int x,.int t]),some (.tup [n,.int p,.int f])] g=some (.bl (decide (t≠f)),g):=by rw[bK (d:=.int t) (d':=.int f) (g1:=g) (g2:=g) rfl rfl,XP]
 have sh:ak oEq (aq u (af a5 (af hB aj))) bh [some m,some (.tup [v,.int x,.int t]),some (.tup [n,.int p,.int f])] g=some (.bl (decide (h=1)),g):=by
   have c:aq u (af a5 (af hB aj)) [some m,some (.tup [v,.int x,.int t]),some (.tup [n,.int p,.int f])] g=some (.int h,g):=S.ht g;rw[bK (d':=.int 1) (g2:=g) c rfl];by_cases tg:h=1
   . subst tg;rfl
   . have l:¬((h:Int)=1):=by omega
     simp[flat,dep,bF,tg,l]
 have B:aD (ak di (ak au a6 bh) (ak au a7 bh)) [some m,some (.tup [v,.int x,.int t]),some (.tup [n,.int p,.int f])] g=some (decide (x≠p),g):=by rw[dU,q];rfl
 unfold qf;by_cases tg:x≠p
 . rw[decide_eq_true tg]at B
   refine(fT B (d:=.bl true) (g2:=g) rfl).trans ?_;simp[tg]
 . rw[decide_eq_false tg]at B
   refine bp ((cM B).trans rfl) (cU ?_);rw[decide_eq_false tg,Bool.false_or];unfold mN;by_cases h2:h=1
   . rw[decide_eq_true h2]at sh ⊢
     rw[afv];show((d6 (ak oEq (aq u (af a5 (af hB aj))) bh [some m,some (.tup [v,.int x,.int t]),some (.tup [n,.int p,.int f])] g)).bind _)=_;rw[sh];exact k
   . rw[decide_eq_false h2]at sh ⊢
     show((d6 (ak oEq (aq u (af a5 (af hB aj))) bh [some m,some (.tup [v,.int x,.int t]),some (.tup [n,.int p,.int f])] g)).bind _)=_;rw[sh];rfl
def Yf {fs:List D}{ss:List D}{g:G}(j:ss.length=fs.length){σ:Sg}(f:σ[7]? = some (some (.tup fs)))(c:σ[8]? = some (some (.tup ss))):B7 σ g=some ((fs.zip ss).map λq=>.tup [q.1,q.2],g):=by
 have e:kD [fs,ss] fs.length=(fs.zip ss).map λq=>.tup [q.1,q.2]:=by
  unfold kD;refine ady λi=>?_;rw[nP,nP];by_cases h:i<fs.length
  . have b:i<ss.length:=by omega
    rw[acM h,mA (show i<(fs.zip ss).length by rw[Ih];omega)];simp[h,b]
  . rw[Pw (by simpa using h),Pw (by rw[Ih];omega)];rfl
 have a:eW σ g=some (.tup fs,g):=by simp[f]
 have n:eu σ g=some (.tup ss,g):=by simp[c]
 unfold B7;rw[xn];simp only[cw,a,n,dq,mI];simp[pA,tx,j,e]
def Yg {ks:List Int}{g:G}{σ:Sg}{S:List Nat}{r:List D}(v:ks.length=S.length)(k:J.length=S.length)(l:S.length<=20)(x:σ[2]? = some (some (.tup (eB (bI ks)++r))))(u:σ[3]? = some (some (.lst (dN S))))(s:σ[4]? = some (some (.int ((2*S.length:Nat):Int))))(y:σ[5]? = some (some (.tup (bI J)))):B8 σ g=some ((S.zip (ks.zip J)).map λq=>.tup [.int q.1,.int q.2.1,.int q.2.2],g):=by
 have a:(bI ks).length=S.length:=by rw[bI,n7,v]
 have lc:(bI J).length=S.length:=by rw[bI,n7,k]
 have pk:=E_ (ks:=bI ks) (r:=r) (g:=g) (by omega);rw[a]at pk;have e:kD [dN S,bI ks,bI J] S.length=(S.zip (ks.zip J)).map λq=>.tup [.int q.1,.int q.2.1,.int q.2.2]:=by
  unfold kD;refine ady λi=>?_;rw[nP,nP];by_cases h:i<S.length
  . have f:i<ks.length:=by omega
    have k:i<J.length:=by omega
    rw[acM h,mA (show i<(S.zip (ks.zip J)).length by rw[Ih,Ih];omega)];simp[h,f,k,dN,bI]
  . rw[Pw (by simpa using h),Pw (by rw[Ih];omega)];rfl
 have c:bg σ g=some (.lst (dN S),g):=by simp[u]
 have j:ee σ g=some (.tup (bI J),g):=by simp[y]
 have b:w9 a7 eO (bq d4) (bq dV) σ g=some (.tup (bI ks),g):=by generalize ((2*S.length:Nat):Int)=z at *;rw[KL];simp[x,s,pk]
 unfold B8;rw[xn];simp only[cw,c,b,j,dq,mI];simp[pA,tx,a,lc,cg,e]
noncomputable def QA:FT:=aD (ak di a7 bg)
section
variable {g:G}
theorem Ax:∀(l:List (Nat×Int×Int)) (a b c:Option D),cR (gT 3 (bZ (gN 1) (bZ (gN 2) (bZ (gN 3) gu)))) QA a6 (l.map λq=>D.tup [.int q.1,.int q.2.1,.int q.2.2]) [none,a,b,c] g=some (dN ((l.filter λq=>decide (q.2.1≠q.2.2)).map (·.1)),g)
 | [],_,_,_=>rfl
 |q::l,a,b,c=>by
  have i:=Ax l (some (.int q.1)) (some (.int q.2.1)) (some (.int q.2.2));have t:QA [none,some (.int q.1),some (.int q.2.1),some (.int q.2.2)] g=some (decide (q.2.1≠q.2.2),g):=by unfold QA;rw[dU,bK (d:=.int q.2.1) (d':=.int q.2.2) (g1:=g) (g2:=g) rfl rfl,XP];rfl
  simp only[wk,cR];rw[show gT 3 (bZ (gN 1) (bZ (gN 2) (bZ (gN 3) gu))) (D.tup [.int q.1,.int q.2.1,.int q.2.2]) [none,a,b,c] g=some ([none,some (.int q.1),some (.int q.2.1),some (.int q.2.2)],g) from rfl];simp only[mI,t,i];by_cases h:q.2.1≠q.2.2
  . rw[VC,if_pos (decide_eq_true h),if_pos (decide_eq_true h),show a6 [none,some (D.int q.1),some (.int q.2.1),some (.int q.2.2)] g=some (.int q.1,g) from rfl]
    simp only[mI,i];rfl
  . rw[VC,if_neg (by simpa using h),if_neg (by simpa using h)]
end
noncomputable def nM (m:D)(n o sh:Nat)(i:List Int)(fs c:List D)(h:List Int)(a b:Option D):Sg:=[some m,some (.int o),some (.tup (cH i fs c h)),some (.lst (dN (aB n o sh))),some (.int ((2*(aB n o sh).length:Nat):Int)),some (.tup (bI h)),some (.ref 0),some (.tup fs),some (.tup c),some (.lst (dN (dC n o))),a,b]
def QB {ks:List Int}{cs:List Int}{fs:List D}{ss:List D}(S:jN m i j o h Y X u U T R)(C:BC c)(B:BC b)(E:A.length<=100):Fb (av false 3 3 (qf u)) (nM m i o Y ks fs ss cs (some c) (some b)) [A]=some (.nx,nM m i o Y ks fs ss cs (some c) (some b),[A++(kH i o h [(c,b)]).map .int]):=by
 have k:=Qz (g:=[A]) S C B;obtain⟨v,x,t,e,hv⟩:=B;have w:tS b=x:=by rw[e];rfl
 generalize p:nM m i o Y ks fs ss cs (some c) (some b)=H;have n:a5 H [A]=some (m,[A]):=by subst p;rfl
 have O:ew H [A]=some (.lst (dN (dC i o)),[A]):=by subst p;rfl
 have Q:fy H [A]=some (c,[A]):=by subst p;rfl
 have f:eL H [A]=some (b,[A]):=by subst p;rfl
 have z:ef H [A]=some (.ref 0,[A]):=by subst p;rfl
 have tg:ak au eL bh H [A]=some (.int x,[A]):=(bK f rfl).trans (by rw[e];simp[d7,bA,B6]);have d:dM (dN (dC i o))<=50:=pF λy s=>by obtain⟨sh,_,rfl⟩:=mO.mp s;simp[dep]
 have r:mU (.int x) (.lst (dN (dC i o))) [A]=some (.bl (qi i o x),[A]):=by simp[mU,p_,bA,IE,flat,me,d,qi]
 have Z:aD (ak mU (ak au eL bh) ew) H [A]=some (qi i o x,[A]):=by rw[dU,bK tg O,r];rfl
 have l:lz (aq (av false 3 3 (qf u)) (af a5 (af fy (af eL aj)))) H [A]=some (sE h c b,[A]):=by simp only[zt,qy,cw,n,Q,f,dq,mI,k];rfl
 have I:wB (aD (ak mU (ak au eL bh) ew)) (lz (aq (av false 3 3 (qf u)) (af a5 (af fy (af eL aj))))) H [A]=some (qi i o x&&sE h c b,[A]):=by
  rw[Ky,Z];cases qi i o x
  . rfl
  . rw[afv];exact l
 have a:(kH i o h [(c,b)]).map D.int=if(qi i o x&&sE h c b)=true then [.int x]else []:=by unfold kH;rw[VC,w];split<;>simp[w]
 unfold Fb;rw[a];cases J:qi i o x&&sE h c b with
 |false =>
  rw[J]at I;rw[if_neg (by simp),wz];exact(cM I).trans rfl
 |true =>
  rw[J]at I;rw[if_pos rfl];refine(kG I).trans ?_;have zl:aC (A.length+1)=true:=aR (by omega);have em:gI isRef e_ ef (af (ak au eL bh) aj) H [A]=some (.ay,[A ++ [.int x]]):=by
    have ea:af (ak au eL bh) aj H [A]=some ([.int x],[A]):=by simp only[cw,tg,dq,mI]
    rw[Lv,z];simp only[mI,ea];simp[isRef,e_,zl]
  rw[show i7 (gI isRef e_ ef (af (ak au eL bh) aj)) H [A]=(gI isRef e_ ef (af (ak au eL bh) aj) H [A]).bind λq=>some (.nx,H,q.2) from rfl,em];rfl
section
variable {ks cs:List Int}{fs ss:List D}
theorem AA (S:jN m i j o h Y X u U T R):∀(l:List (D×D)) (A:List D) (a b:Option D),(∀q∈l,BC q.1/\BC q.2)->A.length+l.length<=100->∃r v,forL Jp (Fb (av false 3 3 (qf u))) (l.map λq=>.tup [q.1,q.2]) (nM m i o Y ks fs ss cs a b) [A]=some (.nx,nM m i o Y ks fs ss cs r v,[A++(kH i o h l).map .int])
 | [],A,a,b,_,_=>⟨a,b,by simp[forL,kH]⟩
 |q::l,A,a,b,p,y=>by
  obtain⟨c,tg⟩:=p q (by simp);simp only[yw]at y;have n:=QB (ks:=ks) (cs:=cs) (fs:=fs) (ss:=ss) S c tg (A:=A) (by omega);have k:((kH i o h [(q.1,q.2)]).map D.int).length<=1:=by rw[n7];unfold kH;rw[n7];exact N0 _ _
  obtain⟨r,v,f⟩:=AA S l (A++(kH i o h [(q.1,q.2)]).map .int) (some q.1) (some q.2) (λx e=>p x (by simp[e])) (by rw[nN];omega);refine⟨r,v,?_⟩;have t:Jp (.tup [q.1,q.2]) (nM m i o Y ks fs ss cs a b) [A]=some (nM m i o Y ks fs ss cs (some q.1) (some q.2),[A]):=rfl;have B:kH i o h (q::l)=kH i o h [(q.1,q.2)]++kH i o h l:=by unfold kH;rw[show q::l = [(q.1,q.2)]++l from rfl,afs,wi]
  simp only[wk,forL,t,mI,n,f];rw[B,wi,ta]
end
noncomputable def ie (n o tg sh:Nat)(c:List Int)(fs h:List D)(i:List Int):List Nat:=(lg n o tg sh c fs h i).map VL
def AB:(ie i o j h J A l Z).map (λ(n:Nat)=>(n:Int))=lg i o j h J A l Z:=by
 unfold ie;rw[u6];conv=>rhs;rw[<- List.map_id (lg i o j h J A l Z)]
 refine adn λx a=>?_;obtain⟨n,_,rfl⟩:=Av a;simp
def QC:dN (ie i o j h J A l Z)=(lg i o j h J A l Z).map .int:=by rw[<- AB,u6];rfl
def AD:j∈iP i o h Y J A l Z ↔ j∈ie i o h Y J A l Z:=by rw[LN,<- AB,mO];exact⟨λ⟨n,a,e⟩=>(show n=j by omega) ▸ a,λtg=>⟨j,tg,rfl⟩⟩
def LO {ks:List Int}{cs:List Int}{S:List Nat}:(mi S ks cs).length<=S.length:=by unfold mi;rw[n7];refine pe (N0 _ _) ?_;rw[Ih];omega
def QD {n:Nat}{sh:Nat}{ks:List Int}{cs:List Int}{fs:List D}{ss:List D}(S:jN m n i o j sh h u U T R)(mo:Rg n i o sh ks fs ss cs):qh u U T R [m,.int o,.tup (cH ks fs ss cs)] []=some (.lst (dN (iP n o j sh ks fs ss cs)),[]):=by
 have E:=mo.wl;have H:((cH ks fs ss cs).length:Int)-((aB n o sh).length:Int)=((2*(aB n o sh).length+2*i:Nat):Int):=by rw[E];omega
 have I:((2*(aB n o sh).length:Nat):Int)+(i:Int)=((2*(aB n o sh).length+i:Nat):Int):=by omega
 have z:cu 2 ((aB n o sh).length:Int)=true:=rfl;have sl:=ic (n:=n) (o:=o) (sh:=sh);have n5:=S.n5;have p4:=S.p4;have J:=Qx mo;have O:=Qw mo;have sc:=λg=>Qy (g:=g) S mo;have Q:cH ks fs ss cs=eB (bI ks)++(fs++(ss++bI cs)):=by simp[cH]
 have zl:aC ((aB n o sh).zip (ks.zip cs)).length=true:=aR (by rw[Ih];omega);have y:=LO (S:=aB n o sh) (ks:=ks) (cs:=cs);obtain⟨k,s,p⟩:∃(k:Sg) (s:G),Qn u U T R (av false 4 3 (uZ U R)) (av false 3 3 (qf u)) ([m,.int o,.tup (cH ks fs ss cs)].map some++m6 (12-3) none) []=some (.rt (.lst (dN (iP n o j sh ks fs ss cs))),k,s):=by
  have Y:=Yg (S:=aB n o sh) (r:=fs++(ss++bI cs)) (σ:=[some m,some (.int o),some (.tup (cH ks fs ss cs)),some (.lst (dN (aB n o sh))),some (.int ((2*(aB n o sh).length:Nat):Int)),some (.tup (bI cs)),none,none,none,none,none,none]) (g:=[]) mo.kl mo.cl (by omega) (by rw[Q];rfl) rfl rfl rfl;have cn:=Ax (g:=[]) ((aB n o sh).zip (ks.zip cs)) none none none;have Z:=Yf (fs:=fs) (ss:=ss) (σ:=nM m n o sh ks fs ss cs none none) (g:=[dN (mi (aB n o sh) ks cs)]) (by rw[mo.sl,mo.fl]) rfl rfl;obtain⟨a,b,num⟩:=AA (ks:=ks) (cs:=cs) (fs:=fs) (ss:=ss) S (fs.zip ss) (dN (mi (aB n o sh) ks cs)) none none (λq l=>⟨mo.fa _ (W9 l).1,mo.sa _ (W9 l).2⟩) (by rw[cg,Ih,mo.fl,mo.sl];omega);have v:dN (mi (aB n o sh) ks cs)++(kH n o j (fs.zip ss)).map .int=dN (ie n o j sh ks fs ss cs):=by rw[QC,lg,wi,u6];rfl
  rw[v]at num
  have k1:dj a7 (bq (ak (bt bV (· - ·)) (aq bM (af a7 aj)) (aq bM (af bg aj)))) eO [some m,some (.int o),some (.tup (cH ks fs ss cs)),some (.lst (dN (aB n o sh))),some (.int ((2*(aB n o sh).length:Nat):Int)),none,none,none,none,none,none,none] []=some (.tup (bI cs),[]):=by generalize cH ks fs ss cs=W at *;generalize ((2*(aB n o sh).length+2*i:Nat):Int)=a at *;simp[cg,H,gH,J]
  have k2:dj a7 (bq d4) (bq (ak aJ d4 (aq U (af a5 aj)))) [some m,some (.int o),some (.tup (cH ks fs ss cs)),some (.lst (dN (aB n o sh))),some (.int ((2*(aB n o sh).length:Nat):Int)),some (.tup (bI cs)),some (.ref 0),none,none,none,none,none] [dN (mi (aB n o sh) ks cs)]=some (.tup fs,[dN (mi (aB n o sh) ks cs)]):=by generalize cH ks fs ss cs=W at *;generalize ((2*(aB n o sh).length:Nat):Int)=a at *;generalize ((2*(aB n o sh).length+i:Nat):Int)=b at *;simp[S.hp,I,gH,O]
  have k3:bO jE B8 [none,none,none,none] (gT 3 (bZ (gN 1) (bZ (gN 2) (bZ (gN 3) gu)))) (aD (ak di a7 bg)) a6 [some m,some (.int o),some (.tup (cH ks fs ss cs)),some (.lst (dN (aB n o sh))),some (.int ((2*(aB n o sh).length:Nat):Int)),some (.tup (bI cs)),none,none,none,none,none,none] []=some (.ref 0,[dN (mi (aB n o sh) ks cs)]):=by rw[gR,Y];simp only[mI,n7,zl,if_true];rw[show cz [none,none,none,none] _ = [none,none,none,none] from rfl];have c:cR (gT 3 (bZ (gN 1) (bZ (gN 2) (bZ (gN 3) gu)))) (aD (ak di a7 bg)) a6 (((aB n o sh).zip (ks.zip cs)).map λq=>D.tup [.int q.1,.int q.2.1,.int q.2.2]) [none,none,none,none] []=_:=cn;rw[c];rfl
  have kf:fO B7 Jp (Fb (av false 3 3 (qf u))) (nM m n o sh ks fs ss cs none none) [dN (mi (aB n o sh) ks cs)]=some (.nx,nM m n o sh ks fs ss cs a b,[dN (ie n o j sh ks fs ss cs)]):=by rw[lS,Z,mI];exact num
  have kr:qD ef (nM m n o sh ks fs ss cs a b) [dN (ie n o j sh ks fs ss cs)]=some (.lst (dN (iP n o j sh ks fs ss cs)),[dN (ie n o j sh ks fs ss cs)]):=by
   have e:=EV (L:=ie n o j sh ks fs ss cs) (ms:=iP n o j sh ks fs ss cs) (λB=>AD) Fe Qu;have C:=(ad9 (bY (λtg=>((ie n o j sh ks fs ss cs).map λ(B:Nat)=>(B:Int)).getD tg 0) ((ie n o j sh ks fs ss cs).map λ(B:Nat)=>(B:Int)).length)).length_eq.symm.trans (congrArg afb e)
   replace C:=aeU C
   replace C:=pe C (pe (aeU (n7 _)) (Aw n5 S.on))
   have ei:fE (dN (ie n o j sh ks fs ss cs))=some ((ie n o j sh ks fs ss cs).map λ(B:Nat)=>(B:Int)):=by have:=baF ((ie n o j sh ks fs ss cs).map λ(B:Nat)=>(B:Int));rw[u6]at this;exact this
   have x:∀tg,tg<((ie n o j sh ks fs ss cs).map λ(B:Nat)=>(B:Int)).length->0<=((ie n o j sh ks fs ss cs).map λ(B:Nat)=>(B:Int)).getD tg 0/\((ie n o j sh ks fs ss cs).map λ(B:Nat)=>(B:Int)).getD tg 0<=7:=λtg f=>by rw[n7]at f;have:(ie n o j sh ks fs ss cs)[tg]< n:=(gC.mp (xX.mp (AD.mpr (u3 f))).1).1;rw[qa,nP,mA f];exact⟨afn _,by show((ie n o j sh ks fs ss cs)[tg]:Int)<=7;omega⟩
   generalize ie n o j sh ks fs ss cs=L at *;rw[zZ,show ef (nM m n o sh ks fs ss cs a b) [dN L]=some (.ref 0,[dN L]) from rfl];simp only[mI,i8,ado,ei];rw[if_pos (decide_eq_true ⟨C,x⟩),e];simp[dN,u6,L1]
  exact⟨_,_,bD (S.hs []) (bD (d:=.int ((2*(aB n o sh).length:Nat):Int)) (g1:=[]) (by simp[cg,z]) (bD k1 (bD k3 (bD k2 (bD (sc _) (bD (S.ho _) (bp kf (cU kr))))))))⟩
 have w:l2 (qh u U T R [m,.int o,.tup (cH ks fs ss cs)] []) λq=>q=(.lst (dN (iP n o j sh ks fs ss cs)),[]):=by refine jY rfl ?_;rw[p];simp only[gw];refine⟨?_,by simp,by simp,by simp⟩;simp only[bT];exact dQ _ me
 obtain⟨q,e,rfl⟩:=w;exact e
def Yh (S:jN m i j o h Y X u U T R)(p:Rg i j o Y J A C Z):cY (bN 2 1 (oO (qh u U T R))) ([m,.int o] ++ [.tup (cH J A C Z)]) r=some (.lst (dN (iP i o h Y J A C Z)),r):=by
 have a:bJ (cH J A C Z)=true:=g_ p.fla;have f:gh ([m,.int o] ++ [.tup (cH J A C Z)])=true:=by simp[gh,jJ,gZ m S.fm,gj _ a]
 have n:aQ 0 ([m,.int o] ++ [.tup (cH J A C Z)])=true:=by simp[aQ,bT,dE m S.fm,dQ _ a]
 have e:bN 2 1 (oO (qh u U T R)) ([m,.int o] ++ [.tup (cH J A C Z)]) []=some (.lst (dN (iP i o h Y J A C Z)),[]):=by unfold bN;rw[if_pos (show([m,.int o] ++ [.tup (cH J A C Z)]:List D).length=2+1 from rfl)];exact QD S p
 have b:=me (l:=iP i o h Y J A C Z);have c:bT 0 (.lst (dN (iP i o h Y J A C Z)))=true:=by simp only[bT];exact dQ _ b
 have tg:jJ (.lst (dN (iP i o h Y J A C Z)))=true:=by simp only[jJ];exact gj _ b
 unfold cY fJ;rw[if_pos f,if_pos n,e];simp only[mI];rw[if_pos c];simp only[mI];rw[if_pos tg]
def QE {n:Nat}{p:Nat}{sh:Nat}{g:G}(hR:B x=some (cY (bN 0 1 a5)))(S:jN m n p o j sh h u U T R)(C:∀g,Q [m] g=some (.tup (fD p),g))(mo:Rg n p o sh J A l Z)(E:i<3*(aB n o sh).length+2*p):
   ∃H,(Rr n p o sh J)[i]? = some H/\av false 6 3 (xQ R Q (av false 5 4 (jy B)) x) [m,.int o,.tup ((cH J A l Z).take i)] g=some (H,g):=by
 have hW:=mo.wl;have n5:=S.n5;have p4:=S.p4;have sl:=ic (n:=n) (o:=o) (sh:=sh);have lt:((cH J A l Z).take i).length=i:=by rw[yN,hW];omega
 have cl:(vW "call" o (aB n o sh)).length=(aB n o sh).length:=by simp[vW]
 have O:cu 2 ((aB n o sh).length:Int)=true:=rfl;have zl:((aB n o sh).zip J).length=(aB n o sh).length:=by rw[Ih,mo.kl];omega
 by_cases num:i<2*(aB n o sh).length
 . have f:i / 2<(aB n o sh).length:=by omega
   have s:i / 2<J.length:=by rw[mo.kl];exact f
   have r:((aB n o sh).zip J)[i / 2]? = some ((aB n o sh)[i / 2],J[i / 2]):=by rw[ad0];exact⟨mA f,mA s⟩
   have a1:aQ 0 (vW "call" o (aB n o sh))=true:=ia λH c=>by obtain⟨I,_,rfl⟩:=mO.mp c;rfl
   have a2:aQ 0 ((aB n o sh).map λI=>ba o I)=true:=ia λH c=>by obtain⟨I,_,rfl⟩:=mO.mp c;rfl
   have a3:aQ 0 ((cH J A l Z).take i)=true:=ia λH c=>dE H (mo.fla H (Ng c));obtain⟨H,h1,fx,c⟩:∃H,(((aB n o sh).zip J).flatMap λq=>[D.tup [.str "read",.tup [.str "call",.int q.1,.int o]],.tup [.str "write",ba o q.1,.int q.2]])[i]? = some H/\flat H=true/\av false 5 4 (jy B) [.lst (vW "call" o (aB n o sh)),.lst ((aB n o sh).map λI=>ba o I),.fn x [],.tup ((cH J A l Z).take i)] []=some (H,[]):=by
     by_cases Y:i % 2=0
     . have:=As (a:=λq:Nat×Int=>D.tup [.str "read",.tup [.str "call",.int q.1,.int o]]) (b:=λq=>.tup [.str "write",ba o q.1,.int q.2]) r
       rw[show 2*(i / 2)=i by omega]at this;exact⟨_,this,rfl,sA (p:=i / 2) (by rw[lt];omega) (by rw[vW,nP,mA f];rfl)⟩
     . have hk:(cH J A l Z)[2*(i / 2)]? = some (.int J[i / 2]):=by
         unfold cH;rw[ta,ta,ra (by rw[iZ,bI,n7];omega)];exact sv (by rw[bI,nP,mA s];rfl)
       have e:(cH J A l Z).take i=(cH J A l Z).take (2*(i / 2)) ++ [.int J[i / 2]]:=by
         conv=>lhs;rw[show i=2*(i / 2)+1 by omega]
         rw[ae_,hk];rfl
       have:=Fc (a:=λq:Nat×Int=>D.tup [.str "read",.tup [.str "call",.int q.1,.int o]]) (b:=λq=>.tup [.str "write",ba o q.1,.int q.2]) r;rw[show 2*(i / 2)+1=i by omega]at this;refine⟨_,this,rfl,?_⟩;rw[e];refine uX (p:=i / 2) (cap:=[]) hR (Qq rfl) ?_ ?_
       . rw[<- e,lt];omega
       . rw[nP,mA f];rfl
   refine⟨H,?_,?_⟩
   . unfold Rr
     rw[ra (by rw[sD,zl];exact num)];exact h1
   generalize (cH J A l Z).take i=W at *;refine aU rfl (bD (ye S rfl rfl).1 (l6 ((kG (g1:=g) ?_).trans (bD (ye S rfl rfl).2 (cU (i0 (by simp[aQ,bT,a1,a2,a3]) c fx)))))) rfl;simp[cl,O,d6,lt];omega
 . obtain⟨e,Y⟩:∃e,i=2*(aB n o sh).length+e:=⟨i-2*(aB n o sh).length,by omega⟩
   have el:e<(qg n p o sh).length:=by simp[qg,fD,vW];omega
   refine⟨.tup [.str "read",(qg n p o sh)[e]],?_,?_⟩
   . unfold Rr
     rw[wm (by rw[sD,zl];omega),sD,zl,Y,af9,Hs,nP,mA el];rfl
   have v:aC 2=true:=rfl;have y:¬((i:Int)<2*((aB n o sh).length:Int)):=by omega
   have ei:(i:Int)-2*((aB n o sh).length:Int)=((e:Nat):Int):=by omega
   have mt:=Xp (g:=g) (xs:=fD p) (k:=2) (by decide) (by decide) (by simp[fD];omega);have rp:(m6 (2:Int).toNat (fD p)).flatten=fD p++fD p:=by show(m6 2 (fD p)).flatten=_;simp[m6]
   rw[rp]at mt;have at_:cL (qg n p o sh) (e:Int)=some (qg n p o sh)[e]:=hG (mA el)
   have tg:aC ((fD p++fD p).length+(vW "call" o (aB n o sh)).length)=true:=aR (by simp[fD,vW];omega);have zc:aC (vW "call" o (aB n o sh)).length=true:=aR (by rw[cl];omega);generalize (cH J A l Z).take i=W at *;refine aU rfl (bD (ye S rfl rfl).1 (bp (g1:=g) ((cM (g1:=g) (by simp[cl,O,d6,lt,y])).trans rfl) (bD (d:=.tup (fD p++fD p)) (g1:=g) (by simp[C g,mt]) (cU ?_)))) rfl;have q1:ak aJ ee (aq gG (af bg aj)) [some m,some (.int o),some (.tup W),some (.lst (vW "call" o (aB n o sh))),none,some (.tup (fD p++fD p))] g=some (.tup (qg n p o sh),g):=by rw[bK (d:=.tup (fD p++fD p)) (d':=.tup (vW "call" o (aB n o sh))) (g1:=g) (g2:=g) rfl (by simp[bA,zc]),ky,if_pos tg];rfl
   have q2:ak (bt bV (· - ·)) (aq bM (af a7 aj)) (ak bj dV (aq bM (af bg aj))) [some m,some (.int o),some (.tup W),some (.lst (vW "call" o (aB n o sh))),none,some (.tup (fD p++fD p))] g=some (.int e,g):=by simp[cl,O,lt,ei]
   show aI ax _ [some m,some (.int o),some (.tup W),some (.lst (vW "call" o (aB n o sh))),none,some (.tup (fD p++fD p))] g=_;have z:=(bK (o:=au) q1 q2).trans (show au (.tup (qg n p o sh)) (.int e) g=some ((qg n p o sh)[e],g) by simp[d7,bA,at_]);simp only[jq,cw,z,Bn,dq,mI];simp[v]
abbrev R4:=List Int×List D×List D×List Int
noncomputable def fj (r:R4):List D:=cH r.1 r.2.1 r.2.2.1 r.2.2.2
abbrev u4 (n p o sh:Nat)(r:R4):Prop:=Rg n p o sh r.1 r.2.1 r.2.2.1 r.2.2.2
noncomputable def iQ (n o tg sh:Nat)(r:R4):List Nat:=iP n o tg sh r.1 r.2.1 r.2.2.1 r.2.2.2
structure mq (n p o sh:Nat)(rs:List R4):Prop where
 all:∀r∈rs,u4 n p o sh r
 fB:rs.length<=20
noncomputable def yi:FS:=(az (bU (aD (ak oEq (aq bM (af a7 aj)) ee)) (aK (aI ax (af (aI ax (af hY (af (aI ax (af ir (af (ak au d4 bh) aj))) aj))) (af ee aj)))) aP) (aK (aI ax (af (aI ax (af fh (af (ak au a7 ee) aj))) (af (ak aJ ee bh) aj)))))
def mq.E2 {rs:List R4}(S:jN m i j o h Y X u U T R)(W:mq i j o Y rs):x4 (cY (bN 2 1 (oO (qh u U T R)))) [m,.int o] (bG i j o Y) (rs.map fj) (rs.map (iQ i o h Y)):=by
 have tg:=S.p1;refine⟨λw hw=>?_,by simp,by unfold bG;omega,by simpa using W.fB,λn b=>?_⟩
 . obtain⟨r,c,rfl⟩:=mO.mp hw
   exact(W.all r c).wl
 . have a:n<rs.length:=by simpa using b
   have e:(rs.map fj).getD n []=fj rs[n]:=by simp[qa,nP,mA a]
   have f:(rs.map (iQ i o h Y)).getD n []=iQ i o h Y rs[n]:=by simp[qa,nP,mA a]
   have p:=W.all _ (u3 a);rw[e,f];exact⟨λg=>Yh S p,Fe,pe (Aw S.n5 S.on) (by decide)⟩
def yj {rs:List R4}(W:mq i j o h rs)(c:∀x∈A,flat x=true):∀x∈(rs.map fj).flatten++A,flat x=true:=λx a=>by
 rcases m3.mp a with a|a
 . obtain⟨w,hw,a⟩:=ahO.mp a
   obtain⟨r,b,rfl⟩:=mO.mp hw;exact(W.all r b).fla x a
 . exact c x a
def AE {n:Nat}{rs:List R4}(W:mq n i o j rs){rest:List D}:((rs.map fj).flatten++rest).length=rs.length*bG n i o j+rest.length:=by rw[nN,eR (n:=bG n i o j) (λw hw=>by obtain⟨r,a,rfl⟩:=mO.mp hw;exact(W.all r a).wl),n7]
def B9 {n:Nat}{sh:Nat}{rs:List R4}{g:G}{I:Str->Option Fn}{J:Str}{X:FS}{scF:Fn}(hR:B x=some (cY (bN 2 1 (oO (qh u U T R)))))(C:I J=some (cY (bN 0 1 a5)))(S:jN m n j o h sh Y u U T R)(M:∀g,Q [m] g=some (.tup (fD j),g))(W:mq n j o sh rs){r:R4}(A:u4 n j o sh r)(H:i<bG n j o sh)(K:∀k,k<rs.length->fH (.int Y) (rs.map (iQ n o h sh)) k):
  ∃mo E,(Rr n j o sh r.1)[i]? = some mo/\av false 6 3 (yf u U R (av false 10 5 (cK B)) (av false 6 3 (xQ R Q (av false 5 4 (jy I)) J)) scF x X) [m,.int o,.tup ((rs.map fj).flatten++(fj r).take i)] g=some (.tup [mo,E],g):=by
 have p1:=S.p1;have fr:∀mo∈(fj r).take i,flat mo=true:=λmo a=>A.fla mo (Ng a);have lt:((fj r).take i).length=i:=by rw[yN,show(fj r).length=bG n j o sh from A.wl];omega
 have b:=sr (rest:=(fj r).take i) (mv:=.int Y) hR (W.E2 S) rfl (by rw[lt];exact H) (λk tg=>K k (by simpa using tg));have f:=i0 (g:=g) (Jq S (yj W fr)) b rfl;obtain⟨mo,a,ex⟩:=QE (g:=g) C S M A (i:=i) H;refine⟨mo,.int ((rs.length*bG n j o sh+i:Nat):Int),a,?_⟩;have len:=AE W (rest:=(fj r).take i);rw[lt]at len;have O:1<=bG n j o sh:=by unfold bG;omega
 have cut:qt ((rs.map fj).flatten++(fj r).take i) (some ((rs.length*bG n j o sh:Nat):Int)) none=(fj r).take i:=by unfold qt;rw[j6,iU (by rw[len];omega),ib (n:=bG n j o sh) (λw hw=>by obtain⟨q,num,rfl⟩:=mO.mp hw;exact(W.all q num).wl) (by simp)];rw[show List.drop rs.length (rs.map fj)= [] from ac6.mpr (by simp),af5,P_,len];exact Dc (by rw[lt];omega)
 have s:((rs.length*bG n j o sh+i:Nat):Int) / (bG n j o sh:Int)*(bG n j o sh:Int)=((rs.length*bG n j o sh:Nat):Int):=by
  have:(rs.length*bG n j o sh+i) / bG n j o sh=rs.length:=by rw[XG,ah5 (by omega),ahP H];omega
  rw[<- ahQ,this];simp
 have l:bG n j o sh<=30:=by have:=S.n5;have:=S.p4;have:=ic (n:=n) (o:=o) (sh:=sh);unfold bG;omega
 have y:=W.fB;have Z:rs.length*bG n j o sh<=600:=Vy y l;generalize v:(rs.map fj).flatten++(fj r).take i=RD at *;change av _ _ _ _ [m,.int o,.tup ((fj r).take i)] g=_ at ex;generalize hL:rs.length*bG n j o sh+i=L at *;generalize rs.length*bG n j o sh=p at *;have z:dh L (bG n j o sh)=true:=gU (by omega) (by omega);have e:cu ((L:Int) / (bG n j o sh)) (bG n j o sh)=true:=iY (by omega) (by omega);have c:aC 2=true:=rfl;refine aU rfl (Au S f (fT (g1:=g) rfl ?_)) rfl;simp[len,z,e,s,gH,cut,ex,c]
noncomputable abbrev allR (rs:List R4)(r:R4):List D:=((rs ++ [r]).map fj).flatten
def mq.snoc {rs:List R4}(W:mq i j o h rs){r:R4}(b:u4 i j o h r)(c:rs.length<20):mq i j o h (rs ++ [r]):=⟨λq a=>by
 rcases m3.mp a with a|a
 . exact W.all q a
 . simp at a;subst a;exact b,by simp;omega⟩
def yk {rs:List R4}(W:mq i j o h rs){r:R4}(a:u4 i j o h r)(b:rs.length<20):(allR rs r).length=(rs.length+1)*bG i j o h:=by have:=AE (W.snoc a b) (rest:=[]);rw[wz]at this;simpa using this
noncomputable def hlM (scF:Fn)(X:FS):FS:=az (bU (aD (ak kY (ak au d4 bh) fe)) (aK (aI ax (af (aI ax (af fh (af (aq gG (af (bO bR (cO (aq scF (af a5 (af a6 (af (dj a7 eO (bq ee)) aj))))) [none,none] (gN 1) cG (ak au a6 b0)) aj)) aj))) (af ee aj)))) aP) X
noncomputable def oQ (m:D)(n p o sh:Nat)(a:List D)(s U:Nat)(en:Option Nat):Sg:=[some m,some (.int o),some (.tup a),some (.int (bG n p o sh)),some (.tup [.int s,eD en]),some (.int U)]
def u5 {mo:Nat}{rs:List R4}{g:G}{X:FS}{step scF:Fn}(hR:B x=some (cY (bN 2 1 (oO (qh u U T R)))))(S:jN m i j o h K mo u U T R)(W:mq i j o K rs){r:R4}(q:u4 i j o K r)(A:rs.length<20){rest:List D}(n:∀tg∈rest,flat tg=true){en:Option Nat}(y:∀k,k<rs.length->fH (.int mo) ((rs ++ [r]).map (iQ i o h K)) k)(z:jV (.int mo) ((rs ++ [r]).map (iQ i o h K)) rs.length en){Y:Option (F×Sg×G)}(k:hlM scF X (oQ m i j o K (allR rs r++rest) (rs.length*bG i j o K) ((rs.length+1)*bG i j o K) en) g=Y):
  yf u U R (av false 10 5 (cK B)) step scF x X ([m,.int o,.tup (allR rs r++rest)].map some++m6 (6-3) none) g=Y:=by
 have l:=S.p1;have e:=W.snoc q A;have C:((rs ++ [r]).map fj).length=rs.length+1:=by simp
 have c:=su (rest:=rest) (mv:=.int mo) (en:=en) hR (e.E2 S) rfl (by omega) (λk v=>y k (by rw[C]at v;omega)) (by rw[C,aeb];exact z);rw[C,aeb]at c;have p:=i0 (g:=g) (Jq S (yj e n)) c (by cases en<;>rfl);have sh:((rs.length*bG i j o K:Nat):Int)+(bG i j o K:Int)=(((rs.length+1)*bG i j o K:Nat):Int):=by rw[tF];omega
 have f:∀a b:D,cL [a,b] 0=some a:=λ_ _=>rfl;unfold allR at *;generalize ((rs ++ [r]).map fj).flatten++rest=E at *;refine Au S p (bp (g1:=g) ((cM (g1:=g) rfl).trans rfl) (bD (d:=.int ((rs.length+1)*bG i j o K:Nat)) (g1:=g) ?_ k));rw[<- sh];generalize rs.length*bG i j o K=s at *;simp[d7,bA,f]
def B_ {sh:Nat}{mo:Nat}{rs:List R4}{g:G}{step scF:Fn}(hR:B x=some (cY (bN 2 1 (oO (qh u U T R)))))(S:jN m i h o K sh mo u U T R)(W:mq i h o sh rs){r:R4}(f:u4 i h o sh r)(l:rs.length<20)(v:∀k,k<rs.length->fH (.int mo) ((rs ++ [r]).map (iQ i o K sh)) k)(tg:jV (.int mo) ((rs ++ [r]).map (iQ i o K sh)) rs.length (some j)):
   ∃q,av false 6 3 (yf u U R (av false 10 5 (cK B)) step scF x yi) [m,.int o,.tup (allR rs r)] g=some (.tup [.tup [.str "read",.tup [.str "view",.int j]],q],g):=by
 have al:=yk W f l;have p:=u5 (g:=g) (step:=step) (scF:=scF) (X:=yi) (rest:=[]) (Y:=some (.rt (.tup [.tup [.str "read",.tup [.str "view",.int j]],.int ((rs.length+1)*bG i h o sh:Nat)]),oQ m i h o sh (allR rs r ++ []) (rs.length*bG i h o sh) ((rs.length+1)*bG i h o sh) (some j),g)) hR S W f l (by simp) v tg ?_
 . rw[wz]at p
   exact⟨_,aU rfl p rfl⟩
 have e:aC 2=true:=rfl;rw[wz];generalize allR rs r=a at *;generalize (rs.length+1)*bG i h o sh=n at *;generalize rs.length*bG i h o sh=s at *;refine bp (g1:=g) ((cM (g1:=g) rfl).trans rfl) (fT (g1:=g) ?_ rfl);have b:aq bM (af a7 aj) (oQ m i h o sh a s n (some j)) g=some (.int n,g):=by rw[<- al];rfl
 have c:ee (oQ m i h o sh a s n (some j)) g=some (.int n,g):=rfl;rw[dU,bK b c];simp[flat,dep,bF,d6]
def Ca {sh:Nat}{mo:Nat}{rs:List R4}{g:G}{step scF:Fn}(hR:B x=some (cY (bN 2 1 (oO (qh u U T R)))))(S:jN m i h o K sh mo u U T R)(W:mq i h o sh rs){r:R4}(l:u4 i h o sh r)(q:rs.length<20){v:D}{rest:List D}(C:flat v=true)(n:∀num∈rest,flat num=true)(z:∀k,k<rs.length->fH (.int mo) ((rs ++ [r]).map (iQ i o K sh)) k)(A:jV (.int mo) ((rs ++ [r]).map (iQ i o K sh)) rs.length (some j)):
   av false 6 3 (yf u U R (av false 10 5 (cK B)) step scF x yi) [m,.int o,.tup (allR rs r++v::rest)] g=some (.tup [.tup [.str "told",v],.int (((rs.length+1)*bG i h o sh:Nat)+1:Int)],g):=by
 have al:=yk W l q;have at_:cL (allR rs r++v::rest) (((rs.length+1)*bG i h o sh:Nat):Int)=some v:=hG (by rw[<- al];simp)
 have len:((allR rs r++v::rest).length:Int)≠((rs.length+1)*bG i h o sh:Nat):=by rw[nN,al,yw];omega
 have tg:=u5 (g:=g) (step:=step) (scF:=scF) (X:=yi) (rest:=v::rest) (Y:=some (.rt (.tup [.tup [.str "told",v],.int (((rs.length+1)*bG i h o sh:Nat)+1:Int)]),oQ m i h o sh (allR rs r++v::rest) (rs.length*bG i h o sh) ((rs.length+1)*bG i h o sh) (some j),g)) hR S W l q (by simp;exact⟨C,n⟩) z A ?_
 . exact aU rfl tg rfl
 have y:aC 2=true:=rfl;generalize allR rs r++v::rest=E at *;generalize (rs.length+1)*bG i h o sh=p at *;generalize rs.length*bG i h o sh=s at *;have e:aq bM (af a7 aj) (oQ m i h o sh E s p (some j)) g=some (.int E.length,g):=rfl;have a:ee (oQ m i h o sh E s p (some j)) g=some (.int p,g):=rfl;refine bp (g1:=g) ((cM (g1:=g) rfl).trans rfl) (bp (σ1:=oQ m i h o sh E s p (some j)) (g1:=g) ((cM (g1:=g) ?_).trans rfl) (cU ?_))
 . rw[dU,bK e a]
   simp[flat,dep,bF,d6];omega
 . have c:ak au a7 ee (oQ m i h o sh E s p (some j)) g=some (v,g):=by
    rw[bK (d:=.tup E) (g1:=g) rfl a];simp[d7,bA,at_]
   have b:ak aJ ee bh (oQ m i h o sh E s p (some j)) g=some (.int ((p:Int)+1),g):=by rw[bK (d':=.int 1) (g2:=g) a rfl];rfl
   have f:aI ax (af fh (af (ak au a7 ee) aj)) (oQ m i h o sh E s p (some j)) g=some (.tup [.str "told",v],g):=by simp only[jq,cw,c,Bn,dq,mI];rfl
   rw[jq];simp only[cw,f,b,dq,mI];rfl
end
section
variable {Q:F×Sg×G->Prop}{Z Y X:Fn}{U J:D}{T:FE}{O:G}{K:FT}{f I:FS}
noncomputable def sF (value:Fn):FS:=aK (aq gG (af (bO bR (iz (af a6 aj)) [none,none,some 0] (gN 1) cG (aq value (af a7 aj))) aj))
def mr (f:Fn):Prop:=∀n (k:Nat) g (B:Int),k<=20->B+3*k<2 ^ 40->Hd g n B->∃(c:List D) (h:G),f [.ref n,.int k] g=some (.tup c,h)/\c.length=k/\(∀w∈c,vG w)/\Hd h n (B+3*k)/\p9 n g h
def Ff (A:l7 u):mr (av false 2 2 (sF u)):=λn k g B O Q hd=>by
 have E:l2 (av false 2 2 (sF u) [.ref n,.int k] g) λq=>∃C:List D,q.1 = .tup C/\C.length=k/\(∀w∈C,vG w)/\Hd q.2 n (B+3*k)/\p9 n g q.2:=by
  refine Ph rfl ?_;simp[sF];refine ng ?_;have l:aC k=true:=aR (by omega);simp[dS,l];refine⟨by omega,?_⟩;refine iV (λj p H a=>(∃i,H = [none,i,some (.ref n)])/\(p.length=j /\ ∀w∈p,vG w)/\Hd a n (B+3*j)/\p9 n g a) _ 0 _ _ [] ⟨⟨none,rfl⟩,⟨rfl,by simp⟩,by simpa using hd,.refl⟩ ?_ ?_
  . rintro j d p H a o ⟨⟨i,rfl⟩,⟨c,f⟩,h,b⟩
    obtain⟨R,rfl⟩:=gW o;simp only[CV]at *;refine PL (A n a _ (by omega) h) λv U value z I J=>?_;simp[value,c];refine⟨λw hw=>?_,I.mono (by omega),b.trans J⟩;rcases hw with hw|rfl
    . exact f w hw
    . exact z
  . rintro Y H a ⟨_,⟨c,f⟩,h,b⟩
    simp only[P_,dS,CV]at *;simp[c,l];exact⟨b.1,f,h,b⟩
 obtain⟨⟨d,a⟩,e,C,rfl,s,r,x,y⟩:=E;exact⟨C,a,e,s,r,x,y⟩
inductive MQ
 |handed (n tu mo:Nat)
 |signs (n tg sh mo:Nat)
 |shared (n p tg sh mo:Nat)
noncomputable def MQ.d:MQ->D
 |.handed n tu mo=>.tup [.str "handed",.int n,.int tu,.int mo]|.signs n tg sh mo=>.tup [.str "signs",.int n,.int tg,.int sh,.int mo]|.shared n p tg sh mo=>.tup [.str "shared",.int n,.int p,.int tg,.int sh,.int mo]
noncomputable def MQ.n:MQ->Nat
 |.handed n _ _=>n|.signs n _ _ _=>n|.shared n _ _ _ _=>n
noncomputable def MQ.p:MQ->Nat
 |.shared _ p _ _ _=>p|M=>M.n
noncomputable def MQ.sh:MQ->Nat
 |.signs _ _ sh _=>sh|.shared _ _ _ sh _=>sh|_=>0
noncomputable def MQ.tu:MQ->Nat
 |.handed _ tu _=>tu|_=>0
noncomputable def MQ.mo:MQ->Nat
 |.handed _ _ mo=>mo|.signs _ _ _ mo=>mo|.shared _ _ _ _ mo=>mo
structure MQ.Ok (M:MQ):Prop where
 m1:1<=M.mo
 m4:M.mo<=4
 n1:1<=M.n
 n5:M.n<=5
 p1:1<=M.p
 p5:M.p<=5
 s1:M.sh<=1
 t9:M.tu<=9
 p4:∀n p tg sh mo,M = .shared n p tg sh mo->p<=4
noncomputable def two (a:Str)(i j:Nat):D:=.tup [.str a,.int i,.int j]
def Cb (M:MQ)(c:D):Prop:=match M with
 |.handed n _ _=>∃v x h,c = .tup [v,.int x,.tup h]/\vG v/\h.length=n /\ ∀w∈h,vG w|M=>SC M.n c
structure CK (M:MQ)(k c:D):Prop where
 bo:∀j,k=own "box" j->BC c
 ow:∀j,k=own "own" j->Cb M c
 cl:∀i j,k=two "call" i j->∃x:Int,c = .int x
 vw:∀j,k=own "view" j->∃ws,c = .tup ws/\ws.length=M.p /\ ∀w∈ws,vG w
 sg:∀i j,k=two "sign" i j->∃x:Int,c = .int x
inductive pS (M:MQ):D->Prop
 |box (j:Nat) (h:j<M.p):pS M (own "box" j)
 |own (j:Nat) (h:j<M.n):pS M (own "own" j)
 |view (j:Nat) (h:j<M.n):pS M (own "view" j)
 |call (i j:Nat) (h:i<M.n) (h':j<M.n):pS M (two "call" i j)
 |sign (i j:Nat) (h:i<M.n) (h':j<M.n):pS M (two "sign" i j)
theorem pS.aO {M:MQ}(h:pS M c):_root_.aO 6 c=true:=by cases h<;>rfl
theorem pS.bT {M:MQ}(h:pS M c):_root_.bT 0 c=true:=by cases h<;>rfl
def gk {b:Str}(e:own x i=own b j):x=b/\i=j:=by
 unfold own at e;injection e with e
 injection e with e1 e
 injection e with e2 _
 injection e1 with e1
 injection e2 with e2
 exact⟨e1,by omega⟩
def jA {a b:Str}(e:two a i j=two b o h):a=b/\i=o/\j=h:=by
 unfold two at e;injection e with e
 injection e with e1 e
 injection e with e2 e
 injection e with e3 _
 injection e1 with e1
 injection e2 with e2
 injection e3 with e3
 exact⟨e1,by omega,by omega⟩
def cq {b:Str}:own x i≠two b o j:=λe=>by
 unfold own two at e;injection e with e
 injection e with _ e
 injection e with _ e
 cases e
noncomputable def vO (take:Fn):FE:=aq gG (af (bO bR (iz (af bg aj)) [none,none,some 0] (gN 1) cG (aq take (af a7 (af dV aj)))) aj)
noncomputable def QF (take value places state:Fn):FS:=az (mR 3 4 (af (ak au a6 bh) (af (aq places (af a6 aj)) aj))) (az (bU (aD (ak oEq (ak au a7 b0) ir)) (aK (aq state (af a5 (af d4 aj)))) aP) (az (bU (aD (ak mU (ak au a7 b0) (aI ax (af i3 (af f6 aj))))) (aK (aq take (af a5 (af dV aj)))) aP) (az (bU (aD (ak oEq (ak au a7 b0) ft)) (aK (aI ax (af (aq value (af a5 aj)) (af (ak (bt bV (· - ·)) (aq take (af a5 (af (ak aJ bg bh) aj))) bh) (af (aq take (af a5 (af dV aj))) aj))))) aP) (az (bU (aD (ak oEq (ak au a6 b0) (fC (.str "once")))) (aK (aq value (af a5 aj))) aP) (az (bU (aD (ak oEq (ak au a6 b0) (fC (.str "twice")))) (aK (aI ax (af (aq value (af a5 aj)) (af (aq take (af a5 (af fc aj))) aj)))) aP) (az (bU (aD (ak oEq (ak au a6 b0) gD)) (aK (aI ax (af (aq value (af a5 aj)) (af (aq take (af a5 (af fc aj))) (af (aq state (af a5 (af bg aj))) aj))))) aP) (az (aF (vO take) (gN 5)) (aK (aI ax (af (aq value (af a5 aj)) (af ee (af (aq take (af a5 (af dV aj))) (af (aq state (af a5 (af bg aj))) aj)))))))))))))
def QG (y:fg u){k:Nat}{p:Sg}{Q:D×G->Prop}(s:p[0]? = some (some (.ref h)))(B:p[3]? = some (some (.int k)))(A:k<=5)(z:M+k<2 ^ 40)(v:Hd r h M)(q:∀(bs:List Int) n,bs.length=k->Hd n h (M+k)->p9 h r n->Q (.tup (bs.map .int),n)):l2 (vO u p r) Q:=by
 unfold vO;simp[s,B];refine ng ?_;have i:aC k=true:=aR (by omega);simp[B,dS,i];refine⟨by omega,?_⟩;refine iV (λj C p n=>(∃f,p = [none,f,some (.ref h)])/\(∃bs:List Int,C=bs.map D.int/\bs.length=j)/\Hd n h (M+j)/\p9 h r n) _ 0 _ _ [] ⟨⟨none,by first|rfl|simp[cz,s]⟩,⟨[],rfl,rfl⟩,by simpa using v,.refl⟩ ?_ ?_
 . rintro j d C p n l ⟨⟨f,rfl⟩,⟨bs,rfl,a⟩,c,b⟩
   obtain⟨g,rfl⟩:=gW l;simp only[CV]at *;simp;refine y.w (by omega) (by decide) (by decide) c λx I J o E H=>?_;exact⟨⟨bs ++ [x],by simp,by simp[a]⟩,E.mono (by omega),b.trans H⟩
 . rintro O p n ⟨_,⟨bs,e,a⟩,c,b⟩
   simp only[P_,dS,CV]at *;subst e;simp[a,i];exact q bs n a c b
def oR (places:Fn):Prop:=∀(M:MQ) (g:G),places [M.d] g=some (.int M.p,g)
noncomputable def VM:FS:=aK (lA (aD (ak oEq (ak au a5 b0) fk)) (ak au a5 dV) (ak au a5 bh))
def TU:oR (av false 1 1 VM):=λM g=>by cases M<;>exact aU rfl (cU rfl) rfl
def kI {g1:G}(t:K k r=some (true,g1))(w:l2 (C k g1) λq=>Q (.rt q.1,k,q.2)):l2 (az (bU K (aK C) f) I k r) Q:=by obtain⟨⟨d,c⟩,e,q⟩:=w;exact⟨_,fT t e,q⟩
def dR {g1:G}(t:K k r=some (false,g1))(c:l2 (I k g1) Q):l2 (az (bU K f aP) I k r) Q:=pD ((cM t).trans rfl) c
def Cc (w:l2 (C k r) λq=>Q (.rt q.1,k,q.2)):l2 (aK C k r) Q:=by obtain⟨⟨d,c⟩,e,q⟩:=w;exact⟨_,cU e,q⟩
def TV (w:l2 (C k r) λq=>l2 (f (k.set i (some q.1)) q.2) Q):l2 (az (aF C (gN i)) f k r) Q:=by obtain⟨⟨d,c⟩,e,q⟩:=w;exact k_ e q
section
variable {M:MQ}
theorem CK.view {j:Nat}{a:List D}(h:a.length=M.p)(c:∀w∈a,vG w):CK M (own "view" j) (.tup a):=⟨λ_ e=>absurd (gk e).1 (by decide),λ_ e=>absurd (gk e).1 (by decide),λ_ _ e=>absurd e cq,λ_ _=>⟨a,rfl,h,c⟩,λ_ _ e=>absurd e cq⟩
end
section
variable {M:MQ}
theorem CK.sign {i j:Nat}{x:Int}:CK M (two "sign" i j) (.int x):=⟨λ_ e=>absurd e.symm cq,λ_ e=>absurd e.symm cq,λ_ _ e=>absurd (jA e).1 (by decide),λ_ e=>absurd e.symm cq,λ_ _ _=>⟨x,rfl⟩⟩
end
section
variable {M:MQ}
theorem CK.call {i j:Nat}{x:Int}:CK M (two "call" i j) (.int x):=⟨λ_ e=>absurd e.symm cq,λ_ e=>absurd e.symm cq,λ_ _ _=>⟨x,rfl⟩,λ_ e=>absurd e.symm cq,λ_ _ e=>absurd (jA e).1 (by decide)⟩
end
section
variable {M:MQ}
theorem CK.box {j:Nat}{c:D}(h:BC c):CK M (own "box" j) c:=⟨λ_ _=>h,λ_ e=>absurd (gk e).1 (by decide),λ_ _ e=>absurd e cq,λ_ e=>absurd (gk e).1 (by decide),λ_ _ e=>absurd e cq⟩
end
section
variable {M:MQ}
theorem CK.own {j:Nat}{c:D}(h:Cb M c):CK M (_root_.own "own" j) c:=⟨λ_ e=>absurd (gk e).1 (by decide),λ_ _=>h,λ_ _ e=>absurd e cq,λ_ e=>absurd (gk e).1 (by decide),λ_ _ e=>absurd e cq⟩
end
def Fd (c:D):Prop:=flat c=true/\dep c<=9
theorem Fd.int:Fd (.int M):=⟨rfl,by simp[dep]⟩
def kJ (h:∀w∈A,vG w):flat (.tup A)=true/\dep (.tup A)<=4:=⟨by simp only[flat];exact g_ λd hd=>(h d hd).1,by simp only[dep];have:=pF (k:=3) λd hd=>(h d hd).2;omega⟩
def Jr (h:BC c):Fd c:=⟨h.flat,by obtain⟨v,a,t,rfl,b⟩:=h;have:=b.2;simp only[dep,dM];omega⟩
def Cq (M:MQ)(h:Nat)(B:Int)(g:G)(k:D)(q:D×G):Prop:=CK M k q.1/\Fd q.1/\Hd q.2 h (B+30)/\p9 h g q.2
def TX {take:MQ}(A:fg u)(H:l7 Z)(E:mr X)(I:oR Y)(ok:take.Ok){k:D}(J:pS take k)(C:Hd r h M)(K:M+40<2 ^ 40):l2 (av false 6 3 (QF u Z Y X) [.ref h,take.d,k] r) (Cq take h M r k):=by
 have n5:=ok.n5;have p5:=ok.p5;have z2:aC 2=true:=rfl;have z3:aC 3=true:=rfl;have z4:aC 4=true:=rfl;refine Ph rfl (pD (B0 (d:=.int take.n) (d':=.int take.p) (g1:=r) (g2:=r) (by cases take<;>rfl) (I take r)) ?_);cases J with
 |view j hj =>
  refine kI (g1:=r) rfl ?_;obtain⟨Q,g',e,l,a,s,f⟩:=E h take.p r M (by omega) (by omega) C;have fd:=kJ a;exact⟨_,e,f.1,.view l a,⟨fd.1,pe fd.2 (by decide)⟩,s.mono (by omega),f⟩
 |call i j hi hj =>
  refine dR (g1:=r) rfl (kI (g1:=r) rfl ?_);obtain⟨x,g',e,x0,x1,s,f⟩:=A h 2 r M (by omega) (by decide) (by decide) C;exact⟨_,e,f.1,.call,.int,s.mono (by omega),f⟩
 |sign i j hi hj =>
  refine dR (g1:=r) rfl (kI (g1:=r) rfl ?_);obtain⟨x,g',e,x0,x1,s,f⟩:=A h 2 r M (by omega) (by decide) (by decide) C;exact⟨_,e,f.1,.sign,.int,s.mono (by omega),f⟩
 |box j hj =>
  refine dR (g1:=r) rfl (dR (g1:=r) rfl (kI (g1:=r) rfl ?_));obtain⟨v,g1,e1,g,U,f1⟩:=H h r M (by omega) C;obtain⟨x,g2,z,x0,x1,O,f2⟩:=A h (take.n+1) g1 _ (by omega) (by omega) (by omega) U;obtain⟨y,R,q,y0,y1,o,b⟩:=A h 2 g2 _ (by omega) (by decide) (by decide) O;have F:=(f1.trans f2).trans b;have bc:BC (.tup [v,.int (x-1),.int y]):=⟨v,x-1,y,rfl,g⟩
  refine⟨(.tup [v,.int (x-1),.int y],R),?_,F.1,.box bc,(Jr bc),o.mono (by omega),F⟩;simp[e1,z,q,z3]
 |own j hj =>
  refine dR (g1:=r) rfl (dR (g1:=r) rfl (dR (g1:=r) rfl ?_));have mk:∀{c:D},Cb take c->CK take (own "own" j) c:=λh=>.own h;have signs:(∀c:D,SC take.n c->CK take (own "own" j) c)->l2 (az (aF (vO u) (gN 5)) (aK (aI ax (af (aq Z (af a5 aj)) (af ee (af (aq u (af a5 (af dV aj))) (af (aq X (af a5 (af bg aj))) aj)))))) [some (.ref h),some take.d,some (own "own" j),some (.int take.n),some (.int take.p),none] r) λB=>match B.1 with
    |.rt d=>B.2.2.length=r.length/\Cq take h M r (own "own" j) (d,B.2.2)|.nx=>B.2.2.length=r.length/\Cq take h M r (own "own" j) (.ay,B.2.2)|_=>False:=λmk=>by
   refine TV (QG A (k:=take.n) rfl rfl n5 (by omega) C λbs g1 bl U f1=>Cc ?_);obtain⟨v,g2,z,p2,O,f2⟩:=H h g1 _ (by omega) U;obtain⟨x,R,q,x0,x1,o,b⟩:=A h 2 g2 _ (by omega) (by decide) (by decide) O;obtain⟨Q,g4,e4,l4,a4,Js,f4⟩:=E h take.n R _ (by omega) (by omega) o;have F:=(f1.trans f2).trans (b.trans f4);have sc:SC take.n (.tup [v,.tup (bs.map .int),.int x,.tup Q]):=⟨v,bs,x,Q,p2,bl,l4,a4⟩
   refine⟨(.tup [v,.tup (bs.map .int),.int x,.tup Q],g4),?_,F.1,mk _ sc,⟨sc.flat,sc.dep⟩,Js.mono (by omega),F⟩;simp[z,q,e4,z4]
  cases take with
  |handed n tu mo =>
   refine dR (g1:=r) rfl (dR (g1:=r) rfl (kI (g1:=r) rfl ?_));obtain⟨v,g1,e1,g,U,f1⟩:=H h r M (by omega) C;obtain⟨x,g2,ab,x0,x1,O,f2⟩:=A h 3 g1 _ (by omega) (by decide) (by decide) U;have z:aq u (af a5 (af fc aj)) [some (.ref h),some (MQ.handed n tu mo).d,some (own "own" j),some (.int (MQ.handed n tu mo).n),some (.int (MQ.handed n tu mo).p),none] g1=some (.int x,g2):=ab;obtain⟨Q,R,q,l3,a3,o,b⟩:=E h (MQ.handed n tu mo).n g2 _ (by omega) (by omega) O;have F:=(f1.trans f2).trans b;have fw:=kJ a3;refine⟨(.tup [v,.int x,.tup Q],R),?_,F.1,mk ⟨v,x,Q,rfl,g,l3,a3⟩,⟨by have:=fw.1;simp only[flat,bJ]at this ⊢;rw[g.1,this];rfl,by have:=g.2;have:=fw.2;simp only[dep,dM]at this ⊢;omega⟩,o.mono (by omega),F⟩;have Ji:aq Z (af a5 aj) [some (.ref h),some (MQ.handed n tu mo).d,some (own "own" j),some (.int (MQ.handed n tu mo).n),some (.int (MQ.handed n tu mo).p),none] r=some (v,g1):=e1;have QH:aq X (af a5 (af bg aj)) [some (.ref h),some (MQ.handed n tu mo).d,some (own "own" j),some (.int (MQ.handed n tu mo).n),some (.int (MQ.handed n tu mo).p),none] g2=some (.tup Q,R):=q;show aI ax _ [some (.ref h),some (MQ.handed n tu mo).d,some (own "own" j),some (.int (MQ.handed n tu mo).n),some (.int (MQ.handed n tu mo).p),none] r=_;simp only[jq,cw,Ji,z,QH,dq,mI];rfl
  |signs n tg sh mo =>
   exact dR (g1:=r) rfl (dR (g1:=r) rfl (dR (g1:=r) rfl (signs λc h=>mk h)))
  |shared n p tg sh mo =>
   exact dR (g1:=r) rfl (dR (g1:=r) rfl (dR (g1:=r) rfl (signs λc h=>mk h)))
theorem AF {k v:D}:∀{xs:List D},(aX xs k v).length<=xs.length+2
 | []=>by simp[aX]| [_]=>by simp[aX]|c::h::r=>by have:=AF (k:=k) (v:=v) (xs:=r);simp only[aX];split<;>simp<;>omega
theorem Jt {n:Nat}:∀(ps:List (D×D)) (p:List D) (g:G),g[n]? = some p->gX p=true->aQ 0 p=true->p.length+2*ps.length<=400->(∀q∈ps,aO 6 q.1=true/\bT 0 q.1=true/\bT 0 q.2=true) ->
  ∃a_,baz n ps g=some (g.set n a_)/\gX a_=true/\aQ 0 a_=true/\a_.length<=p.length+2*ps.length/\(∀k c,aO 6 k=true->aM a_ k=some c->aM p k=some c\/(k,c)∈ps) /\ ∀k,aO 6 k=true->((∃c,aM p k=some c) \/ ∃c,(k,c)∈ps)->∃c,aM a_ k=some c
 | [],p,g,C,ka,nr,_,_=>⟨p,by obtain⟨o,e⟩:=m5.mp C;rw[<- e,NZ];rfl,ka,nr,by simp,λk c _ h=>.inl h,λk _ h=>by rcases h with h|⟨c,h⟩;exact h;simp at h⟩
 |q::ps,p,g,C,ka,nr,o,hq=>by
  obtain⟨j,u,y⟩:=hq q (by simp);have E:=AF (k:=q.1) (v:=q.2) (xs:=p);simp only[yw]at o;have lt:=(m5.mp C).1;obtain⟨a_,e,a,b,c,d,f⟩:=Jt ps (aX p q.1 q.2) (g.set n (aX p q.1 q.2)) (vT lt) (nh j ka) (ni u y nr) (by omega) λx i=>hq x (by simp[i]);have r:kZ p=true:=by unfold kZ;exact aR (by omega)
  refine⟨a_,?_,a,b,by simp only[yw];omega,λk v l s=>?_,λk l i=>f k l ?_⟩
  . simp only[baz,kB,C,mI,j,r,afx,if_true,e,Pc]
  . rcases d k v l s with z|z
    . by_cases B:q.1=k
      . subst B
        rw[fA j ka]at z;cases z;exact .inr (by simp)
      . rw[gB j l B ka]at z
        exact .inl z
    . exact .inr (by simp[z])
  . by_cases B:q.1=k
    . subst B;exact .inl ⟨_,fA j ka⟩
    . rw[gB j l B ka]
      rcases i with i|⟨v,i⟩
      . exact .inl i
      . rcases nv.mp i with z|z
        . exact absurd (congrArg Prod.fst z).symm B
        . exact .inr ⟨v,z⟩
theorem AG:∀ps:List (D×D),jg (ps.map λq=>.tup [q.1,q.2])=some ps
 | []=>rfl|q::ps=>by simp[jg,BS,AG ps]
noncomputable def nE (b:Str)(a:FE):FE:=bO bR (iz (af a aj)) [none,none] (gN 1) cG (aI ax (af (fC (.str b)) (af a6 aj)))
noncomputable def tE (a:Str):FE:=bO bR (iz (af a7 aj)) [none,none,some 4] (gN 1) cG (aI ax (af (fC (.str a)) (af a7 (af a6 aj))))
noncomputable def bxL:FS:=aF (ak aJ (ak aJ bg (tE "call")) (tE "sign")) (gN 3)
noncomputable def Ju (a:Fn):FE:=bO bR (cO bg) [none,none,some 0,some 1] (gN 1) cG (aI ax (af a6 (af (aq a (af a7 (af bg (af a6 aj)))) aj)))
noncomputable def Fg (places a:Fn):FS:=az (aF (ak au a6 bh) (gN 2)) (az (aF (ak aJ (nE "box" (aq places (af a6 aj))) (nE "own" a7)) (gN 3)) (az (aF (ak aJ bg (nE "view" a7)) (gN 3)) (az (fO (iz (af a7 aj)) (gN 4) bxL) (aK (aq m9 (af (Ju a) aj))))))
def Cd {g:G}{σ:Sg}(e:C σ g=some (.int i,g))(o:i<=20):nE x C σ g=some (.lst ((nJ i).map λj=>own x j),g):=by
 have f:aC 2=true:=rfl;have b:aC i=true:=aR (by omega);have r:=so (fr:=af C aj) (σ:=σ) (g:=g) (g1:=g) (n:=i) (by simp[e]) (by omega);have c:=dZ (t:=gN 1) (c:=cG) (e:=aI ax (af (fC (.str x)) (af a6 aj))) (h:=λd=>D.tup [.str x,d]) (λσ=>∃a,σ = [none,a]) (fU 0 i) [none,none] g ⟨_,rfl⟩ (by rintro t hm σ ⟨a,rfl⟩;exact⟨[none,some t],by simp,by simp,by simp[f],_,rfl⟩)
 unfold nE;rw[gR,r];simp only[mI,dS,b,if_true];rw[show cz [none,none] σ = [none,none] from rfl,c];simp[bR,fU,own,L1,b]
def Jv {g:G}{σ:Sg}{n:Nat}(o:σ[2]? = some (some (.int n)))(l:σ[4]? = some (some (.int i)))(q:n<=5):tE x σ g=some (.lst ((nJ n).map λj=>two x i j),g):=by
 have f:aC 3=true:=rfl;have b:aC n=true:=aR (by omega);have r:=so (fr:=af a7 aj) (σ:=σ) (g:=g) (g1:=g) (n:=n) (by simp[o]) (by omega);have c:=dZ (t:=gN 1) (c:=cG) (e:=aI ax (af (fC (.str x)) (af a7 (af a6 aj)))) (h:=λd=>D.tup [.str x,.int i,d]) (λσ=>∃a,σ = [none,a,some (.int i)]) (fU 0 n) [none,none,some (.int i)] g ⟨_,rfl⟩ (by rintro t hm σ ⟨a,rfl⟩;exact⟨[none,some t,some (.int i)],by simp,by simp,by simp[f],_,rfl⟩)
 unfold tE;rw[gR,r];simp only[mI,dS,b,if_true];rw[show cz [none,none,some 4] σ = [none,none,some (.int i)] by simp[cz,l],c];simp[bR,fU,two,L1,b]
structure VN (M:MQ)(i:Nat)(L:List D):Prop where
 kk:∀k∈L,pS M k
 bo:∀j,j<M.p->own "box" j∈L
 ow:∀j,j<M.n->own "own" j∈L
 vw:∀j,j<M.n->own "view" j∈L
 cl:∀a j,a<i->j<M.n->two "call" a j∈L/\two "sign" a j∈L
 le:L.length<=15+10*i
def add_l {xs:List D}(a:C k r=some (.lst xs,r))(c:T k r=some (.lst A,r))(b:xs.length+A.length<=1000):ak aJ C T k r=some (.lst (xs++A),r):=by rw[bK a c,Gz,if_pos (aR b)]
structure bW (M:MQ)(bx:List D):Prop where
 ka:gX bx=true
 nr:aQ 0 bx=true
 le:bx.length<=150
 ck:∀k c,pS M k->aM bx k=some c->CK M k c/\Fd c
 has:∀k,pS M k->∃c,aM bx k=some c
def Ht {M:MQ}(ok:M.Ok)(y:oR u)(q:∀L B,VN M M.n L->l2 (aK (aq m9 (af (Ju Z) aj)) [some (.ref h),some M.d,some (.int M.n),some (.lst L),B] r) Q):l2 (Fg u Z [some (.ref h),some M.d,none,none,none] r) Q:=by
 have g:=ok.n5;have x:=ok.p5;have len:∀(nm:Str) k,((nJ k).map λj=>own nm j).length=k:=λnm k=>by simp
 refine k_ (d:=.int M.n) (g1:=r) (by cases M<;>rfl) (k_ (d:=.lst (((nJ M.p).map λj=>own "box" j)++(nJ M.n).map λj=>own "own" j)) (g1:=r) (add_l (Cd (y M r) (by omega)) (Cd rfl (by omega)) (by rw[len,len];omega)) (k_ (d:=.lst ((((nJ M.p).map λj=>own "box" j)++(nJ M.n).map λj=>own "own" j)++(nJ M.n).map λj=>own "view" j)) (g1:=r) (add_l rfl (Cd rfl (by omega)) (by rw[nN,len,len,len];omega)) ?_));refine wp_seq ?_;rw[lS,Wm];refine ng ⟨([.int M.n],r),rfl,M.n,rfl,by omega,by omega,?_⟩;refine(pf (λi C l=>l=r /\ ∃L B,VN M i L/\C = [some (.ref h),some M.d,some (.int M.n),some (.lst L),B]) _ 0 _ _ ⟨rfl,_,_,?_,rfl⟩ ?_ ?_)
 . refine⟨λk c=>?_,λj b=>?_,λj b=>?_,λj b=>?_,λa j o=>absurd o (adZ _),by simp;omega⟩
   . simp only[m3,mO,ug]at c
     rcases c with(⟨j,h,rfl⟩|⟨j,h,rfl⟩)|⟨j,h,rfl⟩
     . exact .box j h
     . exact .own j h
     . exact .view j h
   . simp only[m3,mO,ug];exact .inl (.inl ⟨j,b,rfl⟩)
   . simp only[m3,mO,ug];exact .inl (.inr ⟨j,b,rfl⟩)
   . simp only[m3,mO,ug];exact .inr ⟨j,b,rfl⟩
 . rintro i d C l v ⟨rfl,L,B,N,rfl⟩
   obtain⟨f,rfl⟩:=gW v;simp only[CV]at N ⊢;have f:i<M.n:=by simpa using f
   have le:=N.le;refine⟨_,rfl,_,eU (add_l (add_l (xs:=L) rfl (Jv (n:=M.n) (i:=i) rfl rfl g) (by simp;omega)) (Jv (n:=M.n) (i:=i) rfl rfl g) (by simp;omega)),rfl,_,_,?_,rfl⟩;refine⟨λk c=>?_,λj b=>?_,λj b=>?_,λj b=>?_,λa j o b=>?_,by simp;omega⟩
   . simp only[m3,mO,ug]at c
     rcases c with(c|⟨j,h,rfl⟩)|⟨j,h,rfl⟩
     . exact N.kk k c
     . exact .call i j f h
     . exact .sign i j f h
   . simp only[m3];exact .inl (.inl (N.bo j b))
   . simp only[m3];exact .inl (.inl (N.ow j b))
   . simp only[m3];exact .inl (.inl (N.vw j b))
   . simp only[m3,mO,ug]
     by_cases e:a=i
     . subst e;exact⟨.inl (.inr ⟨j,b,rfl⟩),.inr ⟨j,b,rfl⟩⟩
     . obtain⟨s,places⟩:=N.cl a j (by omega) b
       exact⟨.inl (.inl s),.inl (.inl places)⟩
 . rintro C l ⟨rfl,L,B,N,rfl⟩
   simp only[CV,dS,L7]at N;exact⟨rfl,q L B N⟩
def TY {M:MQ}{B:Int}{g:G}(ok:M.Ok)(C:oR u)(A:∀{g B k},B+40<2 ^ 40->pS M k->Hd g h B->l2 (Z [.ref h,M.d,k] g) (Cq M h B g k))(E:Hd g h B)(H:B+3000<2 ^ 40):∃I p,av true 5 2 (Fg u Z) [.ref h,M.d] g=some (.bu g.length,p ++ [I])/\p9 h g p/\Hd p h (B+2400)/\bW M I:=by
 have n5:=ok.n5;have Q:l2 (av true 5 2 (Fg u Z) [.ref h,M.d] g) λq=>∃I p,q=(.bu g.length,p ++ [I])/\p9 h g p/\Hd p h (B+2400)/\bW M I:=by
  refine KH rfl (Ht ok C λL o4 N=>Cc ?_);have le:=N.le;have zl:aC L.length=true:=aR (by omega);have z2:aC 2=true:=rfl;show l2 ((af (Ju Z) aj _ _).bind λr=>m9 r.1 r.2) _;rw[Wm,cw,Wm];unfold Ju;refine PQ ⟨(L,g),rfl,zl,?_⟩
  refine iV (λj J R places=>(∃o1,R = [none,o1,some (.ref h),some M.d])/\(∃o:List (D×D),J=o.map (λq=>.tup [q.1,q.2])/\o.map (·.1)=L.take j /\ ∀q∈o,CK M q.1 q.2/\Fd q.2)/\Hd places h (B+30*j)/\p9 h g places) L 0 _ _ [] ⟨⟨_,rfl⟩,⟨[],rfl,rfl,by simp⟩,by simpa using E,.refl⟩ ?_ ?_
  . rintro j d J R places U ⟨⟨o1,rfl⟩,⟨o,rfl,hm,x⟩,gE,f'⟩
    simp only[CV]at *;have jl:=(m5.mp U).1;obtain⟨⟨c,g2⟩,e2,c1,c2,Y,f2⟩:=A (g:=places) (B:=B+30*j) (by omega) (N.kk d (p7 U)) gE;have e3:Z [.ref h,M.d,d] places=some (c,g2):=e2;simp[e3,z2];refine⟨⟨o ++ [(d,c)],by simp,?_,λa b l=>?_⟩,Y.mono (by omega),f'.trans f2⟩
    . rw[wi,hm,ae_,U];rfl
    . rcases m3.mp l with l|l
      . exact x (a,b) l
      . simp only[afk,Prod.mk.injEq]at l
        obtain⟨rfl,rfl⟩:=l;exact⟨c1,c2⟩
  . rintro xs R p ⟨_,⟨o,e,hm,x⟩,iD,O⟩
    simp only[P_,CV]at e hm iD;subst e;rw[Dc (mn _)]at hm;have pl:o.length=L.length:=by rw[<- hm,n7]
    have y:∀q∈o,q.1∈L:=λq l=>by rw[<- hm];exact HB l
    have l1:(p ++ [[]])[g.length]? = some []:=by rw[<- O.1];simp
    obtain⟨I,e,a,b,c,d,f⟩:=Jt (n:=g.length) o [] (p ++ [[]]) l1 rfl rfl (by simp;omega) λq l=>⟨(N.kk _ (y q l)).aO,(N.kk _ (y q l)).bT,dE _ (x q l).2.1⟩
    have has:∀k,k∈L->∃c,aM I k=some c:=λk s=>by rw[<- hm]at s;obtain⟨q,l,rfl⟩:=mO.mp s;exact f q.1 (N.kk _ (y q l)).aO (.inr ⟨q.2,l⟩)
    have zp:aC o.length=true:=aR (by omega);have es:(p ++ [[]]).set g.length I=p ++ [I]:=by rw[<- O.1,adF _ _ (mn _)];simp
    have fin:m9 [.lst (o.map λq=>.tup [q.1,q.2])] p=some (.bu g.length,p ++ [I]):=by show((jg (o.map λq=>.tup [q.1,q.2])).bind _)=_;rw[AG,O.1];simp[e,es]
    refine⟨(.lst (o.map λq=>.tup [q.1,q.2]),p),by simp[bR,zp],?_⟩;simp[fin];refine⟨I,p,⟨rfl,rfl⟩,O,iD.mono (by omega),a,b,by simp at c;omega,λk v s hv=>?_,λk s=>has _ (by
      cases s with
      |box j h=>exact N.bo j h|own j h=>exact N.ow j h|view j h=>exact N.vw j h|call i j h h'=>exact(N.cl i j h h').1|sign i j h h'=>exact(N.cl i j h h').2)⟩
    rcases d k v s.aO hv with z|z
    . simp[aM]at z
    . exact x _ z
 obtain⟨_,e,I,p,rfl,h1⟩:=Q;exact⟨I,p,e,h1⟩
theorem ym {k v c:D}:∀{i:List D},aM i k=some c->(aX i k v).length=i.length
 | [],h=>by simp[aM]at h| [_],h=>by simp[aM]at h
 |n::p::r,h=>by
  simp only[aX];split
  . rfl
  . rename_i e
    simp only[aM]at h;rw[if_neg e]at h;simp only[yw];rw[ym h]
def bW.put {M:MQ}{k:D}(X:bW M A)(j:pS M k)(q:CK M k c)(l:Fd c):bW M (aX A k c):=by
 obtain⟨i,n⟩:=X.has k j;refine⟨nh j.aO X.ka,ni j.bT (dE _ l.1) X.nr,by rw[ym n];exact X.le,λa f b h=>?_,λa b=>?_⟩
 . by_cases e:k=a
   . subst e
     rw[fA j.aO X.ka]at h;cases h;exact⟨q,l⟩
   . rw[gB j.aO b.aO e X.ka]at h
     exact X.ck a f b h
 . by_cases e:k=a
   . subst e
     exact⟨c,fA j.aO X.ka⟩
   . rw[gB j.aO b.aO e X.ka]
     exact X.has a b
noncomputable def MQ.R (M:MQ):Nat:=(M.n-1)*(M.mo-1)+1
def eV {f1 f2:FE}{σ:Sg}{g:G}{i j:Int}(e:f1 σ g=some (.int i,g))(f:f2 σ g=some (.int j,g))(a:-1000<=i)(b:i<=1000)(c:-1000<=j)(d:j<=1000):ak bj f1 f2 σ g=some (.int (i*j),g):=by rw[bK e f,KA,if_pos (iY (by omega) (by omega))]
noncomputable def vP:D:=.tup [.str "look"]
section
variable (next:Fn)(M:MQ)(o:Nat)(ah c0:D)
def i4 (c:List D)(x:D):Prop:=∀g,Bd g->next [M.d,.int o,vP,ah,.tup c] g=some (x,g)
end
def AH {y:Int}(h:C k r=some (.int M,O)):aD (ak oEq C (fC (.int y))) k r=some (decide (M=y),O):=by rw[dU,bK (d':=.int y) (g2:=O) h rfl];by_cases e:M=y<;>simp[d6,flat,dep,bF,e]
def VS (n o sh:Nat)(r:R3):Prop:=iO n o sh r.1 r.2.1 r.2.2
def VH (n p o sh:Nat)(r:R4):Prop:=u4 n p o sh r
noncomputable def Jh (take pick:Fn):FS:=az (mR 1 2 (af (ak aJ dV (aq take (af a5 (af fo aj)))) (af (ak aJ bh (aq take (af a5 (af fo aj)))) aj))) (az (aF (aq take (af a5 (af fc aj))) (gN 3)) (az (bU (aD (ak oEq bg b0)) (aK (aI ax (af gD (af a6 (af b0 (af a7 aj)))))) aP) (az (aF (aq pick (af a5 (af (aI jQ (af (aI ax (af bh (af bh aj))) (af (aI ax (af b0 (af bh aj))) (af (aI ax (af bh (af b0 aj))) aj)))) aj))) (gN 4)) (az (bU (aD (ak oEq bg bh)) (aK (ak aJ (ak aJ (aI ax (af jc (af a6 aj))) d4) (aI ax (af a7 aj)))) aP) (aK (aI ax (af fk (af a6 (af (ak aJ bh (aq take (af a5 (af fo aj)))) (af bh (af bh (af a7 aj))))))))))))
noncomputable def VO:FS:=az (bU (aD (ak oEq (ak au a5 b0) fk)) (az (aF (ak bj (ak bj dV (ak (bt bV (· - ·)) (ak au a5 bh) bh)) (ak au a5 fo)) (gN 4)) (aK (ak oEq (ak (bt cD (· % ·)) a6 (ak aJ (ak (bt dh (· / ·)) (ak bj d4 fc) dV) (ak bj dV bg))) (ak aJ d4 bg)))) aP) (az (bU (aD (ak oEq (ak au a5 b0) gD)) (aK (mN (ak oEq (ak (bt cD (· % ·)) a6 bg) a7) (ak Dz a6 bg))) aP) (az (aF (ak bj (ak bj dV (ak (bt bV (· - ·)) (ak au a5 bh) bh)) (ak au a5 fc)) (gN 4)) (aK (ak oEq (ak (bt cD (· % ·)) a6 (ak aJ d4 (ak bj dV bg))) (ak aJ (ak aJ d4 bg) a7)))))
noncomputable def VP:FS:=az (bU (aD (ak oEq (ak au a5 b0) gD)) (aK (ak bj (ak au a5 bh) (ak aJ (ak au a5 fc) bh))) aP) (az (bU (aD (ak oEq (ak au a5 b0) jc)) (aK (ak bj (ak au a5 fo) (ak aJ (ak bj dV (ak au a5 bh)) (ak bj (ak bj dV (ak au a5 fc)) (ak (bt bV (· - ·)) (ak au a5 bh) bh))))) aP) (aK (ak aJ (ak bj (ak au a5 j0) (ak aJ (ak bj dV (ak au a5 dV)) (ak bj (ak bj fc (ak au a5 fo)) (ak (bt bV (· - ·)) (ak au a5 bh) bh)))) bh)))
structure MQ.Mv (M:MQ):Prop where
 ok:M.Ok
 n2:2<=M.n
 ha:∀n tu mo,M = .handed n tu mo->tu=0
 sg:∀n tg sh mo,M = .signs n tg sh mo->tg=1\/sh=1
 sd:∀n p tg sh mo,M = .shared n p tg sh mo->tg=1/\sh=1
def T1 (A:fg u)(C:jv Z)(E:Hd r h M)(H:M+20<2 ^ 40):l2 (av false 5 1 (Jh u Z) [.ref h] r) λq=>∃take:MQ,take.Mv/\q.1=take.d/\Hd q.2 h (M+10)/\p9 h r q.2:=by
 refine Ph rfl ?_;obtain⟨x,g1,j,x0,x1,iD,f1⟩:=A h 4 r M (by omega) (by decide) (by decide) E;obtain⟨y,g2,B,y0,y1,Q,f2⟩:=A h 4 g1 _ (by omega) (by decide) (by decide) iD;obtain⟨n,hn⟩:∃n:Nat,2+x=n:=⟨(2+x).toNat,(UI (by omega)).symm⟩
 obtain⟨mo,k⟩:∃mo:Nat,1+y=mo:=⟨(1+y).toNat,(UI (by omega)).symm⟩
 refine pD (B0 (d:=.int n) (d':=.int mo) (g1:=g1) (g2:=g2) (by simp[j,hn]) (by simp[B,k])) ?_;obtain⟨w,I,e3,w0,w1,R,f3⟩:=A h 3 g2 _ (by omega) (by decide) (by decide) Q;refine k_ (d:=.int w) (g1:=I) e3 ?_;have F:=(f1.trans f2).trans f3;have s:1<=mo:=by omega
 have o:mo<=4:=by omega
 have i:2<=n:=by omega
 have f:1<=n:=by omega
 have c:n<=5:=by omega
 have Yi:Hd I h (M+10):=R.mono (by omega);have J:aD (ak oEq bg b0) [some (.ref h),some (.int n),some (.int mo),some (.int w),none] I=some (decide (w=0),I):=AH rfl;by_cases hw:w=0
 . rw[decide_eq_true hw]at J
   exact kI J ⟨_,rfl,F.1,.handed n 0 mo,⟨⟨s,o,f,c,f,c,ro _,ro _,λ_ _ _ _ _ e=>nomatch e⟩,i,λ_ _ _ e=>by injection e;omega,λ_ _ _ _ e=>(nomatch e),λ_ _ _ _ _ e=>nomatch e⟩,rfl,Yi,F⟩
 . rw[decide_eq_false hw]at J
   refine dR J ?_;obtain⟨bd,b,e5,U,v,f5⟩:=C h [.tup [.int 1,.int 1],.tup [.int 0,.int 1],.tup [.int 1,.int 0]] I _ (by omega) (by simp) (by simp) R;obtain⟨a,sh,rfl,s1,ts⟩:∃a sh:Nat,bd = .tup [.int a,.int sh]/\sh<=1/\(a=1\/sh=1):=by
     simp only[nv,Ex,or_false]at U;rcases U with rfl|rfl|rfl
     . exact⟨1,1,rfl,by omega,by omega⟩
     . exact⟨0,1,rfl,by omega,by omega⟩
     . exact⟨1,0,rfl,by omega,by omega⟩
   refine k_ (d:=.tup [.int a,.int sh]) (g1:=b) e5 ?_;have l:=F.trans f5;have O:aD (ak oEq bg bh) [some (.ref h),some (.int n),some (.int mo),some (.int w),some (.tup [.int a,.int sh])] b=some (decide (w=1),b):=AH rfl;have z2:aC 2=true:=rfl;have z4:aC 4=true:=rfl;have z1:aC 1=true:=rfl;have z5:aC 5=true:=rfl;have z6:aC 6=true:=rfl;by_cases Y:w=1
   . rw[decide_eq_true Y]at O
     refine kI O ⟨((MQ.signs n a sh mo).d,b),?_,l.1,.signs n a sh mo,⟨⟨s,o,f,c,f,c,s1,ro _,λ_ _ _ _ _ e=>nomatch e⟩,i,λ_ _ _ e=>(nomatch e),λ_ _ _ _ e=>(by injection e with _ j B _;rw[<- j,<- B];exact ts),λ_ _ _ _ _ e=>nomatch e⟩,rfl,v.mono (by omega),l⟩;simp[z2,z4,z1,z5,MQ.d]
   . rw[decide_eq_false Y]at O
     refine dR O (Cc ?_);obtain⟨z,g7,e7,z0,ah,g,f7⟩:=A h 4 b _ (by omega) (by decide) (by decide) v;obtain⟨p,C⟩:∃p:Nat,1+z=p:=⟨(1+z).toNat,(UI (by omega)).symm⟩
     have F7:=l.trans f7;refine⟨((MQ.shared n p 1 1 mo).d,g7),?_,F7.1,.shared n p 1 1 mo,⟨⟨s,o,f,c,show 1<=p by omega,show p<=5 by omega,mn _,ro _,λn' p' ae ab ag e=>by injection e;omega⟩,i,λ_ _ _ e=>(nomatch e),λ_ _ _ _ e=>(nomatch e),λ_ _ _ _ _ e=>(by injection e;omega)⟩,rfl,g.mono (by omega),F7⟩;simp[e7,C,z6,MQ.d]
noncomputable def ig:MQ->Nat
 |.handed n _ mo=>n*(mo+1)|.signs n _ sh mo=>mo*(2*n+2*(sh*(n-1)))|.shared n p _ sh mo=>mo*(2*p+3*(sh*(n-1)))+1
def VR (a:o<=1)(b:1<=i):M*(o:Int)*((i:Int)-1)=M*(((o*(i-1)):Nat):Int):=by
 have:o=0\/o=1:=by omega
 rcases this with rfl|rfl
 . simp
 . simp only[Nat.one_mul,Int.natCast_one,Int.mul_one];rw[show((i:Int)-1)=((i-1:Nat):Int) by omega]
def s5 (a:i<=1)(b:o<=5):i*(o-1)<=5:=pe (Vy a (show o-1<=5 by omega)) (by decide)
section
variable {M:MQ}{g:G}{t j:Nat}
def T2 (mv:M.Mv):av false 1 1 VP [M.d] g=some (.int (ig M),g):=by
 have ok:=mv.ok;have a:=ok.n1;have c:=ok.n5;have s1:=ok.s1;have h:=ok.m1;have f:=ok.m4;cases M with
 |handed n tu mo =>
  simp only[MQ.n,MQ.mo]at a c h f;refine aU rfl (fT (g1:=g) rfl ?_) rfl;refine(eV (i:=n) (j:=(mo:Int)+1) rfl rfl (by omega) (by omega) (by omega) (by omega)).trans ?_;simp[ig]
 |signs n tg sh mo =>
  simp only[MQ.n,MQ.sh,MQ.mo]at a c s1 h f;have l:=s5 s1 c;refine aU rfl (bp ((cM (g1:=g) rfl).trans rfl) (fT (g1:=g) rfl ?_)) rfl;have r:=eV (f1:=dV) (f2:=ak au a5 bh) (σ:=[some (MQ.signs n tg sh mo).d]) (g:=g) (i:=2) (j:=n) rfl rfl (by omega) (by omega) (by omega) (by omega);have u:=eV (f1:=dV) (f2:=ak au a5 fc) (σ:=[some (MQ.signs n tg sh mo).d]) (g:=g) (i:=2) (j:=sh) rfl rfl (by omega) (by omega) (by omega) (by omega)
  have e:=eV (f2:=ak (bt bV (· - ·)) (ak au a5 bh) bh) (j:=(n:Int)-1) u rfl (by omega) (by omega) (by omega) (by omega)
  have b:=(bK (o:=aJ) r e).trans pd;rw[VR s1 a]at b;refine(eV (i:=mo) rfl b (by omega) (by omega) (by omega) (by omega)).trans ?_;simp[ig]
 |shared n p tg sh mo =>
  have q:=ok.p4 _ _ _ _ _ rfl;simp only[MQ.n,MQ.sh,MQ.mo]at a c s1 h f;have l:=s5 s1 c;refine aU rfl (bp ((cM (g1:=g) rfl).trans rfl) (bp ((cM (g1:=g) rfl).trans rfl) (cU ?_))) rfl;have r:=eV (f1:=dV) (f2:=ak au a5 dV) (σ:=[some (MQ.shared n p tg sh mo).d]) (g:=g) (i:=2) (j:=p) rfl rfl (by omega) (by omega) (by omega) (by omega);have u:=eV (f1:=fc) (f2:=ak au a5 fo) (σ:=[some (MQ.shared n p tg sh mo).d]) (g:=g) (i:=3) (j:=sh) rfl rfl (by omega) (by omega) (by omega) (by omega)
  have e:=eV (f2:=ak (bt bV (· - ·)) (ak au a5 bh) bh) (j:=(n:Int)-1) u rfl (by omega) (by omega) (by omega) (by omega)
  have b:=(bK (o:=aJ) r e).trans pd;rw[VR s1 a]at b;have k:=eV (f1:=ak au a5 j0) (i:=mo) rfl b (by omega) (by omega) (by omega) (by omega);refine(bK (d':=.int 1) (g2:=g) k rfl).trans ?_;simp[ig]
def iE (M:MQ)(j t:Nat):Prop:=match M with
 |.handed n _ _=>t % n=j/\n<=t|.signs n _ sh _=>t % (2*(sh*(n-1))+2*n)=2*(sh*(n-1))+n+j|.shared n p _ _ _=>t % (3*(n-1)+2*p)=2*(n-1)+p
instance:Decidable (iE M j t):=by unfold iE;cases M<;>infer_instance
def Hu {f1 f2:FE}{σ:Sg}{a b:Nat}(e:f1 σ g=some (.int a,g))(f:f2 σ g=some (.int b,g))(h:0<b):ak (bt cD (· % ·)) f1 f2 σ g=some (.int (a % b:Nat),g):=by have c:cD (a:Int) (b:Int)=true:=eQ (by omega);rw[bK e f];simp[c]
def Hv {f2:FE}{b:Nat}(c:C k g=some (.int i,g))(f:f2 k g=some (.int b,g)):ak oEq C f2 k g=some (.bl (decide (i=b)),g):=by
 rw[bK c f];by_cases e:i=b
 . subst e;simp[bF,flat,dep]
 . have:¬(i:Int)=(b:Int):=by omega
   simp[bF,flat,dep,this,e]
def T3 (mv:M.Mv):av false 5 4 VO [M.d,.int t,.int j,.int M.p] g=some (.bl (decide (iE M j t)),g):=by
 have ok:=mv.ok;have k:=mv.n2;have f:=ok.n5;have s1:=ok.s1;have r:=ok.p1;cases M with
 |handed n tu mo =>
  simp only[MQ.n,MQ.p]at k f r;refine aU rfl (bp ((cM (g1:=g) rfl).trans rfl) (fT (g1:=g) rfl ?_)) rfl;have e:=Hv (f2:=a7) (b:=j) (Hu (f1:=a6) (f2:=bg) (σ:=[some (MQ.handed n tu mo).d,some (.int t),some (.int j),some (.int n),none]) (g:=g) (a:=t) (b:=n) rfl rfl (by omega)) rfl;show mN _ _ [some (MQ.handed n tu mo).d,some (.int t),some (.int j),some (.int n),none] g=_;rw[Gw,e];by_cases h:t % n=j
  . have:((n:Int)<=(t:Int))=(n<=t):=propext (by omega)
    simp[d6,h,iE,this]
  . simp[d6,h,iE]
 |signs n tg sh mo =>
  simp only[MQ.n,MQ.sh,MQ.p]at k f s1 r;have z:=s5 s1 f
  have B:=eV (f1:=dV) (f2:=ak (bt bV (· - ·)) (ak au a5 bh) bh) (σ:=[some (MQ.signs n tg sh mo).d,some (.int t),some (.int j),some (.int n),none]) (g:=g) (i:=2) (j:=(n:Int)-1) rfl rfl (by omega) (by omega) (by omega) (by omega)
  have c:=eV (f2:=ak au a5 fc) (j:=sh) B rfl (by omega) (by omega) (by omega) (by omega);have u:(2*((n:Int)-1))*(sh:Int)=((2*(sh*(n-1)):Nat):Int):=by
    have:sh=0\/sh=1:=by omega
    rcases this with rfl|rfl<;>omega
  rw[u]at c;refine aU rfl (bp ((cM (g1:=g) rfl).trans rfl) (bp ((cM (g1:=g) rfl).trans rfl) (bD c (cU ?_)))) rfl;generalize o:2*(sh*(n-1))=A at *;have l:ak bj dV bg [some (MQ.signs n tg sh mo).d,some (.int t),some (.int j),some (.int n),some (.int A)] g=some (.int (2*(n:Int)),g):=eV rfl rfl (by omega) (by omega) (by omega) (by omega);have q:ak aJ d4 (ak bj dV bg) [some (MQ.signs n tg sh mo).d,some (.int t),some (.int j),some (.int n),some (.int A)] g=some (.int (A+2*n:Nat),g):=by rw[bK (d:=.int A) (g1:=g) rfl l];simp
  have s:ak aJ (ak aJ d4 bg) a7 [some (MQ.signs n tg sh mo).d,some (.int t),some (.int j),some (.int n),some (.int A)] g=some (.int (A+n+j:Nat),g):=rfl;have e:=Hv (Hu (f1:=a6) (a:=t) rfl q (by omega)) s;refine e.trans ?_;simp only[iE,o]
 |shared n p tg sh mo =>
  obtain⟨_,rfl⟩:=mv.sd _ _ _ _ _ rfl;have p4:=ok.p4 _ _ _ _ _ rfl;simp only[MQ.n,MQ.sh,MQ.p]at k f s1 r
  have B:=eV (f1:=dV) (f2:=ak (bt bV (· - ·)) (ak au a5 bh) bh) (σ:=[some (MQ.shared n p tg 1 mo).d,some (.int t),some (.int j),some (.int p),none]) (g:=g) (i:=2) (j:=(n:Int)-1) rfl rfl (by omega) (by omega) (by omega) (by omega)
  have c:=eV (f2:=ak au a5 fo) (j:=(1:Int)) B rfl (by omega) (by omega) (by omega) (by omega);have u:(2*((n:Int)-1))*(1:Int)=((2*(n-1):Nat):Int):=by omega
  rw[u]at c;refine aU rfl (l6 ((kG (g1:=g) rfl).trans (bD c (cU (d:=.bl (decide (iE (.shared n p tg 1 mo) j t))) (g1:=g) ?_)))) rfl;generalize o:2*(n-1)=A at *;have y:ak bj d4 fc [some (MQ.shared n p tg 1 mo).d,some (.int t),some (.int j),some (.int p),some (.int A)] g=some (.int ((A:Int)*3),g):=eV rfl rfl (by omega) (by omega) (by omega) (by omega);have v:dh ((A:Int)*3) 2=true:=gU (by decide) (by decide)
  have x:ak (bt dh (· / ·)) (ak bj d4 fc) dV [some (MQ.shared n p tg 1 mo).d,some (.int t),some (.int j),some (.int p),some (.int A)] g=some (.int (3*(n-1):Nat),g):=by
    rw[bK (d':=.int 2) (g2:=g) y rfl];have:((A:Int)*3) / 2=((3*(n-1):Nat):Int):=by omega
    simp[v,this]
  have l:ak bj dV bg [some (MQ.shared n p tg 1 mo).d,some (.int t),some (.int j),some (.int p),some (.int A)] g=some (.int (2*(p:Int)),g):=eV rfl rfl (by omega) (by omega) (by omega) (by omega)
  have q:ak aJ (ak (bt dh (· / ·)) (ak bj d4 fc) dV) (ak bj dV bg) [some (MQ.shared n p tg 1 mo).d,some (.int t),some (.int j),some (.int p),some (.int A)] g=some (.int (3*(n-1)+2*p:Nat),g):=by rw[bK x l];simp
  have s:ak aJ d4 bg [some (MQ.shared n p tg 1 mo).d,some (.int t),some (.int j),some (.int p),some (.int A)] g=some (.int (A+p:Nat),g):=rfl;have e:=Hv (Hu (f1:=a6) (a:=t) rfl q (by omega)) s;refine e.trans ?_;simp only[iE,o]
end
noncomputable def VT:FS:=aF (ak (bt bV (· - ·)) bh (ak au a7 (aI ax (af f6 (af d4 (af bg aj)))))) (gN 7)
noncomputable def ptN:FS:=aF (aI ax (af ee (af (ak aJ (ak au (ak au a7 (aI ax (af fb (af bg aj)))) bh) bh) (af ef aj)))) (fF a7 (aI ax (af fb (af bg aj))))
noncomputable def VU:FS:=az (aF (ak au (ak au a7 (aI ax (af fb (af bg aj)))) bh) (gN 8)) (az (aF (ak aJ (ak aJ (dj eu eO (bq d4)) (aI ax (af eW aj))) (dj eu (bq (ak aJ d4 bh)) eO)) (gN 8)) (aF (aI ax (af ee (af eu (af (ak (bt bV (· - ·)) bh (ak au (ak au a7 (aI ax (af fb (af bg aj)))) dV)) (af ef aj))))) (fF a7 (aI ax (af fb (af bg aj))))))
noncomputable def ptB:FS:=aF (aI ax (af ee (af bg (af (ak (bt bV (· - ·)) bh (ak au (ak au a7 (aI ax (af ft (af ew aj)))) dV)) aj)))) (fF a7 (aI ax (af ft (af ew aj))))
noncomputable def QI:FS:=aF (aI ax (af eW (af ef aj))) (gT 2 (bZ (fF a7 (aI ax (af i3 (af bg (af d4 aj))))) (bZ (fF a7 (aI ax (af ir (af bg aj)))) gu)))
noncomputable def VV (take places value state:Fn):FS:=az (mR 5 6 (af (aq value (af a5 aj)) (af (aq state (af a5 (af (aq places (af a6 aj)) aj))) aj))) (az VT (bU (aD (ak oEq (ak au a6 b0) gD)) ptN (bU (aD (ak oEq (ak au a6 b0) jc)) VU (az (aF (aq take (af a5 (af (ak au a6 dV) aj))) (gN 9)) (az ptB QI)))))
structure qj (M:MQ)(j o:Nat)(bx a_:List D):Prop where
 X:bW M a_
 same:∀k,pS M k->k≠own "own" j->k≠own "view" j->k≠two "call" j o->(∀i,k≠own "box" i)->aM a_ k=aM bx k
 mv:match M with
  |.handed ..=>∃v x ws v' VX,aM bx (own "own" j)=some (.tup [v,.int x,.tup ws])/\aM a_ (own "own" j)=some (.tup [v',.int (x+1),.tup VX])|.signs ..=>∃(v:D) (bs:List Int) (t:Int) (vw:List D) (v':D) (Fi:List Int) (QJ:List D) (z:Int),aM bx (own "own" j)=some (.tup [v,.tup (bs.map .int),.int t,.tup vw])/\aM a_ (own "own" j)=some (.tup [v',.tup (Fi.map .int),.int (1-t),.tup QJ])/\aM bx (two "sign" o j)=some (.int z)/\Fi.getD o 0=1-z|.shared _ p _ _ _=>∃(k:Nat) (v:D) (a t:Int) (v':D) (z:Int),k<p/\aM bx (own "box" k)=some (.tup [v,.int a,.int t])/\aM a_ (own "box" k)=some (.tup [v',.int j,.int (1-t)])/\(∀i,i≠k->i<p->aM a_ (own "box" i)=aM bx (own "box" i))/\aM bx (two "sign" o j)=some (.int z)/\aM a_ (two "call" j o)=some (.int (1-z))
noncomputable def pσ (h:Nat)(M:MQ)(b j o:Nat)(c i n p q:Option D):Sg:=[some (.ref h),some M.d,some (.bu b),some (.int j),some (.int o),c,i,n,p,q]
def iF {M:MQ}(X:bW M A)(f:pS M J)(a:pS M U)(e:J≠U):aM (aX A J c) U=aM A U:=gB f.aO a.aO e X.ka
def pH {M:MQ}(X:bW M A)(a:pS M U):aM (aX A U c) U=some c:=fA a.aO X.ka
def oS {M:MQ}{k:D}{f:FE}{σ:Sg}(e:f σ r=some (k,r))(l:σ[2]? = some (some (.bu i)))(a:r[i]? = some A)(q:pS M k)(b:aM A k=some c):ak au a7 f σ r=some (c,r):=by rw[bK (d:=.bu i) (g1:=r) (by simp[l]) e];simp[a,q.aO,b]
def yn {M:MQ}{k:D}{f:FE}{σ:Sg}(b:C σ r=some (c,r))(e:f σ r=some (k,r))(q:σ[2]? = some (some (.bu i)))(l:r[i]? = some A)(h:pS M k)(X:bW M A):aF C (fF a7 f) σ r=some (.nx,σ,r.set i (aX A k c)):=by
 have a:kZ A=true:=by unfold kZ;exact aR (by have:=X.le;omega)
 rw[pb,b];simp[q,e,l,h.aO,a]
structure AI (M:MQ)(h b j o:Nat)(g0:G)(B:Int)(bx:List D)(g:G):Prop where
 ex:∃a_,g[b]? = some a_/\qj M j o bx a_
 hd:Hd g h B
 bd:Bd g
 len:g.length=g0.length
 fr:∀i,i≠h->i≠b->g[i]? = g0[i]?
def AI.of {n:MQ}(f:p9 h r O)(u:Hd O h M)(v:Bd O)(lt:i<O.length)(s:i≠h)(P:qj n j o l A):AI n h i j o r M l (O.set i A):=by refine⟨⟨A,vT lt,P⟩,?_,v.set (nk (ro _) P.X.nr),by simp[f.1],λq c e=>by rw[IZ (qP e),f.2 q c]⟩;obtain⟨a,b,k,c,e⟩:=u;exact⟨a,b,k,by rw[IZ s];exact c,e⟩
def T4 {M:MQ}{b:Nat}{B:Int}{take:Fn}{places:Fn}{value:Fn}{state:Fn}(N:fg take)(K:l7 value)(J:mr state)(I:oR places)(ok:M.Ok)(g:j<M.n)(E:o<M.n)(S:j≠o)(X:bW M A)(H:r[b]? = some A)(C:b≠h)(L:Hd r h B)(O:Bd r)(Q:B+100<2 ^ 40):
  l2 (av false 10 5 (VV take places value state) [.ref h,M.d,.bu b,.int j,.int o] r) λq=>q.1 = .ay/\AI M h b j o r (B+60) A q.2:=by
 have p5:=ok.p5;have n5:=ok.n5;obtain⟨v,g1,e1,vv,iD,f1⟩:=K h r B (by omega) L;obtain⟨R,g2,e2,wl,wv,hd2,f2⟩:=J h M.p g1 _ (by omega) (by omega) iD;have F:=f1.trans f2;have b2:=O.fr F hd2;have s:g2[b]? = some A:=(F.2 b C).trans H;have ag:=(m5.mp s).1;have z2:aC 2=true:=rfl;have z3:aC 3=true:=rfl;have z4:aC 4=true:=rfl;have ks:pS M (two "sign" o j):=.sign o j E g;obtain⟨cs,qO⟩:=X.has _ ks;obtain⟨z,rfl⟩:=(X.ck _ cs ks qO).1.sg _ _ rfl;have kw:pS M (own "own" j):=.own j g;obtain⟨co,u⟩:=X.has _ kw;have oc:=(X.ck _ co kw u).1.ow j rfl;have p1:mR 5 6 (af (aq value (af a5 aj)) (af (aq state (af a5 (af (aq places (af a6 aj)) aj))) aj)) (pσ h M b j o none none none none none) r=some (.nx,pσ h M b j o (some v) (some (.tup R)) none none none,g2):=by
  have c1:aq value (af a5 aj) (pσ h M b j o none none none none none) r=some (v,g1):=e1;have c0:aq places (af a6 aj) (pσ h M b j o none none none none none) g1=some (.int M.p,g1):=I M g1;have Y:a5 (pσ h M b j o none none none none none) g1=some (.ref h,g1):=rfl;have c2:aq state (af a5 (af (aq places (af a6 aj)) aj)) (pσ h M b j o none none none none none) g1=some (.tup R,g2):=by rw[qy,cw,Y,mI,cw,c0];exact e2
  exact(B0 c1 c2).trans rfl
 have p2:VT (pσ h M b j o (some v) (some (.tup R)) none none none) g2=some (.nx,pσ h M b j o (some v) (some (.tup R)) (some (.int (1-z))) none none,g2):=by have e:=oS (M:=M) (k:=two "sign" o j) (f:=aI ax (af f6 (af d4 (af bg aj)))) (σ:=pσ h M b j o (some v) (some (.tup R)) none none none) rfl rfl s ks qO;refine(eU (d:=.int (1-z)) (g1:=g2) ?_).trans rfl;rw[bK (d:=.int 1) (g1:=g2) rfl e];rfl
 refine Ph rfl (pD (σ1:=pσ h M b j o (some v) (some (.tup R)) none none none) (g1:=g2) p1 (pD p2 ?_));have fin:∀{X':FS} {σ':Sg} {a_:List D},X' (pσ h M b j o (some v) (some (.tup R)) (some (.int (1-z))) none none) g2=some (.nx,σ',g2.set b a_)->qj M j o A a_->l2 (X' (pσ h M b j o (some v) (some (.tup R)) (some (.int (1-z))) none none) g2) λbx=>match bx.1 with
    |.rt d=>bx.2.2.length=r.length/\d = .ay/\AI M h b j o r (B+60) A bx.2.2|.nx=>bx.2.2.length=r.length/\D.ay = .ay/\AI M h b j o r (B+60) A bx.2.2|_=>False:=λe P=>⟨_,e,by simp[F.1],rfl,.of F (hd2.mono (by omega)) b2 ag C P⟩
 cases M with
 |handed n tu mo =>
  obtain⟨Y,x,ab,rfl,VY,aH,aw⟩:=oc;have e3:=oS (M:=.handed n tu mo) (k:=own "own" j) (f:=aI ax (af fb (af bg aj))) (σ:=pσ h (.handed n tu mo) b j o (some v) (some (.tup R)) (some (.int (1-z))) none none) rfl rfl s kw u;have e4:ak aJ (ak au (ak au a7 (aI ax (af fb (af bg aj)))) bh) bh (pσ h (.handed n tu mo) b j o (some v) (some (.tup R)) (some (.int (1-z))) none none) g2=some (.int (x+1),g2):=
    (bK (d':=.int 1) (g2:=g2) ((bK e3 rfl).trans (by simp[d7,bA,B6])) rfl).trans pd
  have e5:aI ax (af ee (af (ak aJ (ak au (ak au a7 (aI ax (af fb (af bg aj)))) bh) bh) (af ef aj))) (pσ h (.handed n tu mo) b j o (some v) (some (.tup R)) (some (.int (1-z))) none none) g2=some (.tup [v,.int (x+1),.tup R],g2):=by have v5:ee (pσ h (.handed n tu mo) b j o (some v) (some (.tup R)) (some (.int (1-z))) none none) g2=some (v,g2):=rfl;have v6:ef (pσ h (.handed n tu mo) b j o (some v) (some (.tup R)) (some (.int (1-z))) none none) g2=some (.tup R,g2):=rfl;simp only[jq,cw,v5,e4,v6,dq,mI];rfl
  have fw:=kJ wv;have ck:CK (.handed n tu mo) (own "own" j) (.tup [v,.int (x+1),.tup R]):=.own ⟨v,x+1,R,rfl,vv,wl,wv⟩;have fd:Fd (.tup [v,.int (x+1),.tup R]):=⟨by have:=fw.1;simp only[flat,bJ]at this ⊢;rw[vv.1,this];rfl,by have:=vv.2;have:=fw.2;simp only[dep,dM]at this ⊢;omega⟩
  have e6:=yn (M:=.handed n tu mo) (k:=own "own" j) (f:=aI ax (af fb (af bg aj))) (σ:=pσ h (.handed n tu mo) b j o (some v) (some (.tup R)) (some (.int (1-z))) none none) e5 rfl rfl s kw X;exact fin ((kG (g1:=g2) rfl).trans e6) ⟨X.put kw ck fd,λk hk h1 _ _ _=>iF X kw hk (qP h1),Y,x,ab,v,R,u,pH X kw⟩
 |signs n tg sh mo =>
  have sc:SC n co:=oc;have j5:j<n:=g;have o5:o<n:=E;have aV:n<=5:=n5;cases sc with
  |mk Y bs t vw VY hb hw ha =>
    have e3:=oS (M:=.signs n tg sh mo) (k:=own "own" j) (f:=aI ax (af fb (af bg aj))) (σ:=pσ h (.signs n tg sh mo) b j o (some v) (some (.tup R)) (some (.int (1-z))) none none) rfl rfl s kw u;have a1:=eU (i:=8) ((bK (o:=au) (f':=bh) (d':=.int 1) (g2:=g2) e3 rfl).trans (show au (.tup [Y,.tup (bs.map .int),.int t,.tup vw]) (.int 1) g2=some (.tup (bs.map .int),g2) by simp[d7,bA,B1]));have bl:(bs.map D.int).length=n:=by simp[hb]
    have eb:(bs.set o (1-z)).map D.int=(bs.map D.int).take o ++ [D.int (1-z)]++(bs.map D.int).drop (o+1):=by rw[List.map_set,List.set_eq_take_append_cons_drop,if_pos (by omega)];simp
    have c1:qt (bs.map D.int) none (some (o:Int))=(bs.map D.int).take o:=by unfold qt;rw[wY (by omega)];show((bs.map D.int).drop 0).take (o-0)=_;rw[aei,Nat.sub_zero]
    have c2:qt (bs.map D.int) (some ((o+1:Nat):Int)) none=(bs.map D.int).drop (o+1):=by unfold qt;rw[j6,iU (by omega),Dc (by rw[adf];omega)]
    generalize ae:bs.map D.int=Z at *;have s1:dj eu eO (bq d4) (pσ h (.signs n tg sh mo) b j o (some v) (some (.tup R)) (some (.int (1-z))) (some (.tup Z)) none) g2=some (.tup (Z.take o),g2):=by rw[zz];exact congrArg (λl=>some (D.tup l,g2)) c1
    have s2:dj eu (bq (ak aJ d4 bh)) eO (pσ h (.signs n tg sh mo) b j o (some v) (some (.tup R)) (some (.int (1-z))) (some (.tup Z)) none) g2=some (.tup (Z.drop (o+1)),g2):=by rw[zz];exact congrArg (λl=>some (D.tup l,g2)) c2
    have s3:ak aJ (ak aJ (dj eu eO (bq d4)) (aI ax (af eW aj))) (dj eu (bq (ak aJ d4 bh)) eO) (pσ h (.signs n tg sh mo) b j o (some v) (some (.tup R)) (some (.int (1-z))) (some (.tup Z)) none) g2=some (.tup ((bs.set o (1-z)).map .int),g2):=by
      have q1:ak aJ (dj eu eO (bq d4)) (aI ax (af eW aj)) (pσ h (.signs n tg sh mo) b j o (some v) (some (.tup R)) (some (.int (1-z))) (some (.tup Z)) none) g2=some (.tup (Z.take o ++ [.int (1-z)]),g2):=by rw[bK (d':=.tup [.int (1-z)]) (g2:=g2) s1 rfl,ky];exact if_pos (aR (by rw[yN];simp;omega))
      rw[bK q1 s2,ky,eb];exact if_pos (aR (by rw[nN,yN,adf];simp;omega))
    have a2:=eU (i:=8) s3
    have e7:aI ax (af ee (af eu (af (ak (bt bV (· - ·)) bh (ak au (ak au a7 (aI ax (af fb (af bg aj)))) dV)) (af ef aj)))) (pσ h (.signs n tg sh mo) b j o (some v) (some (.tup R)) (some (.int (1-z))) (some (.tup ((bs.set o (1-z)).map .int))) none) g2=some (.tup [v,.tup ((bs.set o (1-z)).map .int),.int (1-t),.tup R],g2):=by
      have QH:=oS (M:=.signs n tg sh mo) (k:=own "own" j) (f:=aI ax (af fb (af bg aj))) (σ:=pσ h (.signs n tg sh mo) b j o (some v) (some (.tup R)) (some (.int (1-z))) (some (.tup ((bs.set o (1-z)).map .int))) none) rfl rfl s kw u
      have e4:ak (bt bV (· - ·)) bh (ak au (ak au a7 (aI ax (af fb (af bg aj)))) dV) (pσ h (.signs n tg sh mo) b j o (some v) (some (.tup R)) (some (.int (1-z))) (some (.tup ((bs.set o (1-z)).map .int))) none) g2=some (.int (1-t),g2):=by rw[bK (d:=.int 1) (g1:=g2) rfl ((bK QH rfl).trans (show au (.tup [Y,.tup Z,.int t,.tup vw]) (.int 2) g2=some (.int t,g2) by simp[d7,bA,Jn]))];rfl
      have v5:ee (pσ h (.signs n tg sh mo) b j o (some v) (some (.tup R)) (some (.int (1-z))) (some (.tup ((bs.set o (1-z)).map .int))) none) g2=some (v,g2):=rfl;have v6:ef (pσ h (.signs n tg sh mo) b j o (some v) (some (.tup R)) (some (.int (1-z))) (some (.tup ((bs.set o (1-z)).map .int))) none) g2=some (.tup R,g2):=rfl;have v8:eu (pσ h (.signs n tg sh mo) b j o (some v) (some (.tup R)) (some (.int (1-z))) (some (.tup ((bs.set o (1-z)).map .int))) none) g2=some (.tup ((bs.set o (1-z)).map .int),g2):=rfl;simp only[jq,cw,v5,v8,e4,v6,dq,mI];rfl
    have QK:SC n (.tup [v,.tup ((bs.set o (1-z)).map .int),.int (1-t),.tup R]):=.mk v (bs.set o (1-z)) (1-t) R vv (by simp[hb]) wl wv;have e8:=yn (M:=.signs n tg sh mo) (k:=own "own" j) (f:=aI ax (af fb (af bg aj))) (σ:=pσ h (.signs n tg sh mo) b j o (some v) (some (.tup R)) (some (.int (1-z))) (some (.tup ((bs.set o (1-z)).map .int))) none) e7 rfl rfl s kw X;have eS:VU (pσ h (.signs n tg sh mo) b j o (some v) (some (.tup R)) (some (.int (1-z))) none none) g2=_:=bp a1 (bp a2 e8);refine fin ((cM (g1:=g2) rfl).trans ((kG (g1:=g2) rfl).trans eS)) ⟨X.put kw (.own QK) ⟨QK.flat,QK.dep⟩,λk hk h1 _ _ _=>iF X kw hk (qP h1),Y,bs,t,vw,v,bs.set o (1-z),R,z,?_,pH X kw,qO,?_⟩
    . rw[ae];exact u
    . rw[qa,vT (by omega)];rfl
 |shared n p tg sh mo =>
  have qc:j<n:=g;have aS:o<n:=E;obtain⟨y,U,e3,y0,y1,jL,f3⟩:=N h p g2 _ (by omega) (by have:=ok.p1;simp only[MQ.p]at this;omega) (by simp only[MQ.p]at p5;omega) hd2;obtain⟨k,rfl⟩:∃k:Nat,y=k:=⟨y.toNat,(UI y0).symm⟩
  have hk:k<p:=by omega
  have F3:=F.trans f3;have b3:=b2.fr f3 jL;have QL:U[b]? = some A:=(F3.2 b C).trans H;have VZ:=(m5.mp QL).1;have kb:pS (.shared n p tg sh mo) (own "box" k):=.box k hk;have kc:pS (.shared n p tg sh mo) (two "call" j o):=.call j o g E;have kv:pS (.shared n p tg sh mo) (own "view" j):=.view j g;obtain⟨cb,QM⟩:=X.has _ kb;obtain⟨Y,a,t,rfl,VY⟩:=(X.ck _ cb kb QM).1.bo k rfl;have bc:BC (.tup [v,.int j,.int (1-t)]):=⟨v,j,1-t,rfl,vv⟩
  have X1:=X.put kb (CK.box bc) (Jr bc);have X2:=X1.put (k:=two "call" j o) (c:=.int (1-z)) kc CK.call .int;have fw:=kJ wv;have X3:=X2.put (k:=own "view" j) (c:=.tup R) kv (CK.view wl wv) ⟨fw.1,pe fw.2 (by decide)⟩;have a1:aF (aq take (af a5 (af (ak au a6 dV) aj))) (gN 9) (pσ h (.shared n p tg sh mo) b j o (some v) (some (.tup R)) (some (.int (1-z))) none none) g2=some (.nx,pσ h (.shared n p tg sh mo) b j o (some v) (some (.tup R)) (some (.int (1-z))) none (some (.int k)),U):=(eU (g1:=U) (d:=.int k) e3).trans rfl;have q1:=oS (M:=.shared n p tg sh mo) (k:=own "box" k) (f:=aI ax (af ft (af ew aj))) (σ:=pσ h (.shared n p tg sh mo) b j o (some v) (some (.tup R)) (some (.int (1-z))) none (some (.int k))) rfl rfl QL kb QM
  have q2:ak (bt bV (· - ·)) bh (ak au (ak au a7 (aI ax (af ft (af ew aj)))) dV) (pσ h (.shared n p tg sh mo) b j o (some v) (some (.tup R)) (some (.int (1-z))) none (some (.int k))) U=some (.int (1-t),U):=by rw[bK (d:=.int 1) (g1:=U) rfl ((bK q1 rfl).trans (show au (.tup [Y,.int a,.int t]) (.int 2) U=some (.int t,U) by simp[d7,bA,TR]))];rfl
  have q3:aI ax (af ee (af bg (af (ak (bt bV (· - ·)) bh (ak au (ak au a7 (aI ax (af ft (af ew aj)))) dV)) aj))) (pσ h (.shared n p tg sh mo) b j o (some v) (some (.tup R)) (some (.int (1-z))) none (some (.int k))) U=some (.tup [v,.int j,.int (1-t)],U):=by have v5:ee (pσ h (.shared n p tg sh mo) b j o (some v) (some (.tup R)) (some (.int (1-z))) none (some (.int k))) U=some (v,U):=rfl;have v3:bg (pσ h (.shared n p tg sh mo) b j o (some v) (some (.tup R)) (some (.int (1-z))) none (some (.int k))) U=some (.int j,U):=rfl;simp only[jq,cw,v5,v3,q2,dq,mI];rfl
  have a2:=yn (M:=.shared n p tg sh mo) (k:=own "box" k) (f:=aI ax (af ft (af ew aj))) (σ:=pσ h (.shared n p tg sh mo) b j o (some v) (some (.tup R)) (some (.int (1-z))) none (some (.int k))) q3 rfl rfl QL kb X;have z1:kZ (aX A (own "box" k) (.tup [v,.int j,.int (1-t)]))=true:=by unfold kZ;exact aR (by have:=X1.le;omega)
  have ah:kZ (aX (aX A (own "box" k) (.tup [v,.int j,.int (1-t)])) (two "call" j o) (.int (1-z)))=true:=by unfold kZ;exact aR (by have:=X2.le;omega)
  have o1:aO 6 (two "call" j o)=true:=rfl;have o2:aO 6 (own "view" j)=true:=rfl;have a3:QI (pσ h (.shared n p tg sh mo) b j o (some v) (some (.tup R)) (some (.int (1-z))) none (some (.int k))) (U.set b (aX A (own "box" k) (.tup [v,.int j,.int (1-t)])))=some (.nx,pσ h (.shared n p tg sh mo) b j o (some v) (some (.tup R)) (some (.int (1-z))) none (some (.int k)),U.set b (aX (aX (aX A (own "box" k) (.tup [v,.int j,.int (1-t)])) (two "call" j o) (.int (1-z))) (own "view" j) (.tup R))):=by have ai:aC 2=true:=rfl;unfold two own at *;simp[QI,pσ,ai,z3,VZ,o1,o2,z1,ah,kB,Pc]
  have ne1:∀i,two "call" j o≠own "box" i:=λi e=>cq e.symm;have ne2:∀i,own "view" j≠own "box" i:=λi e=>absurd (gk e).1 (by decide);refine⟨_,(cM (g1:=g2) rfl).trans ((cM (g1:=g2) rfl).trans (bp a1 (bp a2 a3))),by simp[F3.1],rfl,.of F3 (jL.mono (by omega)) b3 VZ C ⟨X3,λk' hX h1 h2 h3 h4=>?_,k,Y,a,t,v,z,hk,QM,?_,λi hi ar=>?_,qO,?_⟩⟩
  . rw[iF X2 kv hX (qP h2),iF X1 kc hX (qP h3),iF X kb hX (qP (h4 k))]
  . rw[iF X2 kv kb (ne2 k),iF X1 kc kb (ne1 k)];exact pH X kb
  . have ki:pS (.shared n p tg sh mo) (own "box" i):=.box i ar
    rw[iF X2 kv ki (ne2 i),iF X1 kc ki (ne1 i),iF X kb ki (λe=>hi (gk e).2.symm)]
  . rw[iF X2 kv kc (λe=>cq e)];exact pH X1 kc
end
section
variable {Z:List D->List D->List (D×D)}{Q X e:Nat}{Y:MQ}{U:List (List D×List D)->Prop}{T:List D->List D->Prop}{R:List (List D×List D)}{C:List D}{O:D}
noncomputable def aW (a:List D)(b:Str)(j:Nat):D:=(aM a (own b j)).getD .ay
noncomputable def gm (a:List D)(o j:Nat):Int:=uW ((aM a (two "call" j o)).getD .ay)
theorem tU {a b:Type}(f:a->b):∀S:List a,S.zip (S.map f)=S.map λj=>(j,f j)
 | []=>rfl|x::S=>by rw[wk,ahg,tU f S];rfl
theorem i5 {a b c:Type}(f:a->b)(g:b->List c):∀S:List a,(S.map f).flatMap g=S.flatMap λx=>g (f x)
 | []=>rfl|x::S=>by rw[wk,C7,C7,i5 f g S]
theorem kK {a b c:Type}(f:b->c)(g:a->List b):∀S:List a,(S.flatMap g).map f=S.flatMap λx=>(g x).map f
 | []=>rfl|x::S=>by rw[C7,C7,wi,kK f g S]
def Jw (b:i<=5)(e:o<i)(a:j<i)(c:j≠o):(dC i o).filter (λw=>decide (w=j))= [j]:=
 (show ∀i,i<=5->∀o,o<i->∀j,j<i->j≠o->(dC i o).filter (λw=>decide (w=j))= [j] by decide) i b o e j a c
noncomputable def fq (a:List D)(n:Nat):List D:=(nJ n).map (aW a "own")
noncomputable def sG (a:List D)(n o sh:Nat):List D:=(aB n o sh).map (aW a "own")
noncomputable def iR (A B:List D)(n o sh:Nat):List (D×D):=((aB n o sh).flatMap λw=>[(D.tup [.str "read",own "own" w],aW A "own" w),(.tup [.str "write",ba o w,.int (cB (aW A "own" w) o)],.ay)])++((nJ n).map λw=>(D.tup [.str "read",own "own" w],aW A "own" w))++(nJ n).map λw=>(D.tup [.str "read",own "own" w],aW B "own" w)
noncomputable def rS (A B:List D)(n o sh:Nat):R3:=(sG A n o sh,fq A n,fq B n)
def QN {B:List D}:(iR A B i o j).map (·.1)=sC i o j (sG A i o j):=by unfold iR sC sG;rw[tU,i5,wi,wi,kK,u6,u6];rfl
def Fj:(iR A l i o j).map (·.2)=cN (rS A l i o j):=by unfold iR cN rS cX sG fq eB;rw[i5,wi,wi,kK,u6,u6];rfl
def mw (h:i<o):(fq A o).getD i .ay=aW A "own" i:=by simp[fq,qa,h]
def my (X:bW Y A)(h:i<Y.n):Cb Y (aW A "own" i):=by obtain⟨c,a⟩:=X.has _ (.own i h);have:=(X.ck _ c (.own i h) a).1.ow i rfl;unfold aW;rw[a];exact this
def QO (X:bW Y A)(h:i<Y.p):BC (aW A "box" i):=by obtain⟨c,a⟩:=X.has _ (.box i h);have:=(X.ck _ c (.box i h) a).1.bo i rfl;unfold aW;rw[a];exact this
def Ce (b:bW (.signs i j h Q) A)(e:bW (.signs i j h Q) l):VS i o h (rS A l i o h):=by
 have al:∀{X:List D},bW (.signs i j h Q) X->∀c∈fq X i,SC i c:=λn c a=>by obtain⟨w,hw,rfl⟩:=mO.mp a;exact my n (ug.mp hw)
 refine⟨by simp[rS,sG],by simp[rS,fq],by simp[rS,fq],λc a=>?_,al b,al e⟩;obtain⟨w,hw,rfl⟩:=mO.mp a;exact my b (de.mp hw).2.1
structure Fl (n o j tg sh:Nat)(A B:List D):Prop where
 sm:∀w,w<n->w≠j->aW B "own" w=aW A "own" w
 tg:cT (aW B "own" j)=1-cT (aW A "own" j)
 cl:sh=1->cB (aW B "own" j) o=1-cB (aW A "own" j) o
def yp (P:Fl i o j h Q A l)(n:h=1\/Q=1)(f:i<=5)(sh:o<i)(c:j<i)(k:j≠o):jM i o h Q (rS A l i o Q)= [j]:=by
 refine Eq.trans (afH λw hw=>?_) (Jw f sh c k);have a:=gC.mp hw;have p:(fq A i).getD w .ay=aW A "own" w:=mw a.1;have q:(fq l i).getD w .ay=aW l "own" w:=mw a.1;have b:Q=1->sgn i o Q (sG A i o Q) w=cB (aW A "own" w) o:=λtg=>by have hm:w∈aB i o Q:=de.mpr ⟨tg,a⟩;have lt:=List.idxOf_lt_length_iff.mpr hm;unfold sgn;congr 1;rw[qa,sG,nP,mA lt,List.getElem_idxOf];rfl
 simp only[rS,sx,mh,p,q];by_cases e:w=j
 . subst e
   rw[decide_eq_true rfl];rcases n with tg|tg
   . have:cT (aW A "own" w)≠cT (aW l "own" w):=by rw[P.tg];omega
     simp[tg,this]
   . have:cB (aW l "own" w) o≠sgn i o Q (sG A i o Q) w:=by rw[P.cl tg,b tg];omega
     simp[tg]at this ⊢;simp[this]
 . rw[P.sm w a.1 e,decide_eq_false e]
   by_cases tg:Q=1
   . simp[tg]at b ⊢
     simp[b]
   . simp[tg]
def Fm (sm:∀w,w<i->w≠j->aW l "own" w=aW A "own" w)(b:num (aW l "own" j)=num (aW A "own" j)+1)(f:i<=5)(c:j<i):bH (fq A i) (fq l i)= [j]:=by
 unfold bH;have n:(fq A i).length=i:=by simp[fq]
 rw[n];refine Eq.trans (afH λw hw=>?_) ((show ∀i,i<=5->∀j,j<i->(nJ i).filter (λw=>decide (w=j))= [j] by decide) i f j c);have a:=ug.mp hw;unfold EK;rw[mw a,mw a];by_cases e:w=j
 . subst e
   rw[b];simp;omega
 . rw[sm w a e];simp[e]
noncomputable def sH (a:List D)(p:Nat):List D:=(nJ p).map (aW a "box")
noncomputable def oT (a:List D)(n o sh:Nat):List Int:=(aB n o sh).map (gm a o)
noncomputable def iG (A B:List D)(n p o sh:Nat):List (D×D):=((aB n o sh).flatMap λ(w:Nat)=>[(D.tup [.str "read",.tup [.str "call",.int w,.int o]],D.int (gm A o w)),(.tup [.str "write",ba o w,.int (gm A o w)],.ay)])++(((nJ p).map λw=>(D.tup [.str "read",own "box" w],aW A "box" w))++((nJ p).map λw=>(D.tup [.str "read",own "box" w],aW B "box" w))++(aB n o sh).map λ(w:Nat)=>(D.tup [.str "read",.tup [.str "call",.int w,.int o]],D.int (gm B o w)))
noncomputable def rH (A B:List D)(n p o sh:Nat):R4:=(oT A n o sh,sH A p,sH B p,oT B n o sh)
def QP {B:List D}:(iG A B i j o h).map (·.1)=Rr i j o h (oT A i o h):=by unfold iG Rr oT Hs qg fD vW;rw[tU,i5,wi,wi,wi,kK,wi,wi];simp only[u6];rfl
def yq:(iG A l i j o h).map (·.2)=fj (rH A l i j o h):=by unfold iG fj rH cH oT sH eB bI;rw[i5,i5,wi,wi,wi,kK];simp only[u6,ta];rfl
def vQ (e:bW (.shared i j h Q X) A)(b:bW (.shared i j h Q X) l):VH i j o Q (rH A l i j o Q):=by
 have al:∀{p:List D},bW (.shared i j h Q X) p->∀c∈sH p j,BC c:=λn c a=>by obtain⟨w,hw,rfl⟩:=mO.mp a;exact QO n (ug.mp hw)
 exact⟨by simp[rH,oT],by simp[rH,sH],by simp[rH,sH],by simp[rH,oT],al e,al b⟩
structure yr (n p o j:Nat)(A B:List D):Prop where
 ex:∃k,∀i,i<p->i≠k->aW B "box" i=aW A "box" i
 wh:∀i,i<p->aW B "box" i≠aW A "box" i->tS (aW B "box" i)=j
 sm:∀w,w<n->w≠j->gm B o w=gm A o w
 cl:gm B o j=1-gm A o j
theorem AK {f g:Nat->Int}:∀S:List Nat,mi S (S.map f) (S.map g)=S.filter λw=>decide (f w≠g w)
 | []=>rfl
 |x::S=>by
  have c:=AK (f:=f) (g:=g) S;unfold mi at c ⊢;simp only[wk,ahg,VC];by_cases h:f x=g x
  . simp[h]at c ⊢;exact c
  . simp[h]at c ⊢;exact c
def LP:sE i c c=false:=by simp[sE]
def u7 (P:yr i h o j A l)(tg:i<=5)(s:o<i)(k:j<i)(r:j≠o):iQ i o Q 1 (rH A l i h o 1)= [j]:=by
 refine Eq.trans (afH λw hw=>?_) (Jw tg s k r);have f:=gC.mp hw;have u:((w:Int)∈lg i o Q 1 (oT A i o 1) (sH A h) (sH l h) (oT l i o 1))↔ w=j:=by
  unfold lg oT;rw[AK,m3];constructor
  . rintro(p|p)
    . obtain⟨x,c,e⟩:=mO.mp p
      obtain rfl:x=w:=by omega
      obtain⟨c,hd⟩:=xX.mp c;refine ac5 λz=>?_;rw[P.sm x (de.mp c).2.1 z]at hd;simp at hd
    . unfold kH at p
      obtain⟨q,a,e⟩:=mO.mp p;obtain⟨a,hd⟩:=xX.mp a;unfold sH at a;rw[List.zip_map']at a;obtain⟨n,b,rfl⟩:=mO.mp a;have b:=ug.mp b;have ne:aW l "box" n≠aW A "box" n:=λz=>by simp only[z,LP,aim]at hd;exact absurd hd (by decide)
      have:=P.wh n b ne;dsimp only at e;omega
  . intro e
    subst e;refine .inl (mO.mpr ⟨w,xX.mpr ⟨de.mpr ⟨rfl,f⟩,?_⟩,rfl⟩);rw[P.cl];simp;omega
 exact decide_eq_decide.mpr u
def Sm (M:MQ)(o:Nat)(A c:List D):Prop:=∀k,pS M k->(∀w,k≠ba o w)->aM c k=aM A k
def vR:∀w,own x i≠ba o w:=λ_ e=>cq (b:="sign") e
def Jx:∀w,two "call" i j≠ba o w:=λ_ e=>absurd (jA (b:="sign") e).1 (by decide)
section
variable {M:MQ}
theorem Sm.own (S:Sm M o A l){w:Nat}(h:w<M.n):aW l "own" w=aW A "own" w:=by unfold aW;rw[S _ (.own w h) vR]
end
section
variable {M:MQ}
theorem Sm.box (S:Sm M o A l){w:Nat}(h:w<M.p):aW l "box" w=aW A "box" w:=by unfold aW;rw[S _ (.box w h) vR]
end
theorem Sm.call {M:MQ}(S:Sm M o A l)(h:i<M.n)(a:o<M.n):gm l o i=gm A o i:=by unfold gm;rw[S _ (.call i o h a) Jx]
def kL (h:aM A (own x i)=some c):aW A x i=c:=by unfold aW;rw[h];rfl
def Hw:uW ((J.map D.int).getD o .ay)=J.getD o 0:=by rw[qa,qa,nP];cases J[o]?<;>rfl
def yt (P:qj Y j o A l)(h:i<Y.n)(e:i≠j):aW l "own" i=aW A "own" i:=by unfold aW;rw[P.same _ (.own i h) (λz=>e (gk z).2) (λz=>absurd (gk z).1 (by decide)) cq (λw z=>absurd (gk z).1 (by decide))]
def QQ (P:qj (.signs i h Q X) j o l C)(S:Sm (.signs i h Q X) o A l)(y:j<i)(x:Q=1->aM l (ba o j)=some (.int (cB (aW A "own" j) o))):Fl i o j h Q A C:=by
 obtain⟨v,bs,t,f,r,c,u,z,sh,k,q,s⟩:=P.mv;have a:aW A "own" j = .tup [v,.tup (bs.map .int),.int t,.tup f]:=(S.own (M:=.signs i h Q X) y).symm.trans (kL sh);have b:aW C "own" j = .tup [r,.tup (c.map .int),.int (1-t),.tup u]:=kL k;refine⟨λw hw e=>(yt P hw e).trans (S.own (M:=.signs i h Q X) hw),by rw[a,b];rfl,λtg=>?_⟩;have:=x tg;rw[show aM l (ba o j)=some (.int z) from q]at this;have n:z=cB (aW A "own" j) o:=by injection this with this;injection this
 rw[<- n,b];show uW ((c.map D.int).getD o .ay)=_;rw[Hw,s]
def QR (P:qj (.shared i h Q X e) j o l C)(S:Sm (.shared i h Q X e) o A l)(B:j<i)(y:o<i)(x:aM l (ba o j)=some (.int (gm A o j))):yr i h o j A C:=by
 obtain⟨k,v,a,t,u,z,r,s,f,p,tg,q⟩:=P.mv;have dC:∀n,n<h->n≠k->aW C "box" n=aW A "box" n:=λn b sh=>by rw[<- S.box (M:=.shared i h Q X e) b];unfold aW;rw[p n sh b]
 have c:z=gm A o j:=by rw[show aM l (ba o j)=some (.int z) from tg]at x;injection x with x;injection x
 refine⟨⟨k,dC⟩,λn b ne=>?_,λw hw sh=>?_,?_⟩
 . by_cases sh:n=k
   . subst sh
     rw[kL f];rfl
   . exact absurd (dC n b sh) ne
 . rw[<- S.call (M:=.shared i h Q X e) hw y]
   unfold gm;rw[P.same _ (.call w o hw y) (λz=>cq z.symm) (λz=>cq z.symm) (λz=>sh (jA z).2.1) (λn z=>cq z.symm)]
 . unfold gm at c ⊢
   rw[q,<- c];rfl
def QS (P:qj (.handed i Q h) j o l C)(S:Sm (.handed i Q h) o A l)(n:j<i):(∀w,w<i->w≠j->aW C "own" w=aW A "own" w)/\num (aW C "own" j)=num (aW A "own" j)+1:=by obtain⟨v,x,p,c,f,a,b⟩:=P.mv;refine⟨λw hw e=>(yt P hw e).trans (S.own (M:=.handed i Q h) hw),?_⟩;rw[<- S.own (M:=.handed i Q h) n,kL a,kL b];rfl
noncomputable def mE (a:Fn):FS:=bU (aD (ak di (aq a (af bg (af d4 (af (aI ax (af jd aj)) (af eW (af ew aj)))))) (aI ax (af fh (af (aa 12) aj))))) (aK jk) aP
noncomputable def V0:FS:=aF (lA (aD (ak oEq (ak au bg b0) fk)) (ak au eu (aI ax (af ir (af ef aj)))) (ak au (ak au eu (aI ax (af fb (af ef aj)))) (n9 kq bh))) (gN 12)
noncomputable def V1 (a:Fn):FE:=aq a (af bg (af d4 (af (aI ax (af jd aj)) (af eW (af ew aj)))))
noncomputable def V2 (a:Fn)(put:Fn):FS:=bU (lz (aq a (af bg (af fy (af ef (af ee aj)))))) (i7 (aq put (af a7 (af bg (af eu (af ef (af d4 aj))))))) aP
noncomputable def QT:FS:=bU (aD (ak oEq (ak au eL b0) fh)) (aK jk) aP
noncomputable def QU:FT:=aD (ak oEq (ak au eL b0) (fC (.str "write")))
noncomputable def V3:FS:=az (aF (ak au eL dV) (fF eu (ak au eL bh))) (aF (ak aJ ew (aI ax (af fe aj))) (gN 9))
noncomputable def V4:FS:=aF (ak aJ ew (aI ax (af (ak au eu (ak au eL bh)) aj))) (gN 9)
noncomputable def QV (b:Fn)(put:Fn)(a:Fn):FS:=az (V2 b put) (az (aF (V1 a) (gN 11)) (az QT (bU QU V3 V4)))
noncomputable def mJ (take:Fn):FS:=aF (ak (bt cD (· % ·)) (ak aJ (ak aJ d4 bh) (aq take (af a7 (af (ak (bt bV (· - ·)) (ak au bg bh) bh) aj)))) (ak au bg bh)) (gN 6)
noncomputable def QW (hand:Fn)(a:Fn)(take:Fn)(places:Fn)(c:Fn)(e:Fn)(f:Fn)(h:Fn)(put:Fn)(b:Fn):FS:=az (aF (aq hand (af a5 (af a6 aj))) (gN 2)) (az (aF (aq a (af a7 aj)) (gN 3)) (az (mR 4 5 (af (aq take (af a7 (af (ak au bg bh) aj))) (af (aq places (af bg aj)) aj))) (az (mJ take) (az (rG 7 8 9 (af (aq c (af a7 (af ee aj))) (af (aq e (af a7 (af bg aj))) (af (aI ax aj) aj)))) (az (fO (iz (af (aq f (af bg aj)) aj)) (gN 10) (QV h put b)) (az V0 (mE b)))))))
section
variable {M:MQ}{o j h b t:Nat}{ah S:D}{rd bx:List D}{g:G}{B:Int}{jj:Int}{cJ put next:Fn}{o10 o11 o12:Option D}
noncomputable def mσ (S:D)(jj:Int)(h:Nat)(M:MQ)(o j:Nat)(ah:D)(b:Nat)(rd:List D)(o10 o11 o12:Option D):Sg:=[some S,some (.int jj),some (.ref h),some M.d,some (.int o),some (.int M.p),some (.int j),some ah,some (.bu b),some (.tup rd),o10,o11,o12]
structure Wx (M:MQ)(h b:Nat)(B:Int)(g:G)(bx:List D):Prop where
 gb:g[b]? = some bx
 X:bW M bx
 hd:Hd g h B
 bd:Bd g
 ne:b≠h
def Jy (cJ:Fn):Prop:=∀(M:MQ) (g:G) (t j:Nat),M.Mv->cJ [M.d,.int t,.int j,.int M.p] g=some (.bl (decide (iE M j t)),g)
def Fo (put:Fn):Prop:=∀(M:MQ) (h b j o:Nat) (g:G) (B:Int) (bx:List D),M.Ok->j<M.n->o<M.n->j≠o->bW M bx->g[b]? = some bx->b≠h->Hd g h B->Bd g->B+100<2 ^ 40->l2 (put [.ref h,M.d,.bu b,.int j,.int o] g) λq=>q.1 = .ay/\AI M h b j o g (B+60) bx q.2
def Tn (M:MQ)(j o t:Nat)(bx a:List D):Prop:=(iE M j t->qj M j o bx a)/\(¬iE M j t->a=bx)
def T5 (v:Jy cJ)(l:Fo put)(mv:M.Mv)(q:j<M.n)(x:o<M.n)(u:j≠o)(W:Wx M h b B g bx)(s:B+100<2 ^ 40):l2 (V2 cJ put (mσ S jj h M o j ah b rd (some (.int t)) o11 o12) g) λr=>r.1 = .nx/\r.2.1=mσ S jj h M o j ah b rd (some (.int t)) o11 o12 /\ ∃a_,Wx M h b (B+60) r.2.2 a_/\Tn M j o t bx a_:=by
 have e:lz (aq cJ (af bg (af fy (af ef (af ee aj))))) (mσ S jj h M o j ah b rd (some (.int t)) o11 o12) g=some (decide (iE M j t),g):=by have c:aq cJ (af bg (af fy (af ef (af ee aj)))) (mσ S jj h M o j ah b rd (some (.int t)) o11 o12) g=some (.bl (decide (iE M j t)),g):=v M g t j mv;rw[zt,c];rfl
 by_cases p:iE M j t
 . rw[decide_eq_true p]at e
   obtain⟨⟨d,y⟩,k,f,P⟩:=l M h b j o g B bx mv.ok q x u W.X W.gb W.ne W.hd W.bd s;dsimp only at f P;subst f;obtain⟨a_,a,R⟩:=P.ex;have c:i7 (aq put (af a7 (af bg (af eu (af ef (af d4 aj)))))) (mσ S jj h M o j ah b rd (some (.int t)) o11 o12) g=some (.nx,mσ S jj h M o j ah b rd (some (.int t)) o11 o12,y):=by have i:aq put (af a7 (af bg (af eu (af ef (af d4 aj))))) (mσ S jj h M o j ah b rd (some (.int t)) o11 o12) g=some (.ay,y):=k;rw[Gx,i];rfl
   exact⟨_,(kG e).trans c,rfl,rfl,a_,⟨a,R.X,P.hd,P.bd,W.ne⟩,λ_=>R,λz=>absurd p z⟩
 . rw[decide_eq_false p]at e
   exact⟨_,(cM e).trans rfl,rfl,rfl,bx,⟨W.gb,W.X,W.hd.mono (by omega),W.bd,W.ne⟩,λz=>absurd z p,λ_=>rfl⟩
structure Vl (next:Fn)(M:MQ)(o j:Nat)(ah:D)(T:Nat)(I:Nat->List D->List D->Prop):Prop where
 len:∀t rd bx,I t rd bx->rd.length=t
 step:∀t rd bx a_,I t rd bx->t<T->bW M bx->bW M a_->Tn M j o t bx a_ ->
  (∃k c,pS M k/\i4 next M o ah rd (.tup [.str "read",k])/\aM a_ k=some c/\I (t+1) (rd ++ [c]) a_) \/ ∃(w:Nat) (v:Int),w<M.n/\i4 next M o ah rd (.tup [.str "write",ba o w,.int v])/\I (t+1) (rd ++ [.ay]) (aX a_ (ba o w) (.int v))
def T7 {I:Nat->List D->List D->Prop}(C:Vl next M o j ah Q I)(O:Jy cJ)(J:Fo put)(mv:M.Mv)(K:j<M.n)(E:o<M.n)(N:j≠o)(A:I t rd bx)(H:t<Q)(P:Q<=600)(W:Wx M h b B g bx)(L:B+100<2 ^ 40):
   l2 (QV cJ put next (mσ S jj h M o j ah b rd (some (.int t)) o11 o12) g) λr=>r.1 = .nx /\ ∃R a_ Z,r.2.1=mσ S jj h M o j ah b R (some (.int t)) Z o12/\I (t+1) R a_/\Wx M h b (B+60) r.2.2 a_:=by
 obtain⟨⟨f1,σ1,g1⟩,y,z,U,a_,p,tn⟩:=T5 (S:=S) (jj:=jj) (ah:=ah) (rd:=rd) (t:=t) (o11:=o11) (o12:=o12) O J mv K E N W L;dsimp only at z U p;subst z U;have rl:=C.len t rd bx A;have zl:aC (rd.length+1)=true:=aR (by omega);have says:∀{x:D},i4 next M o ah rd x->V1 next (mσ S jj h M o j ah b rd (some (.int t)) o11 o12) g1=some (x,g1):=λs=>s g1 p.bd
 rcases C.step t rd bx a_ A H W.X p.X tn with⟨k,c,hk,s,dg,wx⟩|⟨w,v,hw,s,wx⟩
 . have f:QU (mσ S jj h M o j ah b rd (some (.int t)) (some (.tup [.str "read",k])) o12) g1=some (false,g1):=rfl
   have u:aD (ak oEq (ak au eL b0) fh) (mσ S jj h M o j ah b rd (some (.int t)) (some (.tup [.str "read",k])) o12) g1=some (false,g1):=rfl;have a1:∀a b:D,cL [a,b] 1=some b:=λ_ _=>rfl;have e7:ak au eu (ak au eL bh) (mσ S jj h M o j ah b rd (some (.int t)) (some (.tup [.str "read",k])) o12) g1=some (c,g1):=by rw[bK (d:=.bu b) (d':=k) (g1:=g1) (g2:=g1) rfl rfl];simp[p.gb,hk.aO,dg]
   have e8:aI ax (af (ak au eu (ak au eL bh)) aj) (mσ S jj h M o j ah b rd (some (.int t)) (some (.tup [.str "read",k])) o12) g1=some (.tup [c],g1):=by simp only[jq,cw,e7,dq,mI];rfl
   have e9:ak aJ ew (aI ax (af (ak au eu (ak au eL bh)) aj)) (mσ S jj h M o j ah b rd (some (.int t)) (some (.tup [.str "read",k])) o12) g1=some (.tup (rd ++ [c]),g1):=by rw[bK (d:=.tup rd) (g1:=g1) rfl e8,ky];exact if_pos zl
   have l:=eU (i:=9) e9;have e:=(cM (f1:=V3) f).trans l;have q:=bp (f1:=QT) ((cM (f1:=aK jk) (f2:=aP) u).trans rfl) e;exact⟨_,bp y (bD (says s) q),rfl,rd ++ [c],a_,_,rfl,wx,p⟩
 . have f:QU (mσ S jj h M o j ah b rd (some (.int t)) (some (.tup [.str "write",ba o w,.int v])) o12) g1=some (true,g1):=rfl
   have u:aD (ak oEq (ak au eL b0) fh) (mσ S jj h M o j ah b rd (some (.int t)) (some (.tup [.str "write",ba o w,.int v])) o12) g1=some (false,g1):=rfl;have kk:pS M (ba o w):=.sign o w E hw;have hz:kZ a_=true:=by unfold kZ;exact aR (by have:=p.X.le;omega)
   have sk:aO 6 (ba o w)=true:=rfl;have Y:=p.X.put (k:=ba o w) (c:=.int v) kk CK.sign .int;have lt:=(m5.mp p.gb).1;have w1:aF (ak au eL dV) (fF eu (ak au eL bh)) (mσ S jj h M o j ah b rd (some (.int t)) (some (.tup [.str "write",ba o w,.int v])) o12) g1=some (.nx,mσ S jj h M o j ah b rd (some (.int t)) (some (.tup [.str "write",ba o w,.int v])) o12,g1.set b (aX a_ (ba o w) (.int v))):=by rw[pb,show ak au eL dV (mσ S jj h M o j ah b rd (some (.int t)) (some (.tup [.str "write",ba o w,.int v])) o12) g1=some (.int v,g1) from rfl];simp[mσ,p.gb,sk,hz,d7,bA,B6]
   have w2:aF (ak aJ ew (aI ax (af fe aj))) (gN 9) (mσ S jj h M o j ah b rd (some (.int t)) (some (.tup [.str "write",ba o w,.int v])) o12) (g1.set b (aX a_ (ba o w) (.int v)))=some (.nx,mσ S jj h M o j ah b (rd ++ [.ay]) (some (.int t)) (some (.tup [.str "write",ba o w,.int v])) o12,g1.set b (aX a_ (ba o w) (.int v))):=by refine(eU (d:=.tup (rd ++ [.ay])) (g1:=g1.set b (aX a_ (ba o w) (.int v))) ?_).trans rfl;rw[bK (d:=.tup rd) (d':=.tup [.ay]) (g1:=g1.set b (aX a_ (ba o w) (.int v))) (g2:=g1.set b (aX a_ (ba o w) (.int v))) rfl rfl,ky];exact if_pos zl
   have l:=bp w1 w2;have e:=(kG (f2:=V4) f).trans l;have q:=bp (f1:=QT) ((cM (f1:=aK jk) (f2:=aP) u).trans rfl) e;refine⟨_,bp y (bD (says s) q),rfl,rd ++ [.ay],_,_,rfl,wx,⟨vT lt,Y,?_,p.bd.set (nk (ro _) Y.nr),p.ne⟩⟩;obtain⟨a,b',c',h1,h2⟩:=p.hd;exact⟨a,b',c',by rw[IZ p.ne];exact h1,h2⟩
end
noncomputable def eN (nc:List D->List D->List (D×D))(rs:List (List D×List D)):List D:=(rs.map λr=>(nc r.1 r.2).map (·.2)).flatten
def Jz (M:MQ)(j:Nat)(A B:List D):Prop:=∀w,w<M.n->w≠j->aW B "own" w=aW A "own" w
def gp (M:MQ)(o:Nat)(B:List D)(x c:D):Prop:=(∃k,x = .tup [.str "read",k]/\pS M k/\(∀w,k≠ba o w)/\aM B k=some c) \/ ∃(w:Nat) (v:Int),x = .tup [.str "write",ba o w,.int v]/\c = .ay/\w<M.n
def kM (M:MQ)(rs:List (List D×List D)):Prop:=∀r∈rs,bW M r.1/\bW M r.2
def Fp (rs:List (List D×List D))(A:List D):Prop:=∀r,rs.getLast? = some r->r.2=A
def jB (nc:List D->List D->List (D×D))(o:Nat)(A B:List D)(i w:Nat)(v:Int):Prop:=(nc A B)[i]? = some (.tup [.str "write",ba o w,.int v],.ay)
structure sI (next:Fn)(M:MQ)(o j:Nat)(ah:D)(L pp Q f0 e:Nat)(nc:List D->List D->List (D×D))(G:List (List D×List D)->Prop)(PutS:List D->List D->Prop):Prop where
 pl:pp<L
 p0:e=1->0<pp
 q1:1<=Q
 len:∀A B,(nc A B).length=L
 pair:∀A B i x c,bW M A->bW M B->Jz M j A B->(nc A B)[i]? = some (x,c)->A=B\/pp<=i->gp M o B x c
 pre:∀A B,Jz M j A B->(nc A B).take pp=(nc A A).take pp
 wf:∀A B i i' w v v',jB nc o A B i w v->jB nc o A B i' w v'->v=v'
 opn:∀rs A B i x c,kM M rs->G rs->rs.length<Q->bW M A->bW M B->(nc A B)[i]? = some (x,c)->i4 next M o ah (eN nc rs++((nc A B).map (·.2)).take i) x
 g0:G []
 nxt:∀rs A B,kM M rs->G rs->Fp rs A->(rs.length<f0/\A=B)\/(f0<=rs.length/\PutS A B)->rs.length+1<Q->G (rs ++ [(A,B)])
 turn:∀q i,i<L->(iE M j (q*L+i)↔ i=pp/\f0<=q)
 Yj:∀A bx a_,bW M A->qj M j o bx a_->Sm M o A bx->(∀i w v,i<pp->jB nc o A A i w v->aM bx (ba o w)=some (.int v))->PutS A a_
 enS:∀rs A B,e=1->kM M rs->G rs->Fp rs A->bW M A->bW M B->(rs.length<f0/\A=B)\/(f0<=rs.length/\PutS A B)->rs.length+1=Q->i4 next M o ah (eN nc (rs ++ [(A,B)])) (.tup [.str "read",own "view" j])
section
variable (M:MQ)(o j L pp Q f0:Nat)(nc:List D->List D->List (D×D))(G:List (List D×List D)->Prop)(PutS:List D->List D->Prop)
structure V5 (rs:List (List D×List D))(A B:List D)(i:Nat)(dn:Bool)(bx:List D):Prop where
 all:kM M rs
 g:G rs
 lt:rs.length<Q
 lst:Fp rs A
 XA:bW M A
 XB:bW M B
 ag:Jz M j A B
 hi:i<L
 pt:dn=true->PutS A B/\f0<=rs.length
 np:dn=false->A=B
 sm:Sm M o B bx
 sg:∀i' w v,i' < i->jB nc o A B i' w v->aM bx (ba o w)=some (.int v)
structure Cf (rs:List (List D×List D))(A B bx:List D):Prop where
 all:kM M rs
 g:G rs
 lst:Fp rs A
 XA:bW M A
 XB:bW M B
 mv:(rs.length<f0/\A=B)\/(f0<=rs.length/\PutS A B)
 lt:rs.length+1=Q
 sm:Sm M o B bx
inductive lj:Nat->List D->List D->Prop
 |go (rs:List (List D×List D)) (A B:List D) (i:Nat) (dn:Bool) (bx:List D) (R:V5 M o j L Q f0 nc G PutS rs A B i dn bx) (ph:(dn=true/\pp<i)\/(dn=false/\(i<=pp\/rs.length<f0))):lj (rs.length*L+i) (eN nc rs++((nc A B).map (·.2)).take i) bx
 |en (rs:List (List D×List D)) (A B bx:List D) (E:Cf M o Q f0 G PutS rs A B bx):lj (Q*L) (eN nc (rs ++ [(A,B)])) bx
 |vw (rs:List (List D×List D)) (A B bx:List D) (c:D) (E:Cf M o Q f0 G PutS rs A B bx) (hc:aM bx (own "view" j)=some c):lj (Q*L+1) (eN nc (rs ++ [(A,B)]) ++ [c]) bx
end
def tX (h:∀A B,(Z A B).length=i):(eN Z R).length=R.length*i:=by unfold eN;rw[eR (n:=i) λw hw=>by obtain⟨r,_,rfl⟩:=mO.mp hw;rw[n7];exact h _ _,n7]
def yu:eN Z (R ++ [(A,l)])=eN Z R++(Z A l).map (·.2):=by simp[eN]
def QX (P:qj Y j o A l)(h:o<Y.n)(hw:i<Y.n):aM l (ba o i)=aM A (ba o i):=
 P.same _ (.sign o i h hw) (λz=>cq (b:="sign") z.symm) (λz=>cq (b:="sign") z.symm) (λz=>absurd (jA (a:="sign") z).1 (by decide)) (λw z=>cq (b:="sign") z.symm)
def sI.one {M:MQ}{L:Nat}{pp:Nat}{f0:Nat}{nc:List D->List D->List (D×D)}{G:List (List D×List D)->Prop}{PutS:List D->List D->Prop}(B:sI u M o j c L pp Q f0 e nc G PutS)(J:o<M.n){dn:Bool}(S:V5 M o j L Q f0 nc G PutS R A l i dn C)(E:bW M C)(I:A=l\/pp<=i)(H:(dn=true/\pp<=i)\/(dn=false/\(i<pp\/R.length<f0))):
   (∃k p,pS M k/\i4 u M o c (eN nc R++((nc A l).map (·.2)).take i) (.tup [.str "read",k])/\aM C k=some p/\lj M o j L pp Q f0 nc G PutS (R.length*L+i+1) ((eN nc R++((nc A l).map (·.2)).take i) ++ [p]) C) \/ ∃(w:Nat) (v:Int),w<M.n/\i4 u M o c (eN nc R++((nc A l).map (·.2)).take i) (.tup [.str "write",ba o w,.int v])/\lj M o j L pp Q f0 nc G PutS (R.length*L+i+1) ((eN nc R++((nc A l).map (·.2)).take i) ++ [.ay]) (aX C (ba o w) (.int v)):=by
 have len:=B.len A l;have hi:=S.hi;obtain⟨⟨x,p⟩,rs⟩:∃q,(nc A l)[i]? = some q:=⟨_,mA (by omega)⟩
 have says:=B.opn R A l i x p S.all S.g S.lt S.XA S.XB rs
 have tk:((nc A l).map (·.2)).take (i+1)=((nc A l).map (·.2)).take i ++ [p]:=by rw[ae_,nP,rs];rfl
 have bH:i+1=L->(R.length<f0/\A=l)\/(f0<=R.length/\PutS A l):=λh=>by
   rcases H with⟨d,_⟩|⟨d,f|f⟩
   . exact .inr ⟨(S.pt d).2,(S.pt d).1⟩
   . have:=B.pl;omega
   . exact .inl ⟨f,S.np d⟩
 have fin:∀O,Sm M o l O->(∀next w v,next < i+1->jB nc o A l next w v->aM O (ba o w)=some (.int v))->lj M o j L pp Q f0 nc G PutS (R.length*L+i+1) ((eN nc R++((nc A l).map (·.2)).take i) ++ [p]) O:=λO sm sg=>by
   rw[ta,<- tk,Nat.add_assoc];by_cases h:i+1<L
   . refine .go R A l (i+1) dn O ⟨S.all,S.g,S.lt,S.lst,S.XA,S.XB,S.ag,h,S.pt,S.np,sm,sg⟩ ?_
     rcases H with⟨d,h1⟩|⟨d,f|f⟩
     . exact .inl ⟨d,by omega⟩
     . exact .inr ⟨d,.inl (by omega)⟩
     . exact .inr ⟨d,.inr f⟩
   . have h':i+1=L:=by omega
     have mv:=bH h'
     have e1:eN nc R++((nc A l).map (·.2)).take (i+1)=eN nc (R ++ [(A,l)]):=by rw[Dc (by rw[n7];omega),yu]
     have e2:R.length*L+(i+1)=(R ++ [(A,l)]).length*L:=by rw[nN,aeH,tF];omega
     rw[e1,e2];by_cases hq:R.length+1<Q
     . have Cg:kM M (R ++ [(A,l)]):=λr s=>by
        rcases m3.mp s with s|s
        . exact S.all r s
        . simp at s;subst s;exact⟨S.XA,S.XB⟩
       have:=lj.go (M:=M) (o:=o) (j:=j) (L:=L) (pp:=pp) (Q:=Q) (f0:=f0) (nc:=nc) (G:=G) (PutS:=PutS) (R ++ [(A,l)]) l l 0 false O ⟨Cg,B.nxt R A l S.all S.g S.lst mv hq,by simpa using hq,λr s=>by simp at s;subst s;rfl,S.XB,S.XB,λ_ _ _=>rfl,by have:=B.pl;omega,λz=>absurd z (by decide),λ_=>rfl,sm,λnext w v z=>absurd z (adZ _)⟩ (.inr ⟨rfl,.inl (ro _)⟩);rw[List.take_zero,wz,ahe]at this;exact this
     . have cE:R.length+1=Q:=by have:=S.lt;omega
       rw[show(R ++ [(A,l)]).length=Q by simpa using cE];exact .en R A l O ⟨S.all,S.g,S.lst,S.XA,S.XB,mv,cE,sm⟩
 rcases B.pair A l i x p S.XA S.XB S.ag rs I with⟨k,rfl,y,Y,dg⟩|⟨w,v,rfl,rfl,hw⟩
 . refine .inl ⟨k,p,y,says,(S.sm k y Y).trans dg,fin C S.sm λnext w v h1 f=>?_⟩
   by_cases U:next=i
   . subst U
     unfold jB at f;rw[rs]at f;injection f with f
     have:=(agr f).1;injection this with this
     injection this with this _
     injection this with this
     exact absurd this (by decide)
   . exact S.sg next w v (by omega) f
 . have kk:pS M (ba o w):=.sign o w J hw
   refine .inr ⟨w,v,hw,says,fin _ (λk y Y=>?_) λnext Z v' h1 f=>?_⟩
   . rw[gB kk.aO y.aO (λz=>Y w z.symm) E.ka];exact S.sm k y Y
   . by_cases h4:Z=w
     . subst h4
       rw[B.wf A l next i Z v' v f rs];exact fA kk.aO E.ka
     . have U:next < i:=by
        by_cases U:next=i
        . subst U
          unfold jB at f;rw[rs]at f;injection f with f
          have:=(agr f).1;injection this with this
          injection this with _ this
          injection this with this _
          exact absurd ((jA (a:="sign") (b:="sign") this).2.2).symm h4
        . omega
       have ne:ba o w≠ba o Z:=λz=>h4 ((jA (a:="sign") (b:="sign") z).2.2).symm;rw[gB kk.aO rfl ne E.ka];exact S.sg next Z v' U f
def sI.inv (R:sI u Y o j c i h Q X e Z U T)(C:o<Y.n)(H:j<Y.n)(J:e<=1)(I:∀A B M w v,jB Z o A B M w v->w<Y.n):Vl u Y o j c (Q*i+e) (lj Y o j i h Q X Z U T):=by
 refine⟨λt rd x L=>?_,λt rd x a_ L ht f0 y q=>?_⟩
 . cases L with
   |go rs A B M dn _ S p =>
    have:=S.hi;rw[nN,tX R.len,yN,n7,R.len];omega
   |en rs A B _ E=>rw[tX R.len];simp[E.lt]|vw rs A B _ O E k=>rw[nN,tX R.len];simp[E.lt]
 . cases L with
   |go rs A B M dn _ S p =>
    by_cases hT:M=h/\X<=rs.length
    . have P:=q.1 ((R.turn rs.length M S.hi).mpr hT)
      obtain⟨rfl,hf⟩:=hT;have r:dn=false:=by
        rcases p with⟨_,L⟩|⟨L,_⟩
        . omega
        . exact L
      subst r;have l:=S.np rfl;subst l;have ag:Jz Y j A a_:=λw hw hn=>(yt P hw hn).trans (S.sm.own hw);have pre:=R.pre A a_ ag;have s:∀a w v,a < M->jB Z o A a_ a w v->aM a_ (ba o w)=some (.int v):=λa w v f b=>by rw[QX P C (I _ _ _ _ _ b)];refine S.sg a w v f ?_;unfold jB at b ⊢;rw[<- UC f,<- pre,UC f];exact b
      have pu:=R.Yj A x a_ S.XA P S.sm λa w v f b=>S.sg a w v f b
      have er:((Z A A).map (·.2)).take M=((Z A a_).map (·.2)).take M:=by rw[<- afy,<- afy,pre]
      rw[er];exact R.one C (dn:=true) ⟨S.all,S.g,S.lt,S.lst,S.XA,y,ag,S.hi,λ_=>⟨pu,hf⟩,λz=>absurd z (by decide),λ_ _ _=>rfl,s⟩ y (.inr (mn _)) (.inl ⟨rfl,mn _⟩)
    . obtain rfl:=q.2 λz=>hT ((R.turn rs.length M S.hi).mp z)
      refine R.one C S f0 ?_ ?_
      . rcases p with⟨_,L⟩|⟨L,_⟩
        . exact .inr (by omega)
        . exact .inl (S.np L)
      . rcases p with⟨d,L⟩|⟨d,L|L⟩
        . exact .inl ⟨d,by omega⟩
        . by_cases h3:rs.length<X
          . exact .inr ⟨d,.inr h3⟩
          . exact .inr ⟨d,.inl (by omega)⟩
        . exact .inr ⟨d,.inr L⟩
   |en rs A B _ E =>
    have next:e=1:=by omega
    have nt:¬iE Y j (Q*i):=λz=>by have:=(R.turn Q 0 (by have:=R.pl;omega)).mp (by simpa using z);have:=R.p0 next;omega
    obtain rfl:=q.2 nt;obtain⟨O,k⟩:=f0.has _ (.view j H);exact .inl ⟨_,O,.view j H,R.enS rs A B next E.all E.g E.lst E.XA E.XB E.mv E.lt,k,.vw rs A B a_ O E k⟩
   |vw rs A B _ O E k=>omega
def sI.zero {M:MQ}{L:Nat}{pp:Nat}{f0:Nat}{nc:List D->List D->List (D×D)}{G:List (List D×List D)->Prop}{PutS:List D->List D->Prop}(R:sI u M o j c L pp Q f0 e nc G PutS)(X:bW M A):lj M o j L pp Q f0 nc G PutS 0 [] A:=by have:=lj.go (M:=M) (o:=o) (j:=j) (L:=L) (pp:=pp) (Q:=Q) (f0:=f0) (nc:=nc) (G:=G) (PutS:=PutS) [] A A 0 false A ⟨λr a=>by simp at a,R.g0,R.q1,λr a=>by simp at a,X,X,λ_ _ _=>rfl,by have:=R.pl;omega,λz=>absurd z (by decide),λ_=>rfl,λ_ _ _=>rfl,λb w v z=>absurd z (adZ _)⟩ (.inr ⟨rfl,.inl (ro _)⟩);simpa[eN]using this
theorem yx {c e:Type}{a b:c->e}:∀{l:List c} {p:Nat} {x:c},l[p]? = some x->(l.flatMap λx=>[a x,b x])[2*p+1]? = some (b x)
 | [],p,x,h=>by simp at h|y::l,0,x,h=>by simp at h;subst h;rfl|y::l,p+1,x,h=>by have:=yx (a:=a) (b:=b) (l:=l) (p:=p) (x:=x) (by simpa using h);rw[C7,show 2*(p+1)+1=2*p+1+1+1 by omega];simpa using this
theorem fM {c e:Type}{a b:c->e}:∀{l:List c},(l.flatMap λx=>[a x,b x]).length=2*l.length
 | []=>rfl|x::l=>by rw[C7,nN,fM];simp;omega
def Fq (X:bW Y A)(h:i<Y.n):aM A (own "own" i)=some (aW A "own" i):=by obtain⟨c,a⟩:=X.has _ (.own i h);rw[kL a];exact a
def QY (X:bW Y A)(h:i<Y.p):aM A (own "box" i)=some (aW A "box" i):=by obtain⟨c,a⟩:=X.has _ (.box i h);rw[kL a];exact a
def LQ (X:bW Y A)(h:i<Y.n)(e:o<Y.n):aM A (two "call" i o)=some (.int (gm A o i)):=by obtain⟨c,a⟩:=X.has _ (.call i o h e);obtain⟨x,rfl⟩:=(X.ck _ c (.call i o h e) a).1.cl _ _ rfl;rw[a];unfold gm;rw[a];rfl
def yy (X:bW Y A)(h:i<Y.n):gp Y o A (.tup [.str "read",own "own" i]) (aW A "own" i):=.inl ⟨_,rfl,.own i h,vR,Fq X h⟩
def QZ (X:bW Y A)(h:i<Y.p):gp Y o A (.tup [.str "read",own "box" i]) (aW A "box" i):=.inl ⟨_,rfl,.box i h,vR,QY X h⟩
def AL (X:bW Y A)(h:i<Y.n)(a:o<Y.n):gp Y o A (.tup [.str "read",.tup [.str "call",.int i,.int o]]) (.int (gm A o i)):=.inl ⟨_,rfl,.call i o h a,Jx,LQ X h a⟩
def AM (h:i<Y.n):gp Y o A (.tup [.str "write",ba o i,.int M]) .ay:=.inr ⟨i,M,rfl,rfl,h⟩
def AN {f g:Nat->D×D}(h:∀w,w<i->w<o->f w=g w):((nJ i).map f).take o=((nJ i).map g).take o:=by rw[<- afy,<- afy];refine adn λw hw=>?_;rw[List.take_range,ug]at hw;exact h w (by omega) (by omega)
def pI {a:D}:¬((D.tup [.str "read",O],c)=(.tup [.str "write",ba o i,.int M],a)):=λe=>by
 have:=(agr e).1;injection this with this
 injection this with this _
 injection this with this
 exact absurd this (by decide)
def JA {h:Int}(e:(D.tup [.str "write",ba o i,.int M],c)=(.tup [.str "write",ba o j,.int h],O)):i=j/\M=h:=by
 have:=(agr e).1;injection this with this
 injection this with _ this
 injection this with e1 this
 injection this with e2 _
 injection e2 with e2
 exact⟨(jA (a:="sign") (b:="sign") e1).2.2,e2⟩
def vS (e:i<=5)(b:o<i)(a:j<=1):(aB i o j).length=j*(i-1):=(show ∀i,i<=5->∀o,o<i->∀j,j<=1->(aB i o j).length=j*(i-1) by decide) i e o b j a
def AO:(iR A l i o j).length=bP i o j:=by unfold iR bP;simp only[nN,fM,n7,N2];omega
def Hx (k:bW (.signs h Q X e) A)(f:bW (.signs h Q X e) l)(n:(iR A l h o X)[i]? = some (O,c))(b:A=l\/2*(aB h o X).length+h+j<=i):gp (.signs h Q X e) o l O c:=by
 have a:(O,c)∈((nJ h).map λw=>(D.tup [.str "read",own "own" w],aW l "own" w))->gp (.signs h Q X e) o l O c:=λn=>by obtain⟨w,hw,tg⟩:=mO.mp n;cases tg;exact yy f (ug.mp hw)
 rcases b with rfl|b
 . have n:=p7 n
   unfold iR at n;rcases m3.mp n with n|n
   . rcases m3.mp n with n|n
     . obtain⟨w,hw,n⟩:=adm.mp n
       simp only[nv,Ex,or_false]at n;rcases n with n|n
       . cases n;exact yy k (de.mp hw).2.1
       . cases n;exact AM (de.mp hw).2.1
     . exact a n
   . exact a n
 . unfold iR at n
   rw[wm (by simp only[nN,fM,n7,N2];omega)]at n;exact a (p7 n)
def LR (b:∀w,w<i->w≠j->aW l "own" w=aW A "own" w):(iR A l i o h).take (2*(aB i o h).length+i+j)=(iR A A i o h).take (2*(aB i o h).length+i+j):=by
 have c:∀S f:List (D×D),S.length=2*(aB i o h).length+i->(S++f).take (2*(aB i o h).length+i+j)=S++f.take j:=λS f n=>by rw[List.take_append,n,Dc (by omega),af9]
 unfold iR;rw[c _ _ (by simp only[nN,fM,n7,N2]),c _ _ (by simp only[nN,fM,n7,N2])];congr 1;exact AN λw hw a=>by rw[b w hw (by omega)]
def yz (w:jB (λA l=>iR A l h o Q) o A l i j M):j<h/\M=cB (aW A "own" j) o:=by
 have w:=p7 w;unfold iR at w;have c:∀{X:List D},(D.tup [.str "write",ba o j,.int M],D.ay)∈((nJ h).map λj=>(D.tup [.str "read",own "own" j],aW X "own" j))->False:=λw=>by obtain⟨a,_,e⟩:=mO.mp w;exact pI e
 rcases m3.mp w with w|w
 . rcases m3.mp w with w|w
   . obtain⟨a,hw,w⟩:=adm.mp w
     simp only[nv,Ex,or_false]at w;rcases w with w|w
     . exact absurd w.symm pI
     . obtain⟨rfl,rfl⟩:=JA w
       exact⟨(de.mp hw).2.1,rfl⟩
   . exact(c w).elim
 . exact(c w).elim
def Q0 (b:h=1)(e:j<i)(f:j≠o):∃n,n<2*(aB i o h).length+i+j/\jB (λA B=>iR A B i o h) o A A n j (cB (aW A "own" j) o):=by obtain⟨q,a⟩:=Qt (de.mpr ⟨b,e,f⟩:j∈aB i o h);have lt:=(m5.mp a).1;refine⟨2*q+1,by omega,?_⟩;unfold jB iR;dsimp only;rw[ra (by simp only[nN,fM,n7,N2];omega),ra (by rw[fM];omega),yx a]
noncomputable def oU (_ B:List D)(n:Nat):List (D×D):=(nJ n).map λw=>(D.tup [.str "read",own "own" w],aW B "own" w)
def AQ:(oU A l i).length=i:=by simp[oU]
def Fs:(oU A l i).map (·.2)=fq l i:=by simp[oU,fq]
def Hy (a:bW (.handed j Q h) l)(n:(oU A l j)[i]? = some (O,c)):gp (.handed j Q h) o l O c:=by obtain⟨w,hw,e⟩:=mO.mp (p7 n);cases e;exact yy a (ug.mp hw)
def Q1 (h:(oU A l o)[i]? = some (O,c)):O = .tup [.str "read",own "own" i]/\i<o:=by have lt:=(m5.mp h).1;rw[AQ]at lt;simp[oU,lt]at h;exact⟨h.1.symm,lt⟩
def LS (b:∀w,w<i->w≠j->aW l "own" w=aW A "own" w):(oU A l i).take j=(oU A A i).take j:=AN λw hw a=>by rw[b w hw (by omega)]
def Ft (w:jB (λA l=>oU A l h) o A l i j M):False:=by obtain⟨a,_,e⟩:=mO.mp (p7 w);exact pI e
def AR:(iG A l i j o h).length=bG i j o h:=by unfold iG bG;simp only[nN,fM,n7,N2];omega
def Hz (n:bW (.shared j h Q X e) A)(f:bW (.shared j h Q X e) l)(k:o<j)(p:(iG A l j h o X)[i]? = some (O,c))(b:A=l\/2*(aB j o X).length+h<=i):gp (.shared j h Q X e) o l O c:=by
 have a:(O,c)∈((nJ h).map λw=>(D.tup [.str "read",own "box" w],aW l "box" w))->gp (.shared j h Q X e) o l O c:=λp=>by obtain⟨w,hw,tg⟩:=mO.mp p;cases tg;exact QZ f (ug.mp hw)
 have vW:(O,c)∈((aB j o X).map λ(w:Nat)=>(D.tup [.str "read",.tup [.str "call",.int w,.int o]],D.int (gm l o w)))->gp (.shared j h Q X e) o l O c:=λp=>by obtain⟨w,hw,tg⟩:=mO.mp p;cases tg;exact AL f (de.mp hw).2.1 k
 rcases b with rfl|b
 . have p:=p7 p
   unfold iG at p;rcases m3.mp p with p|p
   . obtain⟨w,hw,p⟩:=adm.mp p
     simp only[nv,Ex,or_false]at p;rcases p with p|p
     . cases p;exact AL n (de.mp hw).2.1 k
     . cases p;exact AM (de.mp hw).2.1
   . rcases m3.mp p with p|p
     . rcases m3.mp p with p|p
       . exact a p
       . exact a p
     . exact vW p
 . unfold iG at p
   rw[wm (by rw[fM];omega),fM,ta,wm (by simp only[n7,N2];omega)]at p;rcases m3.mp (p7 p)with p|p
   . exact a p
   . exact vW p
def LU:(iG A l i j o h).take (2*(aB i o h).length+j)=(iG A A i j o h).take (2*(aB i o h).length+j):=by
 have c:∀X:List D,(iG A X i j o h).take (2*(aB i o h).length+j)=((aB i o h).flatMap λ(w:Nat)=>[(D.tup [.str "read",.tup [.str "call",.int w,.int o]],D.int (gm A o w)),(.tup [.str "write",ba o w,.int (gm A o w)],.ay)])++(nJ j).map λw=>(D.tup [.str "read",own "box" w],aW A "box" w):=λX=>by unfold iG;rw[ta,<- ta,List.take_left' (by simp only[nN,fM,n7,N2])]
 rw[c l,c A]
def yA (v:jB (λA l=>iG A l h Q o X) o A l i j M):j<h/\M=gm A o j:=by
 have v:=p7 v;unfold iG at v;have c:∀{w:List D},(D.tup [.str "write",ba o j,.int M],D.ay)∈((nJ Q).map λj=>(D.tup [.str "read",own "box" j],aW w "box" j))->False:=λv=>by obtain⟨a,_,e⟩:=mO.mp v;exact pI e
 rcases m3.mp v with v|v
 . obtain⟨a,hw,v⟩:=adm.mp v
   simp only[nv,Ex,or_false]at v;rcases v with v|v
   . exact absurd v.symm pI
   . obtain⟨rfl,rfl⟩:=JA v
     exact⟨(de.mp hw).2.1,rfl⟩
 . rcases m3.mp v with v|v
   . rcases m3.mp v with v|v
     . exact(c v).elim
     . exact(c v).elim
   . obtain⟨a,_,e⟩:=mO.mp v
     exact(pI e).elim
def Q3 {p:Nat}(b:h=1)(e:j<i)(f:j≠o):∃n,n<2*(aB i o h).length+p/\jB (λA B=>iG A B i p o h) o A A n j (gm A o j):=by obtain⟨q,a⟩:=Qt (de.mpr ⟨b,e,f⟩:j∈aB i o h);have lt:=(m5.mp a).1;refine⟨2*q+1,by omega,?_⟩;unfold jB iG;dsimp only;rw[ra (by rw[fM];omega),yx a]
def sJ (h:o<i):(m6 i [j]).getD o []= [j]:=by simp[qa,h]
theorem pJ {m:Nat}:∀{k:Nat},k<=m->gY (m6 m [j]) k j=k
 | 0,_=>rfl|k+1,h=>by simp only[gY];rw[pJ (by omega),sJ (by omega)];simp
def yB (b:i<h)(a:o<i):fH (.int h) (m6 i [j]) o:=by
 unfold fH;rw[sJ a];refine⟨by simp,?_⟩;unfold eJ;have:¬((o:Int)+1=(h:Int)):=by omega
 simp[pJ (show o+1<=i by omega),bF,this]
def u9 (a:i+1<o):fH (.int o) (m6 o [j]) i:=by
 unfold fH;rw[sJ (by omega)];refine⟨by simp,?_⟩;unfold eJ;have:¬((i:Int)+1=(o:Int)):=by omega
 simp[pJ (show i+1<=o by omega),bF,this]
def yC (b:1<=i):jV (.int i) (m6 i [j]) (i-1) (some j):=by
 have e:i-1+1=i:=by omega
 unfold jV;rw[sJ (by omega),e];have:eJ (gY (m6 i [j]) i) (.int i) [j]= [j]:=by unfold eJ;simp[pJ (mn i),bF]
 rw[this];exact⟨by simp,by simp,λk a=>by simp at a;omega⟩
end
section
open PyProof.Rows
noncomputable def rs (T:Nat->Fn):Str->Option Fn:=λy=>match(k8 0 ds).lookup y with|some q=>some (T q.1)|none=>((k9 0 ds).lookup y).map λi=>cY (T i)
noncomputable def Q4 (T:Nat->Fn):FS:=aK (ak au a5 (ak aJ bh (Br lE (ak au a5 b0) a6)))
noncomputable def V6 (T:Nat->Fn):FS:=aK (aq (T 0) (af a5 (af (fC (.str "hands")) aj)))
noncomputable def V7 (T:Nat->Fn):FS:=az (bU (aD (ak oEq (ak au a5 b0) fk)) (aK (aq (T 0) (af a5 (af (fC (.str "places")) aj)))) aP) (aK (aq (T 1) (af a5 aj)))
noncomputable def V8 (T:Nat->Fn):FS:=az (aF (lA (aD (ak oEq (ak au a5 b0) fk)) ft fb) (gN 1)) (aK (aq gG (af (bO bR (iz (af (aq (T 2) (af a5 aj)) aj)) [none,none,some 1] (gN 1) cG (aI ax (af a7 (af a6 aj)))) aj)))
noncomputable def b_4 (T:Nat->Fn):FS:=cK (rs T)
noncomputable def b_5 (T:Nat->Fn):FS:=oN "renumbered" (T 1) (T 4) (T 6)
noncomputable def V9 (T:Nat->Fn):FS:=aK (lA (aD (ak oEq (ak au a5 b0) gD)) (aq (T 0) (af a5 (af kn aj))) fe)
noncomputable def b_7 (T:Nat->Fn):FS:=oI
noncomputable def V_ (T:Nat->Fn):FS:=aK (bO bR (iz (af (aq (T 1) (af a5 aj)) aj)) [none,none,some 1] (gN 1) (aD (ak di a6 a7)) a6)
noncomputable def Wa (T:Nat->Fn):FS:=aK (lA (aD (ak oEq (aq (T 0) (af a5 (af kR aj))) bh)) (aq (T 8) (af a5 (af a6 aj))) (aI jQ aj))
noncomputable def Yk (T:Nat->Fn):FS:=jy (rs T)
noncomputable def Yl (T:Nat->Fn):FS:=yf (T 0) (T 2) (T 9) (T 4) (T 12) (T 13) "shared_look.lambda" yi
noncomputable def Ym (T:Nat->Fn):FS:=xQ (T 9) (T 3) (T 10) "round_step_shared.lambda"
noncomputable def Yn (T:Nat->Fn):FS:=uZ (T 2) (T 9)
noncomputable def Yo (T:Nat->Fn):FS:=Qn (T 0) (T 2) (T 8) (T 9) (T 13) (T 15)
noncomputable def Yp (T:Nat->Fn):FS:=qf (T 0)
noncomputable def Yq (T:Nat->Fn):FS:=Ap (T 0) (T 1) (T 9) (T 4) (T 17) "signs_look.lambda"
noncomputable def Yr (T:Nat->Fn):FS:=Ao (T 1) (T 9) (T 10) "round_step_signs.lambda"
noncomputable def Ys (T:Nat->Fn):FS:=qG (T 0) (T 1) (T 8) (T 9)
noncomputable def Q5 (T:Nat->Fn):FS:=az (bU (aD (ak oEq (ak au a5 b0) (fC (.str "tables")))) (aK cj) aP) (az (bU (aD (ak oEq (ak au a7 b0) jd)) (aK (aq (T 20) (af a5 (af a6 (af d4 aj))))) aP) (aK cj))
noncomputable def Cj (T:Nat->Fn):FS:=az (aF (ak au a5 b0) (gN 3)) (az (bU (aD (ak oEq bg (fC (.str "once")))) (aK cj) aP) (az (bU (aD (ak oEq bg jc)) (aK (ak au (aq (T 16) (af a5 (af a6 (af a7 aj)))) b0)) aP) (az (bU (aD (ak oEq bg fk)) (aK (ak au (aq (T 11) (af a5 (af a6 (af a7 aj)))) b0)) aP) (aK (ak au (aq (T 5) (af a5 (af a7 aj))) b0)))))
noncomputable def Yt (T:Nat->Fn):FS:=vL
noncomputable def Yu (T:Nat->Fn):FS:=vM
noncomputable def Yv (T:Nat->Fn):FS:=BY (T 22)
noncomputable def Yw (T:Nat->Fn):FS:=vN (T 22) (T 23)
noncomputable def Yx (T:Nat->Fn):FS:=VM
noncomputable def Yy (T:Nat->Fn):FS:=sF (T 24)
noncomputable def Yz (T:Nat->Fn):FS:=QF (T 22) (T 24) (T 25) (T 26)
noncomputable def YA (T:Nat->Fn):FS:=Fg (T 25) (T 27)
noncomputable def YB (T:Nat->Fn):FS:=sj (T 23)
noncomputable def YC (T:Nat->Fn):FS:=Jh (T 22) (T 23)
noncomputable def YD (T:Nat->Fn):FS:=VV (T 22) (T 25) (T 24) (T 26)
noncomputable def YE (T:Nat->Fn):FS:=VO
noncomputable def YF (T:Nat->Fn):FS:=VP
noncomputable def HA (T:Nat->Fn):FS:=az (fO (iz (af (ak aJ fo (aq ((jU lC iA)) (af (fC (.int 6)) (af (aq bM (af a5 aj)) aj)))) aj)) (gN 1) (QW (T 21) (T 30) (T 22) (T 25) (T 29) (T 28) (T 33) (T 32) (T 31) (T 19))) (aK ko)
noncomputable def YG (T:Nat->Fn):FE:=aq (T 14) (af a5 (af a6 (af a7 aj)))
noncomputable def YH (T:Nat->Fn):FE:=a5
noncomputable def YI (T:Nat->Fn):FE:=aq (T 18) (af a5 (af a6 (af a7 aj)))
noncomputable def YJ (T:Nat->Fn):FE:=ak au (ak au a6 bh) a5
noncomputable def tab:Nat->Nat->Fn
 | 0,_=>λ_ _=>none|k+1,0=>(av false 2 2 (Q4 (tab k)))|k+1,1=>(av false 1 1 (V6 (tab k)))|k+1,2=>(av false 1 1 (V7 (tab k)))|k+1,3=>(av false 2 1 (V8 (tab k)))|k+1,4=>(av false 10 5 (b_4 (tab k)))|k+1,5=>(av false 6 2 (b_5 (tab k)))|k+1,6=>(av false 1 1 (V9 (tab k)))|k+1,7=>(av false 2 1 (b_7 (tab k)))|k+1,8=>(av false 2 2 (V_ (tab k)))|k+1,9=>(av false 2 2 (Wa (tab k)))|k+1,10=>(av false 5 4 (Yk (tab k)))|k+1,11=>(av false 6 3 (Yl (tab k)))|k+1,12=>(av false 6 3 (Ym (tab k)))|k+1,13=>(av false 4 3 (Yn (tab k)))|k+1,14=>(av false 12 3 (Yo (tab k)))|k+1,15=>(av false 3 3 (Yp (tab k)))|k+1,16=>(av false 8 3 (Yq (tab k)))|k+1,17=>(av false 6 3 (Yr (tab k)))|k+1,18=>(av false 10 3 (Ys (tab k)))|k+1,19=>(av false 5 5 (Q5 (tab k)))|k+1,20=>(av false 4 3 (Cj (tab k)))|k+1,21=>(av true 3 2 (Yt (tab k)))|k+1,22=>(av false 6 2 (Yu (tab k)))|k+1,23=>(av false 2 2 (Yv (tab k)))|k+1,24=>(av false 2 1 (Yw (tab k)))|k+1,25=>(av false 1 1 (Yx (tab k)))|k+1,26=>(av false 2 2 (Yy (tab k)))|k+1,27=>(av false 6 3 (Yz (tab k)))|k+1,28=>(av true 5 2 (YA (tab k)))|k+1,29=>(av false 2 2 (YB (tab k)))|k+1,30=>(av false 5 1 (YC (tab k)))|k+1,31=>(av false 10 5 (YD (tab k)))|k+1,32=>(av false 5 4 (YE (tab k)))|k+1,33=>(av false 1 1 (YF (tab k)))|k+1,34=>(av false 13 1 (HA (tab k)))|k+1,35=>bN 2 1 (YG (tab k))|k+1,36=>bN 0 1 (YH (tab k))|k+1,37=>bN 2 1 (YI (tab k))|k+1,38=>bN 1 1 (YJ (tab k))|_+1,_=>λ_ _=>none
def rws (k:Nat):xJ mo (tab k) (tab (k+1)) k 0 mo.ds:=by repeat (first|exact .nil| (refine .cons ?_ ?_;· kernel_rfl))
def good:O8 mo tab:=Lo (λ_ _ _=>rfl) rws (by decide +kernel) (by decide +kernel)
end
section
variable {Z:List (List D×List D)}{Q Y t:Nat}{X:MQ}{T:List D->List D->List (D×D)}{x:D}{O:List (List D×List D)->Prop}{I:List D->List D->Prop}{H C B y:Fn}{E:List (List D)}
noncomputable def mB:MQ->Str
 |.shared ..=>"box"|_=>"own"
def t_n (k:Nat)(g:G):tab (k+1) 0 [X.d,.str "hands"] g=some (.int X.n,g):=by show av false 2 2 (Q4 (tab k)) _ g=_;cases X<;>exact aU rfl (cU rfl) rfl
def j2 {M:MQ}(k:Nat)(g:G):tab (k+2) 1 [M.d] g=some (.int M.n,g):=by show av false 1 1 (V6 (tab (k+1))) _ g=_;exact aU rfl (cU (t_n k g)) rfl
def Q6 {M:MQ}(k:Nat)(g:G):tab (k+3) 2 [M.d] g=some (.int M.p,g):=by
 show av false 1 1 (V7 (tab (k+2))) _ g=_;cases M with
 |shared n p tg sh mo =>
  refine aU rfl (fT (g1:=g) rfl ?_) rfl;show tab (k+2) 0 [(MQ.shared n p tg sh mo).d,.str "places"] g=_;show av false 2 2 (Q4 (tab (k+1))) _ g=_;exact aU rfl (cU rfl) rfl
 |handed n tu mo=>exact aU rfl (bp ((cM (g1:=g) rfl).trans rfl) (cU (j2 (M:=.handed n tu mo) k g))) rfl|signs n tg sh mo=>exact aU rfl (bp ((cM (g1:=g) rfl).trans rfl) (cU (j2 (M:=.signs n tg sh mo) k g))) rfl
def T9 (ok:X.Ok)(k:Nat)(g:G):tab (k+4) 3 [X.d] g=some (.tup ((nJ X.p).map λj=>own (mB X) j),g):=by
 show av false 2 1 (V8 (tab (k+3))) _ g=_;have l:=ok.p5;have f:aC 2=true:=rfl;have b:aC X.p=true:=aR (by omega);have c:=dZ (t:=gN 1) (c:=cG) (e:=aI ax (af a7 (af a6 aj))) (h:=λd=>D.tup [.str (mB X),d]) (λσ=>∃a,σ = [none,a,some (.str (mB X))]) (fU 0 X.p) [none,none,some (.str (mB X))] g ⟨_,rfl⟩ (by rintro t hm σ ⟨a,rfl⟩;exact⟨[none,some t,some (.str (mB X))],by simp,by simp,by simp[f],_,rfl⟩)
 have r:=so (fr:=af (aq (tab (k+3) 2) (af a5 aj)) aj) (σ:=[some X.d,some (.str (mB X))]) (g:=g) (g1:=g) (n:=X.p) (by have e:aq (tab (k+3) 2) (af a5 aj) [some X.d,some (.str (mB X))] g=some (.int X.p,g):=Q6 k g;simp only[cw,e,dq,mI]) (by omega)
 have i:bO bR (iz (af (aq (tab (k+3) 2) (af a5 aj)) aj)) [none,none,some 1] (gN 1) cG (aI ax (af a7 (af a6 aj))) [some X.d,some (.str (mB X))] g=some (.lst ((nJ X.p).map λj=>own (mB X) j),g):=by rw[gR,r];simp only[mI,dS,b,if_true];rw[show cz [none,none,some 1] [some X.d,some (.str (mB X))]= [none,none,some (.str (mB X))] from rfl,c];simp[bR,fU,own,L1,b]
 refine aU rfl (bD (d:=.str (mB X)) (g1:=g) (by cases X<;>rfl) (cU ?_)) rfl;show aq gG (af (bO bR _ _ _ _ _) aj) [some X.d,some (.str (mB X))] g=_;simp only[qy,cw,i,dq,mI,KC,bA];rw[if_pos (by simpa using b)]
def Ck (ok:X.Ok)(k:Nat)(g:G):tab (k+3) 8 [X.d,.int o] g=some (.lst (dN (dC X.n o)),g):=by
 show av false 2 2 (V_ (tab (k+2))) _ g=_;have i:=ok.n5;have r:=so (fr:=af (aq (tab (k+2) 1) (af a5 aj)) aj) (σ:=[some X.d,some (.int o)]) (g:=g) (g1:=g) (n:=X.n) (by have e:aq (tab (k+2) 1) (af a5 aj) [some X.d,some (.int o)] g=some (.int X.n,g):=j2 k g;simp only[cw,e,dq,mI]) (by omega)
 have p:aC X.n=true:=aR (by omega);have f:∀(l:List Nat) (b:Option D),cR (gN 1) (aD (ak di a6 a7)) a6 (dN l) [none,b,some (.int o)] g=some (dN (l.filter λj=>!(j == o)),g):=λl=>by
  induction l with
  |nil=>exact λ_=>rfl
  |cons j l q =>
   intro b;have t:aD (ak di a6 a7) [none,some (.int j),some (.int o)] g=some (decide ((j:Int)≠o),g):=by rw[dU,bK (d:=.int j) (d':=.int o) (g1:=g) (g2:=g) rfl rfl,XP];rfl
   have a:=q (some (.int j));simp only[dN,wk]at a ⊢;simp only[cR];rw[show gN 1 (D.int j) [none,b,some (.int o)] g=some ([none,some (.int j),some (.int o)],g) from rfl];simp only[mI,t];by_cases e:j=o
   . subst e
     simp[a]
   . have h:((j:Int)≠o):=by omega
     rw[decide_eq_true h];simp only[if_true,show a6 [none,some (D.int j),some (.int o)] g=some (.int j,g) from rfl,mI,a];simp[e]
 have zl:aC (dN (dC X.n o)).length=true:=aR (by rw[cg];have:=mf (n:=X.n) (o:=o);omega);refine aU rfl (cU ?_) rfl;show bO bR _ _ _ _ _ [some X.d,some (.int o)] g=_;rw[gR,r];simp only[mI,dS,p,if_true];have c:fU 0 X.n=dN (nJ X.n):=by simp[fU,dN]
 rw[show cz [none,none,some 1] [some X.d,some (.int o)]= [none,none,some (.int o)] from rfl,c,f];simp only[mI,bR];rw[show(nJ X.n).filter (λj=>!(j == o))=dC X.n o from rfl]
def JB (ok:X.Ok)(b:tab (i+3) 0 [X.d,.str "shakes"] r=some (.int X.sh,r)):tab (i+4) 9 [X.d,.int o] r=some (.lst (dN (aB X.n o X.sh)),r):=by
 show av false 2 2 (Wa (tab (i+3))) _ r=_;refine aU rfl (cU ?_) rfl;have t:aD (ak oEq (aq (tab (i+3) 0) (af a5 (af kR aj))) bh) [some X.d,some (.int o)] r=some (decide ((X.sh:Int)=1),r):=by have a:aq (tab (i+3) 0) (af a5 (af kR aj)) [some X.d,some (.int o)] r=some (.int X.sh,r):=b;rw[dU,bK (d':=.int 1) (g2:=r) a rfl];by_cases e:(X.sh:Int)=1<;>simp[d6,flat,dep,bF,e]
 show lA _ _ _ [some X.d,some (.int o)] r=_;rw[sX,t];simp only[mI];by_cases h:X.sh=1
 . rw[if_pos (by simp[h])]
   unfold aB;rw[if_pos h];exact Ck ok i r
 . rw[if_neg (by simp;omega)]
   unfold aB;rw[if_neg h];rfl
def kN (k:Nat)(h:tab (k+9) 20 [X.d,.int o,.tup A] r=some (x,r)):tab (k+10) 19 [X.d,.int o,vP,c,.tup A] r=some (x,r):=by show av false 5 5 (Q5 (tab (k+9))) _ r=_;exact aU rfl (bp ((cM (g1:=r) (by cases X<;>rfl)).trans rfl) (fT (g1:=r) rfl h)) rfl
def AS {u:D}(k:Nat)(n:tab (k+8) 16 [(MQ.signs i j h Q).d,.int o,.tup A] r=some (.tup [x,u],r)):tab (k+9) 20 [(MQ.signs i j h Q).d,.int o,.tup A] r=some (x,r):=by show av false 4 3 (Cj (tab (k+8))) _ r=_;exact aU rfl (bD (d:=.str "signs") (g1:=r) rfl (bp ((cM (g1:=r) rfl).trans rfl) (fT (g1:=r) rfl ((bK (d:=.tup [x,u]) (g1:=r) n rfl).trans rfl)))) rfl
def qH {u:D}(k:Nat)(n:tab (k+8) 11 [(MQ.shared i j h Q Y).d,.int o,.tup A] r=some (.tup [x,u],r)):tab (k+9) 20 [(MQ.shared i j h Q Y).d,.int o,.tup A] r=some (x,r):=by show av false 4 3 (Cj (tab (k+8))) _ r=_;exact aU rfl (bD (d:=.str "shared") (g1:=r) rfl (bp ((cM (g1:=r) rfl).trans rfl) (bp ((cM (g1:=r) rfl).trans rfl) (fT (g1:=r) rfl ((bK (d:=.tup [x,u]) (g1:=r) n rfl).trans rfl))))) rfl
def JC (k:Nat)(n:tab (k+8) 5 [(MQ.handed i j h).d,.tup A] r=some (.tup [x,c],r)):tab (k+9) 20 [(MQ.handed i j h).d,.int o,.tup A] r=some (x,r):=by show av false 4 3 (Cj (tab (k+8))) _ r=_;exact aU rfl (bD (d:=.str "handed") (g1:=r) rfl (bp ((cM (g1:=r) rfl).trans rfl) (bp ((cM (g1:=r) rfl).trans rfl) (bp ((cM (g1:=r) rfl).trans rfl) (cU ((bK (d:=.tup [x,c]) (g1:=r) n rfl).trans rfl)))))) rfl
def yD (a:Fn):Prop:=∀(M:MQ) (h:Nat) (g:G) (B:Int),M.Ok->Hd g h B->B+3000<2 ^ 40->∃i c,a [.ref h,M.d] g=some (.bu g.length,c ++ [i])/\p9 h g c/\Hd c h (B+2400)/\bW M i
def Q8 (a:Fn):Prop:=∀(h:Nat) (g:G) (B:Int),Hd g h B->B+20<2 ^ 40->∃M c,a [.ref h] g=some (MQ.d M,c)/\M.Mv/\Hd c h (B+10)/\p9 h g c
def YK (j:fg u)(k:jv H):Q8 (av false 5 1 (Jh u H)):=λh g B hd i=>by obtain⟨⟨d,a⟩,e,M,b,rfl,c,f⟩:=T1 j k hd i;exact⟨M,a,e,b,c,f⟩
def LV {take value places state:Fn}(j:fg take)(i:l7 value)(f:mr state)(e:oR places):yD (av true 5 2 (Fg places (av false 6 3 (QF take value places state)))):=λM h g B ok hd c =>
 TY ok e (fun {g B k} b a hd=>TX j i f e ok a hd b) hd c
def baW (M:MQ)(j:Nat)(a:List D)(v:D):Prop:=match M with
 |.shared ..=>aM a (own "view" j)=some v|_=>∃c,aM a (own "own" j)=some (.tup c)/\cL c (-1)=some v
def Q9 (a:Fn):Prop:=∀(M:MQ) (o j:Nat) (h:D),M.Mv->o<M.n->j<M.n->j≠o->∃I,Vl a M o j h (ig M) I/\(∀c,bW M c->I 0 [] c) /\ ∀i c,I (ig M) i c->bW M c->∃v,flat v=true/\dep v<=50/\baW M j c v/\i4 a M o h i (.tup [.str "told",v])
def T_ (mv:X.Mv):ig X<=600:=by
 have ok:=mv.ok;have c:=ok.n5;have s1:=ok.s1;have b:=ok.m4;cases X with
 |handed n tu mo =>
  simp only[ig,MQ.n,MQ.mo]at *;have:=Vy c (Nat.add_le_add_right b 1);omega
 |signs n tg sh mo =>
  simp only[ig,MQ.n,MQ.sh,MQ.mo]at *;have a:=s5 s1 c;have:=Vy b (show 2*n+2*(sh*(n-1))<=20 by omega);omega
 |shared n p tg sh mo =>
  have e:=ok.p4 _ _ _ _ _ rfl;simp only[ig,MQ.n,MQ.sh,MQ.mo]at *;have a:=s5 s1 c;have:=Vy b (show 2*p+3*(sh*(n-1))<=23 by omega);omega
def Q_ {ah:D}{S:D}{g:G}{jj:Int}{o10:Option D}{o11:Option D}{o12:Option D}{I:Nat->List D->List D->Prop}(Y:Vl C X o j ah Q I)(O:B [X.d] g=some (.int Q,g))(L:Jy u)(Z:Fo H)(mv:X.Mv)(E:j<X.n)(N:o<X.n)(K:j≠o)(put:I 0 [] A)(J:Q<=600)(W:Wx X h i M g A)(P:M+40000<2 ^ 40):
   l2 (fO (iz (af (aq B (af bg aj)) aj)) (gN 10) (QV u H C) (mσ S jj h X o j ah i [] o10 o11 o12) g) λr=>r.1 = .nx /\ ∃p A U R,r.2.1=mσ S jj h X o j ah i p U R o12/\I Q p A/\Wx X h i (M+36000) r.2.2 A:=by
 have r:=so (fr:=af (aq B (af bg aj)) aj) (σ:=mσ S jj h X o j ah i [] o10 o11 o12) (g:=g) (g1:=g) (n:=Q) (by have e:aq B (af bg aj) (mσ S jj h X o j ah i [] o10 o11 o12) g=some (.int Q,g):=O;simp only[cw,e,dq,mI]) (by omega)
 rw[lS,r,mI];refine(pf (λt σ l=>∃p A U R,σ=mσ S jj h X o j ah i p U R o12/\I t p A/\Wx X h i (M+60*t) l A) _ 0 _ _ ⟨[],A,_,_,rfl,put,by simpa using W⟩ ?_ ?_)
 . rintro t d σ l hi ⟨p,A,a,c,rfl,k,b⟩
   obtain⟨q,rfl⟩:=gW hi;simp only[CV]at k b ⊢;have q:t<Q:=by simpa using q
   obtain⟨⟨f,σ2,g2⟩,e,s,y,z,R,T,x,v⟩:=T7 (S:=S) (jj:=jj) (ah:=ah) (o11:=c) (o12:=o12) Y L Z mv E N K k q J b (by omega);dsimp only at s T v;subst s T;refine⟨_,rfl,_,e,y,z,_,_,rfl,x,?_⟩;rw[show M+60*((t+1:Nat):Int)=M+60*(t:Int)+60 by omega];exact v
 . rintro σ l ⟨p,A,a,c,rfl,k,b⟩
   simp only[CV,dS]at k b;exact⟨rfl,p,A,a,c,rfl,k,⟨b.gb,b.X,b.hd.mono (by omega),b.bd,b.ne⟩⟩
def Ua {ah:D}{S:D}{rd:List D}{jj:Int}{o10:Option D}{o11:Option D}{o12:Option D}(q:baW X j A c)(s:j<X.n)(v:r[i]? = some A):V0 (mσ S jj h X o j ah i rd o10 o11 o12) r=some (.nx,mσ S jj h X o j ah i rd o10 o11 (some c),r):=by
 have k:aO 6 (own "own" j)=true:=rfl;have l:aO 6 (own "view" j)=true:=rfl;have a:∀b,aM A (own "own" j)=some (.tup b)->cL b (-1)=some c->∀X,ak au (ak au eu (aI ax (af fb (af ef aj)))) (n9 kq bh) (mσ S jj h X o j ah i rd o10 o11 o12) r=some (c,r):=λb f M X=>by
  have e:ak au eu (aI ax (af fb (af ef aj))) (mσ S jj h X o j ah i rd o10 o11 o12) r=some (.tup b,r):=by rw[bK (d:=.bu i) (d':=own "own" j) (g1:=r) (g2:=r) rfl rfl];simp[v,k,f]
  rw[bK (d':=.int (-1)) (g2:=r) e rfl];simp[d7,bA,M]
 refine(eU (d:=c) (g1:=r) ?_).trans rfl;rw[sX];cases X with
 |handed n tu mo =>
  obtain⟨b,f,M⟩:=q;rw[show aD (ak oEq (ak au bg b0) fk) (mσ S jj h (.handed n tu mo) o j ah i rd o10 o11 o12) r=some (false,r) from rfl];exact a b f M _
 |signs n tg sh mo =>
  obtain⟨b,f,M⟩:=q;rw[show aD (ak oEq (ak au bg b0) fk) (mσ S jj h (.signs n tg sh mo) o j ah i rd o10 o11 o12) r=some (false,r) from rfl];exact a b f M _
 |shared n p tg sh mo =>
  rw[show aD (ak oEq (ak au bg b0) fk) (mσ S jj h (.shared n p tg sh mo) o j ah i rd o10 o11 o12) r=some (true,r) from rfl];show ak au eu (aI ax (af ir (af ef aj))) (mσ S jj h (.shared n p tg sh mo) o j ah i rd o10 o11 o12) r=_;rw[bK (d:=.bu i) (d':=own "view" j) (g1:=r) (g2:=r) rfl rfl];have f:aM A (own "view" j)=some c:=q;simp[v,l,f]
def Ub {b:Nat}{S:D}{jj:Int}{o10:Option D}{o11:Option D}(a:flat c=true)(i:dep c<=50)(v:Bd r)(s:i4 u X o x A (.tup [.str "told",c])):mE u (mσ S jj h X o j x b A o10 o11 (some c)) r=some (.nx,mσ S jj h X o j x b A o10 o11 (some c),r):=by
 have e:aq u (af bg (af d4 (af (aI ax (af jd aj)) (af eW (af ew aj))))) (mσ S jj h X o j x b A o10 o11 (some c)) r=some (.tup [.str "told",c],r):=s r v
 refine(cM (g1:=r) ?_).trans rfl;rw[dU,bK (d':=.tup [.str "told",c]) (g2:=r) e rfl,ne_self (by simp[flat,bJ,a]) (by simp only[dep,dM];omega)];rfl
variable {σ:Sg}{g g1 g2 g3:G}{a b c:FE}{d d' d'':D}{i j k:Nat}
def Uc (h:ab σ g=some (d,g1))(c:ac σ g1=some (d',g2))(e:ad σ g2=some (d'',g3)):rG ae ah ai (af ab (af ac (af ad aj))) σ g=some (.nx,((σ.set ae (some d)).set ah (some d')).set ai (some d''),g3):=by simp[h,c,e]
def Ra {hand A E O put:Fn}(hh:EI hand)(N:fg u)(Z:Q8 C)(P:oR y)(Q:tR A)(T:yD B)(K:∀M:MQ,M.Mv->∀r,E [M.d] r=some (.int (ig M),r))(L:Jy O)(J:Fo put)(hL:Q9 H){ns:List Int}{q:Nat}(Y:q<=100)(U:Bd r){o2 o3 o4 o5 o6 o7 o8 o9 o10 o11 o12:Option D}:
  l2 (QW hand C u y A B E O put H [some (.lst (ns.map .int)),some (.int q),o2,o3,o4,o5,o6,o7,o8,o9,o10,o11,o12] r) λtake=>take.1 = .nx/\(∃o2 o3 o4 o5 o6 o7 o8 o9 o10 o11 o12,take.2.1 = [some (.lst (ns.map .int)),some (.int q),o2,o3,o4,o5,o6,o7,o8,o9,o10,o11,o12])/\Bd take.2.2:=by
 obtain⟨xs,e1,iD⟩:=hh ns q r Y;obtain⟨M,g2,e2,c,hd2,f2⟩:=Z r.length _ 0 iD (by decide);have ok:=c.ok;have n1:=ok.n1;have n2:=c.n2;have n5:=ok.n5;have p5:=ok.p5;obtain⟨oi,g3,e3,o0,o1,jL,f3⟩:=N r.length M.n g2 _ (by decide) (by omega) (by omega) hd2;obtain⟨o,rfl⟩:∃k:Nat,oi=k:=⟨oi.toNat,(UI o0).symm⟩
 have ho:o<M.n:=by omega
 obtain⟨ri,e,e4,r0,r1,Js,f4⟩:=N r.length (M.n-1) g3 _ (by decide) (by omega) (by omega) jL;obtain⟨take,rfl⟩:∃k:Nat,ri=k:=⟨ri.toNat,(UI r0).symm⟩
 obtain⟨j,UD,x,jo⟩:∃j:Nat,((o:Int)+1+take) % M.n=j/\j<M.n/\j≠o:=by
  refine⟨(o+1+take) % M.n,by simp,Nat.mod_lt _ (by omega),?_⟩;by_cases h:o+1+take<M.n
  . rw[adP h];omega
  . rw[ahf (by omega),adP (by omega)];omega
 obtain⟨is,a,e5,il,Fh,f5⟩:=Q r.length M.p e _ (by omega) (by omega) Js;obtain⟨R,g6,e6,s,Wb,X⟩:=T M r.length a _ ok Fh (by omega);have l5:a.length=r.length+1:=by rw[f5.1,f4.1,f3.1,f2.1];simp
 have b6:Bd g6:=(((((U.hand iD).fr f2 hd2).fr f3 jL).fr f4 Js).fr f5 Fh).fr s Wb;have b7:Bd (g6 ++ [R]):=b6.app λg hy=>by simp at hy;subst hy;exact nk (ro _) X.nr
 have gb:(g6 ++ [R])[a.length]? = some R:=by rw[<- s.1];simp
 have ne:a.length≠r.length:=by omega
 have W:Wx M r.length a.length _ (g6 ++ [R]) R:=⟨gb,X,Hd.app (ys:=[R]) Wb,b7,ne⟩
 generalize ab:D.tup (is.map λ(i:Nat)=>D.int i)=ah at *;obtain⟨I,Iv,h0,hE⟩:=hL M o j ah c ho x jo;generalize hS:D.lst (ns.map .int)=S at *;have rn:=Q_ (S:=S) (jj:=q) (o10:=o10) (o11:=o11) (o12:=o12) Iv (K M c _) L J c x ho jo (h0 R X) (T_ c) W (by omega);have c1:aq hand (af a5 (af a6 aj)) [some S,some (.int q),o2,o3,o4,o5,o6,o7,o8,o9,o10,o11,o12] r=some (.ref r.length,r ++ [xs]):=e1
 have c4:ak (bt cD (· % ·)) (ak aJ (ak aJ d4 bh) (aq u (af a7 (af (ak (bt bV (· - ·)) (ak au bg bh) bh) aj)))) (ak au bg bh) [some S,some (.int q),some (.ref r.length),some M.d,some (.int o),some (.int M.p),o6,o7,o8,o9,o10,o11,o12] g3=some (.int j,e):=by
  have t:aq u (af a7 (af (ak (bt bV (· - ·)) (ak au bg bh) bh) aj)) [some S,some (.int q),some (.ref r.length),some M.d,some (.int o),some (.int M.p),o6,o7,o8,o9,o10,o11,o12] g3=some (.int take,e):=by cases M<;>exact e4
  have om:cD ((o:Int)+1+take) (M.n:Int)=true:=eQ (by omega);have e':=(bK (o:=aJ) (f:=ak aJ d4 bh) (d:=.int ((o:Int)+1)) (g1:=g3) rfl t).trans pd;have z:ak au bg bh [some S,some (.int q),some (.ref r.length),some M.d,some (.int o),some (.int M.p),o6,o7,o8,o9,o10,o11,o12] e=some (.int M.n,e):=by cases M<;>rfl
  rw[bK e' z];simp[bt,om,UD]
 have c5:aq A (af a7 (af ee aj)) [some S,some (.int q),some (.ref r.length),some M.d,some (.int o),some (.int M.p),some (.int j),o7,o8,o9,o10,o11,o12] e=some (ah,a):=e5;have c6:aq B (af a7 (af bg aj)) [some S,some (.int q),some (.ref r.length),some M.d,some (.int o),some (.int M.p),some (.int j),o7,o8,o9,o10,o11,o12] a=some (.bu a.length,g6 ++ [R]):=by rw[<- s.1];rw[s.1];exact e6
 obtain⟨⟨f,σ9,g9⟩,e9,q1,rd,places,a9,c9,q2,hI,l⟩:=rn;dsimp only at q1 q2 l;subst q1 q2;obtain⟨v,fv,dv,hv,sy⟩:=hE rd places hI l.X;have cv:=Ua (S:=S) (jj:=q) (h:=r.length) (o:=o) (ah:=ah) (rd:=rd) (o10:=a9) (o11:=c9) (o12:=o12) hv x l.gb;have ce:=Ub (S:=S) (jj:=q) (h:=r.length) (j:=j) (b:=a.length) (o10:=a9) (o11:=c9) fv dv l.bd sy;exact⟨_,bD c1 (bD (d:=M.d) (g1:=g2) e2 (bp (B0 (d:=.int o) (d':=.int M.p) (g1:=g3) (g2:=g3) (by cases M<;>exact e3) (P M g3)) (bD c4 (bp (Uc (d'':=.tup []) c5 c6 rfl) (bp e9 (bp cv ce)))))),rfl,⟨_,_,_,_,_,_,_,_,_,_,_,rfl⟩,l.bd⟩
def u_ {L:Nat}(h:i<Q):i*L+L<=Q*L:=by have:=ac7 L (show i+1<=Q from h);rw[tF]at this;omega
def lj.JD {L:Nat}(p:lj X o j L i Q h T O I t A l)(e:t=Q*L):∃rs n B,Cf X o Q h O I rs n B l/\A=eN T (rs ++ [(n,B)]):=by
 cases p with
 |go rs n B M q _ S r =>
  have:=S.hi;have:=u_ (L:=L) S.lt;omega
 |en rs n B _ E=>exact⟨rs,n,B,E,rfl⟩|vw rs n B _ c E u=>omega
def lj.Ud {L:Nat}(p:lj X o j L i Q h T O I t A l)(e:t=Q*L+1):∃rs n B c,Cf X o Q h O I rs n B l/\A=eN T (rs ++ [(n,B)]) ++ [c]/\aM l (own "view" j)=some c:=by
 cases p with
 |go rs n B M r _ S u =>
  have:=S.hi;have:=u_ (L:=L) S.lt;omega
 |en rs n B _ E=>omega|vw rs n B _ c E q=>exact⟨rs,n,B,c,E,rfl,q⟩
theorem tY {q e:Type}{f:q->e}{b:e}:∀{l:List q},(∀r∈l,f r=b)->l.map f=m6 l.length b
 | [],_=>rfl|x::l,h=>by rw[wk,h x rj,tY λr a=>h r (pP _ a)];rfl
def lq (h:i<j):(o*j+i) % j=i:=by rw[ag6,Nat.add_mul_mod_self_right,adP h]
def JE (S:Sm X o A l)(M:bW X l)(e:j<X.n):aM l (own "own" j)=some (aW A "own" j):=by rw[<- S.own e];exact Fq M e
def Wc (k:Nat)(ok:(MQ.signs i j h Q).Ok)(a:o<i):E3 (MQ.signs i j h Q).d i o j h Q (tab (k+8) 0) (tab (k+8) 1) (tab (k+8) 8) (tab (k+8) 9) (rs (tab (k+7))) (rs (tab (k+6))) "signs_look.lambda" "round_step_signs.lambda" :=
 ⟨⟨λg=>j2 (M:=.signs i j h Q) (k+6) g,λg=>aU rfl (cU rfl) rfl,λg=>Ck ok (k+5) g,λg=>JB ok (aU rfl (cU rfl) rfl),a,ok.n5⟩,λg=>aU rfl (cU rfl) rfl,rfl,rfl,rfl⟩
def Rb (k:Nat):tab (k+9) 16=av false 8 3 (Ap (tab (k+8) 0) (tab (k+8) 1) (tab (k+8) 9) (av false 10 5 (cK (rs (tab (k+7))))) (av false 6 3 (Ao (tab (k+8) 1) (tab (k+8) 9) (av false 5 4 (jy (rs (tab (k+6))))) "round_step_signs.lambda")) "signs_look.lambda"):=rfl
noncomputable abbrev PS (n o sh:Nat):List D->List D->List (D×D):=λA B=>iR A B n o sh
def GQ (n o j tg sh:Nat)(zs:List (List D×List D)):Prop:=∀r∈zs,jM n o tg sh (rS r.1 r.2 n o sh)= [j]
noncomputable def toS (n o sh:Nat)(zs:List (List D×List D)):List R3:=zs.map λr=>rS r.1 r.2 n o sh
def We:eN (PS i o j) Z=((toS i o j Z).map cN).flatten:=by unfold eN toS;rw[u6];exact congrArg _ (adn λr _=>Fj)
def Rc (g:GQ i o j h Q Z):(toS i o Q Z).map (jM i o h Q)=m6 Z.length [j]:=by unfold toS;rw[u6];exact tY g
def Rf (a:kM (.signs i j h Q) Z)(l:Z.length<=4):qd i o h (toS i o h Z):=⟨λq c=>by obtain⟨r,b,rfl⟩:=mO.mp c;exact Ce (a r b).1 (a r b).2,by simp[toS];omega⟩
def LW {ah:D}(k:Nat)(mv:(MQ.signs i h Q Y).Mv)(E:o<i)(C:j<i)(H:j≠o):sI (tab (k+11) 19) (.signs i h Q Y) o j ah (bP i o Q) (2*(aB i o Q).length+i+j) Y 0 0 (PS i o Q) (GQ i o j h Q) (Fl i o j h Q):=by
 have ok:=mv.ok;have F:=Wc k ok E;have z:i<=5:=ok.n5;have m4:Y<=4:=ok.m4;have y:(aB i o Q).length=Q*(i-1):=vS z E ok.s1;have I:∀{A B:List D},Fl i o j h Q A B->jM i o h Q (rS A B i o Q)= [j]:=λP=>yp P (mv.sg _ _ _ _ rfl) z E C H;refine⟨by unfold bP;omega,λtg=>absurd tg (by decide),ok.m1,λA B=>AO,λA B n x c f s _ tg hp=>Hx f s tg hp,λA B ag=>LR ag,λA B n Z w v v' tg J=>(yz tg).2.trans (yz J).2.symm,λzs A B n x c all g lt f s tg=>?_,λr a=>by simp at a,λzs A B all g l m q r a=>?_,λq n b=>?_,λA bx a_ f P S sg=>QQ P S C λhs=>?_,λzs A B e=>absurd e (by decide)⟩
 . have b:n<bP i o Q:=by
     have:=(m5.mp tg).1;rw[show(PS i o Q A B).length=bP i o Q from AO]at this;exact this
   have O:(sC i o Q (rS A B i o Q).1)[n]? = some x:=by show(sC i o Q (sG A i o Q))[n]? = _;rw[<- QN (B:=B),nP,show(iR A B i o Q)[n]? = _ from tg];rfl
   intro R _;obtain⟨x',u,p,e⟩:=E5 (g:=R) (rs:=toS i o Q zs) F (Rf all (by omega)) (Ce f s) b λk U=>by rw[Rc g];exact yB lt (by simpa[toS]using U)
   rw[O]at p;cases p;rw[<- Rb]at e
   rw[We,show(PS i o Q A B).map (·.2)=cN (rS A B i o Q) from Fj]
   exact kN (k+1) (AS (u:=u) (k+1) e)
 . rcases m3.mp a with a|a
   . exact g r a
   . simp at a;subst a
     rcases m with⟨tg,_⟩|⟨_,tg⟩
     . omega
     . exact I tg
 . have L_:bP i o Q=2*(Q*(i-1))+2*i:=by unfold bP;rw[y]
   have:(q*bP i o Q+n) % bP i o Q=n:=lq b;unfold iE;dsimp only;rw[<- L_,this,y];omega
 . obtain⟨n,b,w⟩:=Q0 (A:=A) hs C H
   exact sg n j _ b w
def LX {ah:D}(k:Nat)(mv:(MQ.signs i h Q Y).Mv)(H:o<i)(C:j<i)(J:j≠o):∃I,Vl (tab (k+11) 19) (.signs i h Q Y) o j ah (ig (.signs i h Q Y)) I/\(∀p,bW (.signs i h Q Y) p->I 0 [] p) /\ ∀O p,I (ig (.signs i h Q Y)) O p->bW (.signs i h Q Y) p->∃v,flat v=true/\dep v<=50/\baW (.signs i h Q Y) j p v/\i4 (tab (k+11) 19) (.signs i h Q Y) o ah O (.tup [.str "told",v]):=by
 have ok:=mv.ok;have s:i<=5:=ok.n5;have z:1<=Y:=ok.m1;have m4:Y<=4:=ok.m4;have F:=Wc k ok H;have R:=LW (ah:=ah) k mv H C J;have U:ig (.signs i h Q Y)=Y*bP i o Q:=by show Y*(2*i+2*(Q*(i-1)))=Y*(2*(aB i o Q).length+2*i);rw[vS s H (show Q<=1 from ok.s1),ag6 (2*i)]
 rw[U];refine⟨_,R.inv H C (by decide) λA B n w v tg=>(yz tg).1,λp X=>R.zero X,λO p tg X=>?_⟩;obtain⟨zs,A,B,E,rfl⟩:=tg.JD rfl;have P:Fl i o j h Q A B:=by
  rcases E.mv with⟨tg,_⟩|⟨_,tg⟩
  . omega
  . exact tg
 have lt:=E.lt;have Z:jM i o h Q (rS A B i o Q)= [j]:=yp P (mv.sg _ _ _ _ rfl) s H C J;have rep:(toS i o Q zs ++ [rS A B i o Q]).map (jM i o h Q)=m6 Y [j]:=by rw[wi,Rc E.g,afl,Z,<- lt,agM]
 have zl:(toS i o Q zs).length=Y-1:=by simp[toS];omega
 have l:SC i (aW B "own" j):=my E.XB C;have q:=JE E.sm X C;have u:∀a,tab (k+9+1+1) 19 [(MQ.signs i h Q Y).d,.int o,vP,ah,.tup (eN (PS i o Q) (zs ++ [(A,B)]))] a=some (.tup [.str "told",cW (aW B "own" j)],a):=λa=>by
  have e:=E6 (g:=a) (rs:=toS i o Q zs) (r:=rS A B i o Q) (rest:=[]) (en:=some j) (rstep:=av false 6 3 (Ao (tab (k+8) 1) (tab (k+8) 9) (av false 5 4 (jy (rs (tab (k+6))))) "round_step_signs.lambda")) F (Rf E.all (by omega)) (Ce E.XA E.XB) (by omega) (by simp) (λk hk=>by rw[rep];exact u9 (by omega)) (by rw[rep,zl];exact yC z) (λn e=>by cases e;exact C);rw[<- Rb,wz,show ba1 (rS A B i o Q).2.2 (some j)=cW (aW B "own" j) by show cW ((fq B i).getD j .ay)=_;rw[mw C]]at e;have f:eN (PS i o Q) (zs ++ [(A,B)])=((toS i o Q zs ++ [rS A B i o Q]).map cN).flatten:=by rw[We];simp[toS]
  rw[f];exact kN (k+1) (AS (k+1) e)
 generalize aW B "own" j=c at l q u;cases l with
 |mk v bs t x hv hb hw y =>
  have b:=kJ y;exact⟨.tup x,b.1,pe b.2 (by decide),⟨_,q,rfl⟩,λa _=>u a⟩
def Wf (k:Nat)(ok:(MQ.shared i j h Q Y).Ok)(a:o<i):jN (MQ.shared i j h Q Y).d i j o h Q Y (tab (k+8) 0) (tab (k+8) 2) (tab (k+8) 8) (tab (k+8) 9):=
 ⟨λg=>Q6 (M:=.shared i j h Q Y) (k+5) g,λg=>aU rfl (cU rfl) rfl,λg=>aU rfl (cU rfl) rfl,λg=>Ck ok (k+5) g,λg=>JB ok (aU rfl (cU rfl) rfl),a,ok.n5,ok.p1,ok.p4 _ _ _ _ _ rfl,rfl⟩
def HC (k:Nat):tab (k+9) 11=av false 6 3 (yf (tab (k+8) 0) (tab (k+8) 2) (tab (k+8) 9) (av false 10 5 (cK (rs (tab (k+7))))) (av false 6 3 (xQ (tab (k+8) 9) (tab (k+8) 3) (av false 5 4 (jy (rs (tab (k+6))))) "round_step_shared.lambda")) (av false 4 3 (uZ (tab (k+8) 2) (tab (k+8) 9))) "shared_look.lambda" yi):=rfl
def HD (k:Nat):rs (tab (k+7)) "shared_look.lambda" = some (cY (bN 2 1 (oO (qh (tab (k+8) 0) (tab (k+8) 2) (tab (k+8) 8) (tab (k+8) 9))))):=rfl
def Ue (k:Nat):rs (tab (k+6)) "round_step_shared.lambda" = some (cY (bN 0 1 a5)):=rfl
noncomputable abbrev PH (n p o sh:Nat):List D->List D->List (D×D):=λA B=>iG A B n p o sh
def GU (n p o j tg sh:Nat)(zs:List (List D×List D)):Prop:=∀r∈zs,iQ n o tg sh (rH r.1 r.2 n p o sh)= [j]
noncomputable def jC (n p o sh:Nat)(zs:List (List D×List D)):List R4:=zs.map λr=>rH r.1 r.2 n p o sh
def Wh:eN (PH i j o h) Z=((jC i j o h Z).map fj).flatten:=by unfold eN jC;rw[u6];exact congrArg _ (adn λr _=>yq)
def Ri (g:GU i h o j Q Y Z):(jC i h o Y Z).map (iQ i o Q Y)=m6 Z.length [j]:=by unfold jC;rw[u6];exact tY g
def HE (a:kM (.shared i j h Q Y) Z)(l:Z.length<=4):mq i j o Q (jC i j o Q Z):=⟨λq c=>by obtain⟨r,b,rfl⟩:=mO.mp c;exact vQ (a r b).1 (a r b).2,by simp[jC];omega⟩
def JF (mv:(MQ.shared i h Q Y t).Mv)(q:o<i)(zs:j<i)(B:j≠o)(a:kM (.shared i h Q Y t) Z)(g:GU i h o j Q Y Z)(P:yr i h o j A l)(lt:Z.length+1=t):(jC i h o Y Z).length=t-1/\(∀k,k<(jC i h o Y Z).length->fH (.int t) ((jC i h o Y Z ++ [rH A l i h o Y]).map (iQ i o Q Y)) k)/\jV (.int t) ((jC i h o Y Z ++ [rH A l i h o Y]).map (iQ i o Q Y)) (jC i h o Y Z).length (some j)/\eN (PH i h o Y) (Z ++ [(A,l)])=allR (jC i h o Y Z) (rH A l i h o Y):=by
 obtain⟨b,e⟩:=mv.sd _ _ _ _ _ rfl;subst b e;have ok:=mv.ok;have f:1<=t:=ok.m1;have c:iQ i o 1 1 (rH A l i h o 1)= [j]:=u7 P ok.n5 q zs B;have rep:(jC i h o 1 Z ++ [rH A l i h o 1]).map (iQ i o 1 1)=m6 t [j]:=by rw[wi,Ri g,afl,c,<- lt,agM]
 have zl:(jC i h o 1 Z).length=t-1:=by simp[jC];omega
 refine⟨zl,λk n=>?_,?_,?_⟩
 . rw[rep];exact u9 (by omega)
 . rw[rep,zl];exact yC f
 . rw[yu,Wh,show(PH i h o 1 A l).map (·.2)=fj (rH A l i h o 1) from yq];simp[allR]
def HF {p:Nat}{ah:D}(k:Nat)(mv:(MQ.shared i p h Q Y).Mv)(C:o<i)(E:j<i)(H:j≠o):sI (tab (k+11) 19) (.shared i p h Q Y) o j ah (bG i p o Q) (2*(aB i o Q).length+p) Y 0 1 (PH i p o Q) (GU i p o j h Q) (yr i p o j):=by
 have ok:=mv.ok;have S:=Wf (o:=o) k ok C;have J:∀g,tab (k+8) 3 [(MQ.shared i p h Q Y).d] g=some (.tup (fD p),g):=λg=>T9 ok (k+4) g;have n5:i<=5:=ok.n5;have m4:Y<=4:=ok.m4;have p1:1<=p:=ok.p1;have z:Q=1:=(mv.sd _ _ _ _ _ rfl).2;have sl:(aB i o Q).length=i-1:=by rw[vS n5 C (show Q<=1 by omega),z];omega
 have O:∀{A B:List D},yr i p o j A B->iQ i o h Q (rH A B i p o Q)= [j]:=λP=>by rw[z];exact u7 P n5 C E H
 refine⟨by unfold bG;omega,λ_=>by omega,ok.m1,λA B=>AR,λA B n x c b f _ tg hp=>Hz b f C tg hp,λA B _=>LU,λA B n i' w v v' tg R=>(yA tg).2.trans (yA R).2.symm,λzs A B n x c all g lt b f tg=>?_,λr a=>by simp at a,λzs A B all g l m q r a=>?_,λq n s=>?_,λA bx a_ b P S sg=>QR P S E C ?_,λzs A B e all g l b f m q=>?_⟩
 . have s:n<bG i p o Q:=by
     have:=(m5.mp tg).1;rw[show(PH i p o Q A B).length=bG i p o Q from AR]at this;exact this
   have U:(Rr i p o Q (rH A B i p o Q).1)[n]? = some x:=by show(Rr i p o Q (oT A i o Q))[n]? = _;rw[<- QP (B:=B),nP,show(iG A B i p o Q)[n]? = _ from tg];rfl
   intro y _;obtain⟨x',u,I,e⟩:=B9 (g:=y) (rs:=jC i p o Q zs) (scF:=av false 4 3 (uZ (tab (k+8) 2) (tab (k+8) 9))) (X:=yi) (HD k) (Ue k) S J (HE all (by omega)) (vQ b f) s λk Z=>by rw[Ri g];exact yB lt (by simpa[jC]using Z)
   rw[U]at I;cases I;rw[<- HC]at e
   rw[Wh,show(PH i p o Q A B).map (·.2)=fj (rH A B i p o Q) from yq]
   exact kN (k+1) (qH (u:=u) (k+1) e)
 . rcases m3.mp a with a|a
   . exact g r a
   . simp at a;subst a
     rcases m with⟨tg,_⟩|⟨_,tg⟩
     . omega
     . exact O tg
 . have L_:bG i p o Q=3*(i-1)+2*p:=by unfold bG;rw[sl]
   have:(q*bG i p o Q+n) % bG i p o Q=n:=lq s;unfold iE;dsimp only;rw[<- L_,this,sl];omega
 . obtain⟨n,s,w⟩:=Q3 (p:=p) (A:=A) z E H
   exact sg n j _ s w
 . have P:yr i p o j A B:=by
     rcases m with⟨tg,_⟩|⟨_,tg⟩
     . omega
     . exact tg
   obtain⟨zl,e1,e2,e3⟩:=JF mv C E H all g P q;intro y _;obtain⟨u,e⟩:=B_ (g:=y) (scF:=av false 4 3 (uZ (tab (k+8) 2) (tab (k+8) 9))) (step:=av false 6 3 (xQ (tab (k+8) 9) (tab (k+8) 3) (av false 5 4 (jy (rs (tab (k+6))))) "round_step_shared.lambda")) (HD k) S (HE all (by omega)) (vQ b f) (by omega) e1 e2;rw[<- HC]at e;rw[e3];exact kN (k+1) (qH (k+1) e)
def HG {ah:D}(k:Nat)(mv:(MQ.shared i h Q Y t).Mv)(x:o<i)(y:j<i)(z:j≠o):∃I,Vl (tab (k+11) 19) (.shared i h Q Y t) o j ah (ig (.shared i h Q Y t)) I/\(∀C,bW (.shared i h Q Y t) C->I 0 [] C) /\ ∀H C,I (ig (.shared i h Q Y t)) H C->bW (.shared i h Q Y t) C->∃v,flat v=true/\dep v<=50/\baW (.shared i h Q Y t) j C v/\i4 (tab (k+11) 19) (.shared i h Q Y t) o ah H (.tup [.str "told",v]):=by
 have ok:=mv.ok;have r:i<=5:=ok.n5;have u:t<=4:=ok.m4;have S:=Wf (o:=o) k ok x;have R:=HF (ah:=ah) k mv x y z;have J:ig (.shared i h Q Y t)=t*bG i h o Y+1:=by show t*(2*h+3*(Y*(i-1)))+1=t*bG i h o Y+1;unfold bG;rw[vS r x (show Y<=1 from ok.s1)];congr 2;omega
 rw[J];refine⟨_,R.inv x y (by decide) λA B n w v p=>(yA p).1,λC X=>R.zero X,λH C p X=>?_⟩;obtain⟨zs,A,B,c,E,rfl,b⟩:=p.Ud rfl;have P:yr i h o j A B:=by
  rcases E.mv with⟨p,_⟩|⟨_,p⟩
  . omega
  . exact p
 have lt:=E.lt;obtain⟨zl,l,s,q⟩:=JF mv x y z E.all E.g P lt;obtain⟨O,rfl,wl,U⟩:=(X.ck _ c (.view j y) b).1.vw j rfl;have a:=kJ U;refine⟨_,a.1,pe a.2 (by decide),b,λf _=>?_⟩;have e:=Ca (g:=f) (v:=.tup O) (rest:=[]) (scF:=av false 4 3 (uZ (tab (k+8) 2) (tab (k+8) 9))) (step:=av false 6 3 (xQ (tab (k+8) 9) (tab (k+8) 3) (av false 5 4 (jy (rs (tab (k+6))))) "round_step_shared.lambda")) (HD k) S (HE E.all (by omega)) (vQ E.XA E.XB) (by omega) a.1 (by simp) l s;rw[<- HC]at e;rw[q];exact kN (k+1) (qH (k+1) e)
noncomputable abbrev PN (n:Nat):List D->List D->List (D×D):=λA B=>oU A B n
noncomputable def cls (n:Nat)(zs:List (List D×List D)):List (List D):=zs.map λr=>fq r.2 n
def AU (j:Nat)(c:List (List D)):Prop:=∀i,i+1<c.length->bH (c.getD i []) (c.getD (i+1) [])= [j]
def Rk (n j:Nat)(A B:List D):Prop:=(∀w,w<n->w≠j->aW B "own" w=aW A "own" w)/\num (aW B "own" j)=num (aW A "own" j)+1
def Wi:eN (PN i) Z=(cls i Z).flatten:=by unfold eN cls;exact congrArg _ (adn λr _=>Fs)
theorem Cm {c:List (List D)}(h:AU j c):∀{k:Nat},k+1<=c.length->A4 c k j=k
 | 0,_=>rfl|k+1,i=>by simp only[A4];rw[Cm h (by omega),h k (by omega)];simp
def Fu (h:AU j E)(a:i+1<E.length)(b:i+1<o):Goes (.int o) E i:=by
 unfold Goes;rw[h i a];refine⟨by simp,?_⟩;unfold eJ;have:¬((i:Int)+1=(o:Int)):=by omega
 simp[Cm h (show i+1+1<=E.length by omega),bF,this]
def Rl (h:AU j E)(b:E.length=i+1)(c:1<=i):oJ (.int i) E (i-1) (some j):=by
 have e:i-1+1=i:=by omega
 have:=h (i-1) (by omega);unfold oJ;rw[e]at this ⊢;rw[this];have:eJ (A4 E i) (.int i) [j]= [j]:=by unfold eJ;simp[Cm h (show i+1<=E.length by omega),bF]
 rw[this];exact⟨by simp,by simp,λk a=>by simp at a;omega⟩
def yE (e:i<=5)(c:j<i)(g:AU j (cls i Z))(B:Fp Z A)(m:(Z.length<1/\A=l)\/(1<=Z.length/\Rk i j A l)):AU j (cls i (Z ++ [(A,l)])):=λzs b=>by
 have ec:cls i (Z ++ [(A,l)])=cls i Z ++ [fq l i]:=by simp[cls]
 have el:(cls i Z).length=Z.length:=by simp[cls]
 rw[ec]at b ⊢;rw[nN,aeH,el]at b;rw[qa,qa];by_cases h:zs+1<Z.length
 . rw[ra (by omega),ra (by omega),<- qa,<- qa]
   exact g zs (by omega)
 . have a:zs+1=Z.length:=by omega
   have P:Rk i j A l:=by
    rcases m with⟨m,_⟩|⟨_,m⟩
    . omega
    . exact m
   rw[ra (by omega),wm (by omega),el,a,Vt];have gl:(cls i Z)[zs]? = some (fq A i):=by
    have:Z[zs]? = Z.getLast?:=by rw[List.getLast?_eq_getElem?];congr 1;omega
    unfold cls;rw[nP,this];cases hq:Z.getLast? with
    |none=>rw[List.getLast?_eq_none_iff]at hq;subst hq;simp at a|some r=>rw[Ol,B r hq]
   rw[gl];exact Fm P.1 P.2 e c
def Rm (ok:(MQ.handed i o j).Ok)(a:kM (.handed i o j) Z)(l:Z.length<=14):oM i (cls i Z):=by
 have zs:i<=5:=ok.n5;refine⟨λc h=>?_,λc h x b=>?_,ok.n1,by omega,?_⟩
 . obtain⟨r,_,rfl⟩:=mO.mp h;simp[fq]
 . obtain⟨r,f,rfl⟩:=mO.mp h
   obtain⟨w,hw,rfl⟩:=mO.mp b;obtain⟨v,y,n,e,_⟩:=my (a r f).2 (ug.mp hw);exact⟨v,y,_,e⟩
 . have:(cls i Z).length=Z.length:=by simp[cls]
   rw[this];exact pe (Vy l zs) (by decide)
def e5 (k:Nat):tab (k+9) 5=av false 6 2 (oN "renumbered" (tab (k+8) 1) (av false 10 5 (cK (rs (tab (k+7))))) (tab (k+8) 6)):=rfl
def Wj (k:Nat):rs (tab (k+7)) "renumbered" = some (av false 2 1 oI):=rfl
def AV {tu:Nat}{mo:Nat}(k:Nat)(g:G):tab (k+8) 6 [(MQ.handed i tu mo).d] g=some (.int mo,g):=by have c:tab (k+7) 0 [(MQ.handed i tu mo).d,.str "moves"] g=some (.int mo,g):=aU rfl (cU rfl) rfl;show av false 1 1 (V9 (tab (k+7))) _ g=_;refine aU rfl (cU (g1:=g) (d:=.int mo) ?_) rfl;show lA _ _ _ [some (MQ.handed i tu mo).d] g=_;rw[sX,show aD (ak oEq (ak au a5 b0) gD) [some (MQ.handed i tu mo).d] g=some (true,g) from rfl];exact c
def HH {tu:Nat}{mo:Nat}{ah:D}(k:Nat)(mv:(MQ.handed i tu mo).Mv)(H:o<i)(C:j<i)(E:j≠o):sI (tab (k+11) 19) (.handed i tu mo) o j ah i j (mo+1) 1 0 (PN i) (λzs=>AU j (cls i zs)) (Rk i j):=by
 have ok:=mv.ok;have r:i<=5:=ok.n5;have m4:mo<=4:=ok.m4;refine⟨C,λh=>absurd h (by decide),by omega,λA B=>AQ,λA B n x c f b _ h hp=>Hy b h,λA B s=>LS s,λA B n I w v J h O=>(Ft h).elim,λzs A B n x c all g lt f b h=>?_,λn a=>by simp[cls]at a,λzs A B all g l m q=>yE r C g l m,λq n a=>?_,λA Q a_ f P S y=>QS P S C,λzs A B e=>absurd e (by decide)⟩
 . obtain⟨rfl,a⟩:=Q1 h
   intro u bd;have el:(cls i zs).length=zs.length:=by simp[cls]
   have p:((fq B i).take n).length=n:=by rw[yN];simp[fq];omega
   have R:=Rm ok all (by omega);have e:=LD (rest:=(fq B i).take n) (λg=>j2 (M:=.handed i tu mo) (k+6) g) (λg=>AV (tu:=tu) (mo:=mo) k g) (Wj k) xS R rfl (by rw[p];exact a) bd λn a=>Fu g a (by omega);rw[nN,eR (λc h=>R.len c h),p,el,show(zs.length*i+n) % (MQ.handed i tu mo).n=n from lq a,<- e5]at e
   rw[Wi,show(PN i A B).map (·.2)=fq B i from Fs]
   exact kN (k+1) (JC (o:=o) (k+1) e)
 . have:(q*i+n) % i=n:=lq a
   unfold iE;dsimp only;rw[this];have:i<=q*i+n ↔ 1<=q:=by
    constructor
    . intro h
      refine ac5 λz=>?_;have:q=0:=by omega
      subst this;omega
    . intro h
      have:=ac7 i h;omega
   rw[this]
def HI {tu:Nat}{mo:Nat}{ah:D}(k:Nat)(mv:(MQ.handed i tu mo).Mv)(H:o<i)(C:j<i)(J:j≠o):∃I,Vl (tab (k+11) 19) (.handed i tu mo) o j ah (ig (.handed i tu mo)) I/\(∀p,bW (.handed i tu mo) p->I 0 [] p) /\ ∀O p,I (ig (.handed i tu mo)) O p->bW (.handed i tu mo) p->∃v,flat v=true/\dep v<=50/\baW (.handed i tu mo) j p v /\ ∀g,Bd g->tab (k+11) 19 [(MQ.handed i tu mo).d,.int o,vP,ah,.tup O] g=some (.tup [.str "told",v],g):=by
 have ok:=mv.ok;have u:i<=5:=ok.n5;have z:1<=mo:=ok.m1;have m4:mo<=4:=ok.m4;have R:=HH (ah:=ah) k mv H C J;have U:ig (.handed i tu mo)=(mo+1)*i:=XG i (mo+1);rw[U];refine⟨_,R.inv H C (by decide) λA B n w v h=>(Ft h).elim,λp X=>R.zero X,λO p h X=>?_⟩;obtain⟨zs,A,B,E,rfl⟩:=h.JD rfl;have lt:=E.lt;have st:=yE u C E.g E.lst E.mv;have cl:(cls i (zs ++ [(A,B)])).length=mo+1:=by simp[cls];omega
 have q:kM (.handed i tu mo) (zs ++ [(A,B)]):=λr a=>by
  rcases m3.mp a with a|a
  . exact E.all r a
  . simp at a;subst a;exact⟨E.XA,E.XB⟩
 have s:=Rm ok q (by simp;omega);have l:=JE E.sm X C;obtain⟨v,x,Q,f,hv,wl,Y⟩:=my E.XB C;rw[f]at l;have b:=kJ Y;refine⟨.tup Q,b.1,pe b.2 (by decide),⟨_,l,rfl⟩,λg' bd=>?_⟩;have e:=LF (rest:=[]) (en:=some j) (λg=>j2 (M:=.handed i tu mo) (k+6) g) (λg=>AV (tu:=tu) (mo:=mo) k g) (Wj k) xS s rfl bd (by omega) (λn hi=>Fu st (by omega) (by omega)) (by rw[cl];exact Rl st cl z) λ_ c Z x hx=>by obtain⟨r,a,rfl⟩:=mO.mp Z;obtain⟨w,hw,rfl⟩:=mO.mp hx;obtain⟨v,y,Q,e,_⟩:=my (q r a).2 (ug.mp hw);exact⟨v,y,_,e⟩
 rw[wz,<- e5,cl,show lF ((cls i (zs ++ [(A,B)])).getD (mo+1-1) []) (some j)= .tup Q by
  have:(cls i (zs ++ [(A,B)])).getD (mo+1-1) []=fq B i:=by rw[qa,show mo+1-1=zs.length by omega];simp[cls]
  rw[this];show VF ((fq B i).getD j .ay)=_;rw[mw C,f];rfl]at e
 rw[Wi];exact kN (k+1) (JC (o:=o) (k+1) e)
def Ug (k:Nat):Q9 (tab (k+11) 19):=λM o j f b a c e=>by
 cases M with
 |handed n tu mo=>exact HI k b a c e|signs n tg sh mo=>exact LX k b a c e|shared n p tg sh mo=>exact HG k b a c e
def AW (k:Nat):fg (tab (k+1) 22):=Lw
def Rn (k:Nat):jv (tab (k+2) 23):=Ly (AW k)
def Ro (k:Nat):l7 (tab (k+3) 24):=LB (AW (k+1)) (Rn k)
def okM (k:Nat):Q8 (tab (k+3) 30):=YK (AW (k+1)) (Rn k)
def Rp (k:Nat):oR (tab (k+1) 25):=TU
def Wk (k:Nat):mr (tab (k+4) 26):=Ff (Ro k)
def okB (k:Nat):yD (tab (k+6) 28):=LV (take:=tab (k+4) 22) (value:=tab (k+4) 24) (places:=tab (k+5) 25) (state:=tab (k+4) 26) (AW (k+3)) (Ro (k+1)) (Wk k) (Rp (k+4))
def okW (k:Nat):Fo (tab (k+5) 31):=λM h b j o g B l ok e a i X c ne hd bd f=>T4 (take:=tab (k+4) 22) (value:=tab (k+4) 24) (places:=tab (k+4) 25) (state:=tab (k+4) 26) (AW (k+3)) (Ro (k+1)) (Wk k) (Rp (k+3)) ok e a i X c ne hd bd f
def okA (k:Nat):tR (tab (k+3) 29):=Hf (Rn k)
def HJ (ns:List Int)(A:ns.length<=63):∃n,tab 60 34 [.lst (ns.map .int)] []=some (.bl true,n):=by
 have p:l2 (tab 60 34 [.lst (ns.map .int)] []) λq=>q.1 = .bl true:=by
  show l2 (av false 13 1 (HA (tab 59)) _ _) _;refine jY rfl ?_;have u:HA (tab 59)=az (fO (iz (af (ak aJ fo (aq ((jU lC iA)) (af (fC (.int 6)) (af (aq bM (af a5 aj)) aj)))) aj)) (gN 1) (QW (tab 59 21) (tab 59 30) (tab 59 22) (tab 59 25) (tab 59 29) (tab 59 28) (tab 59 33) (tab 59 32) (tab 59 31) (tab 59 19))) (aK ko):=rfl;rw[u];have o:∀a b:Int,∀g:G,jU lC iA [.int a,.int b] g=some (.int (if b<a then b else a),g):=λa b g=>rfl;simp[o];refine ng ?_;simp[o];have C:(if(ns.length:Int)<6 then(ns.length:Int)else 6)<=6/\0<=(if(ns.length:Int)<6 then(ns.length:Int)else 6):=by split<;>omega
  refine⟨by omega,by omega,pf (λj σ g=>(∃k o2 o3 o4 o5 o6 o7 o8 o9 o10 o11 o12,σ = [some (.lst (ns.map .int)),k,o2,o3,o4,o5,o6,o7,o8,o9,o10,o11,o12])/\Bd g) _ 0 _ _ ⟨⟨_,_,_,_,_,_,_,_,_,_,_,_,rfl⟩,λi E e=>by simp at e⟩ ?_ ?_⟩
  . rintro j d σ g r ⟨⟨k,o2,o3,o4,o5,o6,o7,o8,o9,o10,o11,o12,rfl⟩,v⟩
    obtain⟨y,rfl⟩:=gW r;obtain⟨⟨f,B,g2⟩,e,l,⟨H,I,p4,p5,J,O,Q,z,x,s,VE,h⟩,bd⟩:=Ra (ns:=ns) (q:=j) (hand:=tab 59 21) Lz (AW 58) (okM 56) (Rp 58) (okA 56) (okB 53) (λM c g=>T2 c) (λM g t j c=>T3 c) (okW 54) (Ug 48) (by omega) v (o2:=o2) (o3:=o3) (o4:=o4) (o5:=o5) (o6:=o6) (o7:=o7) (o8:=o8) (o9:=o9) (o10:=o10) (o11:=o11) (o12:=o12);dsimp only at l h bd;subst l h;exact⟨_,rfl,_,e,⟨_,_,_,_,_,_,_,_,_,_,_,_,rfl⟩,bd⟩
  . rintro σ g _
    simp[bT]
 obtain⟨⟨d,n⟩,e,rfl⟩:=p;exact⟨n,e⟩
end
section
open PyProof.Rows
variable {Y M O X J:Array (Option Value)}{e h T i c:Addr}
def walk {l:YP}{j:(Str->Option Value)->Heap->Prop}{b:World->Heap->Prop}{d:DefRec}{K:Params->n3}(k:l.most=some 63)(o:d.params.defaults = [])(r:d.name = "law")(e:∀(w:World) (h:Heap),b w h->(K w.params).In h /\ ∀P∈U,h.get? P=some (Rh #[]))(F:∀(w:World) (mg:Str->Option Value) (h:Heap),(K w.params).In h->h.Ns tc mg->At (K w.params) U w mg mo):
  agQ q Z j b l.row.toRowW d [] (λf c=>agF f c):=
 Lp (i:=34) (R:=60) (x:="_law_script") k ⟨rfl,by decide,by decide,rfl⟩ o r e F rfl rfl rfl rfl good (by decide +kernel) HJ
def yM {K:n3}{mg:Str->Option Value}{n:_}{p:_}{b:Addr}{S:_}{o:_}{R:_}{Q:_}{x:_}{C:_}{U:_}{N:_}{y:_}{E:_}{B:_}{ar:_}{L:_}{H:_}{I:_}{A:_}{w:_}{aS:_}{ai:_}{P:Array (Option Value)}{l:_}{k:_}{q:_}{s:_}{z:_}{ag:_}{W:_}{u:_}{r:_}(a0:Nf K tc "NUMBERS" = some (some (.ref T)))(aY:K.lookup T=some ⟨.type "dict",none,.dict #[⟨Z_ v.params "once",.str "once" p,.ref b⟩,⟨Z_ v.params "twice",.str "twice" R,.ref e⟩,⟨Z_ v.params "handed",.str "handed" U,.ref h⟩,⟨Z_ v.params "signs",.str "signs" ar,.ref f⟩,⟨Z_ v.params "shared",.str "shared" aS,.ref i⟩,⟨Z_ v.params "tables",.str "tables" ag,.ref c⟩] n,#[]⟩)(ay:K.lookup b=some ⟨.type "tuple",none,.seq #[(.str "hands" o)] S,Y⟩)(j:K.lookup e=some ⟨.type "tuple",none,.seq #[(.str "hands" x),(.str "turn" C)] Q,X⟩)(ab:K.lookup h=some ⟨.type "tuple",none,.seq #[(.str "hands" y),(.str "turn" E),(.str "moves" B)] N,M⟩)(aH:K.lookup f=some ⟨.type "tuple",none,.seq #[(.str "hands" H),(.str "toggles" I),(.str "shakes" A),(.str "moves" w)] L,O⟩)(aw:K.lookup i=some ⟨.type "tuple",none,.seq #[(.str "hands" l),(.str "places" k),(.str "toggles" q),(.str "shakes" s),(.str "moves" z)] ai,P⟩)(Z:K.lookup c=some ⟨.type "tuple",none,.seq #[(.str "hands" u),(.str "boxes" r)] W,J⟩)(a3:(T == Qm)=false):∃a,Nf K tc "NUMBERS" = some (some (.ref a)) /\ ∀lx,i_ v ⟨K,v,mg,lx⟩ a lE:=⟨_,a0,λlx=>⟨⟨_,_,_,aY,⟨rfl,rfl,rfl⟩,rfl,⟨_,_,_,rfl,⟨_,rfl⟩,rfl,⟨.ref b,rfl,.inr ⟨_,_,_,_,_,rfl,by rfl,rfl,ay,rfl,rfl,rfl,(show 1<=mK by decide),.cons ⟨_,rfl⟩ (.nil)⟩⟩,⟨_,_,_,rfl,⟨_,rfl⟩,rfl,⟨.ref e,rfl,.inr ⟨_,_,_,_,_,rfl,by rfl,rfl,j,rfl,rfl,rfl,(show 2<=mK by decide),.cons ⟨_,rfl⟩ (.cons ⟨_,rfl⟩ (.nil))⟩⟩,⟨_,_,_,rfl,⟨_,rfl⟩,rfl,⟨.ref h,rfl,.inr ⟨_,_,_,_,_,rfl,by rfl,rfl,ab,rfl,rfl,rfl,(show 3<=mK by decide),.cons ⟨_,rfl⟩ (.cons ⟨_,rfl⟩ (.cons ⟨_,rfl⟩ (.nil)))⟩⟩,⟨_,_,_,rfl,⟨_,rfl⟩,rfl,⟨.ref f,rfl,.inr ⟨_,_,_,_,_,rfl,by rfl,rfl,aH,rfl,rfl,rfl,(show 4<=mK by decide),.cons ⟨_,rfl⟩ (.cons ⟨_,rfl⟩ (.cons ⟨_,rfl⟩ (.cons ⟨_,rfl⟩ (.nil))))⟩⟩,⟨_,_,_,rfl,⟨_,rfl⟩,rfl,⟨.ref i,rfl,.inr ⟨_,_,_,_,_,rfl,by rfl,rfl,aw,rfl,rfl,rfl,(show 5<=mK by decide),.cons ⟨_,rfl⟩ (.cons ⟨_,rfl⟩ (.cons ⟨_,rfl⟩ (.cons ⟨_,rfl⟩ (.cons ⟨_,rfl⟩ (.nil)))))⟩⟩,⟨_,_,_,rfl,⟨_,rfl⟩,rfl,⟨.ref c,rfl,.inr ⟨_,_,_,_,_,rfl,by rfl,rfl,Z,rfl,rfl,rfl,(show 2<=mK by decide),.cons ⟨_,rfl⟩ (.cons ⟨_,rfl⟩ (.nil))⟩⟩,rfl⟩⟩⟩⟩⟩⟩⟩,a3⟩⟩
end
open PySem.W PyProof.Rows
namespace PySem.W.Fast
theorem te17866643142603199591:1=1:=rfl
theorem tw7649599903124469035:1=1:=rfl
theorem tw5517273926286105038:1=1:=rfl
theorem tw10385611101695001538:1=1:=rfl
theorem tw2967026654132267071:1=1:=rfl
theorem tw12157241237098633163:1=1:=rfl
theorem tw13910186155018907637:1=1:=rfl
theorem tw6742970174828960957:1=1:=rfl
theorem tw719153395062653015:1=1:=rfl
theorem tw2701136933028053685:1=1:=rfl
theorem tw11029492312063952595:1=1:=rfl
theorem tw13239075731490095142:1=1:=rfl
theorem tw13775228031410881474:1=1:=rfl
theorem tw14950085037523508656:1=1:=rfl
theorem tw11744687653116794054:1=1:=rfl
theorem tw8863959855174275779:1=1:=rfl
theorem tw9728870577591553754:1=1:=rfl
theorem tw7500441765773941427:1=1:=rfl
theorem tw10180795876649244585:1=1:=rfl
theorem tw12547599341962703616:1=1:=rfl
theorem tw7303268506963779591:1=1:=rfl
theorem tw17490323890714124625:1=1:=rfl
theorem tw12058604122915156652:1=1:=rfl
theorem tw8364442138664603300:1=1:=rfl
theorem tw10872507362735413196:1=1:=rfl
theorem tw15799123019206963339:1=1:=rfl
theorem tw17490497655143768839:1=1:=rfl
theorem tw11282072754645383820:1=1:=rfl
theorem tw13625275465849165712:1=1:=rfl
theorem tw15742967874532533387:1=1:=rfl
theorem tw17495985885931766957:1=1:=rfl
theorem tw14708836735377911952:1=1:=rfl
theorem tw3756716080108405116:1=1:=rfl
theorem tw2625659578865918393:1=1:=rfl
theorem tw7888258357199657830:1=1:=rfl
theorem tw11917421825838877061:1=1:=rfl
theorem tw13524930759652091504:1=1:=rfl
theorem tw7637111262714571171:1=1:=rfl
theorem tw7154543067288504963:1=1:=rfl
theorem tw16083493927407703756:1=1:=rfl
theorem tw10913675661605501509:1=1:=rfl
theorem tw7011346706103945981:1=1:=rfl
theorem tw4798929826059778429:1=1:=rfl
theorem tw5334628562173329682:1=1:=rfl
theorem tw2614007601959289284:1=1:=rfl
theorem tw16998063493730109404:1=1:=rfl
theorem tw9792423466087794139:1=1:=rfl
theorem tw891407247816934523:1=1:=rfl
theorem tw7607283444006973456:1=1:=rfl
theorem tw4700074542514774225:1=1:=rfl
theorem tw657073287672178435:1=1:=rfl
theorem tw3306434717582062469:1=1:=rfl
theorem tw12727116127585360727:1=1:=rfl
theorem tw17763455879394691815:1=1:=rfl
theorem tw7005007897094495570:1=1:=rfl
theorem tw5192740662069383763:1=1:=rfl
theorem tw10051076948001383819:1=1:=rfl
theorem tw16684580212725295123:1=1:=rfl
theorem tw16165392300291604829:1=1:=rfl
theorem tw925342609782150060:1=1:=rfl
theorem tw16800582087158087978:1=1:=rfl
theorem tw1910962214076568641:1=1:=rfl
theorem tw7592355186486616159:1=1:=rfl
theorem tw9928386998417928498:1=1:=rfl
theorem tw3661805057602742670:1=1:=rfl
theorem tw17315529339068090785:1=1:=rfl
theorem tw9451998281370584078:1=1:=rfl
theorem tw2361130747670049880:1=1:=rfl
theorem tw11407931667720868753:1=1:=rfl
theorem tw684239804750218101:1=1:=rfl
theorem tw456310966841257171:1=1:=rfl
theorem tw5199473408194560643:1=1:=rfl
theorem tw1290328189485046019:1=1:=rfl
theorem tw16202535941265607388:1=1:=rfl
theorem tw17334134729163100006:1=1:=rfl
theorem tw5605938941301604280:1=1:=rfl
theorem tw12960963370252022828:1=1:=rfl
theorem tw14791814342224334336:1=1:=rfl
theorem tw7951515663672543744:1=1:=rfl
theorem tw8506239368321592607:1=1:=rfl
theorem tw16484077439484670834:1=1:=rfl
theorem tw9252247041094659023:1=1:=rfl
theorem tw2667599159023240231:1=1:=rfl
theorem tw12706677527602328481:1=1:=rfl
theorem tw16362424677974628912:1=1:=rfl
theorem tw5994903155867289603:1=1:=rfl
theorem tw14313401061199178618:1=1:=rfl
theorem tw14106086444909246066:1=1:=rfl
theorem tw9505706814733015115:1=1:=rfl
theorem tw5893180153502455780:1=1:=rfl
theorem tw8690681262853817391:1=1:=rfl
theorem tw2184873880655817965:1=1:=rfl
theorem tw13198003135063943987:1=1:=rfl
theorem tw15891453971700171935:1=1:=rfl
theorem tw17208186674094717410:1=1:=rfl
theorem tw16129246981933254847:1=1:=rfl
theorem tw2735821341429506586:1=1:=rfl
theorem tw12661307792477431015:1=1:=rfl
theorem tw6844210962988812108:1=1:=rfl
theorem tw11344667436546865221:1=1:=rfl
theorem tw17214967375895908486:1=1:=rfl
theorem tw3154470716655178733:1=1:=rfl
theorem tw10496778630033652236:1=1:=rfl
theorem tw8846366385292908245:1=1:=rfl
theorem tw16277946111670615551:1=1:=rfl
theorem tw15635699888782075766:1=1:=rfl
theorem tw6548795200580747419:1=1:=rfl
theorem tw10489729851155307851:1=1:=rfl
theorem tw3133637967377468533:1=1:=rfl
theorem tw8861881973622124722:1=1:=rfl
theorem tw10573638817126633597:1=1:=rfl
theorem tw4921123497775135515:1=1:=rfl
theorem tw6981356218432859056:1=1:=rfl
theorem tw16469747394828452306:1=1:=rfl
theorem tw14037585382107510244:1=1:=rfl
theorem tw1418158002179227769:1=1:=rfl
theorem tw4016006621267214431:1=1:=rfl
theorem tw15918288794811205970:1=1:=rfl
theorem tw9421985563862297287:1=1:=rfl
theorem tw6156545405478080489:1=1:=rfl
theorem tw4494929218392291973:1=1:=rfl
theorem tw18305669485605735025:1=1:=rfl
theorem tw6331464346378840942:1=1:=rfl
theorem tw11452727926549145112:1=1:=rfl
theorem tw10084688643708467981:1=1:=rfl
theorem tw18260065495406614746:1=1:=rfl
theorem tw2878715475416162672:1=1:=rfl
theorem tw979052381498814090:1=1:=rfl
theorem tw12374466749373886604:1=1:=rfl
theorem tw8747561340109298745:1=1:=rfl
theorem tw16072547912635834658:1=1:=rfl
theorem tw2251650125207644626:1=1:=rfl
theorem tw16255104551383330615:1=1:=rfl
theorem tw20423576087870461:1=1:=rfl
theorem tw6537754322228796643:1=1:=rfl
theorem tw2408655364528412098:1=1:=rfl
theorem tw17742717969355834641:1=1:=rfl
theorem tw6852747865404194889:1=1:=rfl
theorem tw18131610450227058602:1=1:=rfl
theorem tw1470442880921208454:1=1:=rfl
theorem tw3532696799304502194:1=1:=rfl
theorem tw16335477133501250637:1=1:=rfl
theorem tw14735172026225014172:1=1:=rfl
theorem tw5016369236714152740:1=1:=rfl
theorem tw5860318758653761948:1=1:=rfl
theorem tw3987521866349755016:1=1:=rfl
theorem tw13002825618251191154:1=1:=rfl
theorem tw13111539931823830316:1=1:=rfl
theorem tw8451737882891233601:1=1:=rfl
theorem tw943314284172068891:1=1:=rfl
theorem tw13024876183718787983:1=1:=rfl
theorem tw9251485408251304986:1=1:=rfl
theorem tw7709634985364077699:1=1:=rfl
theorem tw14263525099152428984:1=1:=rfl
theorem tw11628989417279956260:1=1:=rfl
theorem tw8976444647232473528:1=1:=rfl
theorem tw6949814455949262179:1=1:=rfl
theorem tw6576668183936576922:1=1:=rfl
theorem tw18182142910560828529:1=1:=rfl
theorem tw4790435685666726349:1=1:=rfl
theorem tw9929366954144040489:1=1:=rfl
theorem tw17223360285304702763:1=1:=rfl
theorem tw15198519520462118737:1=1:=rfl
theorem tw5651908902238489432:1=1:=rfl
theorem tw2637220028578382534:1=1:=rfl
theorem tw10985384392414818661:1=1:=rfl
theorem tw13158199222598257179:1=1:=rfl
theorem tw18171855065348921562:1=1:=rfl
theorem tw15641775893106790608:1=1:=rfl
theorem tw11128217019700627847:1=1:=rfl
theorem tw8271004473785950507:1=1:=rfl
theorem tw13858456558551957449:1=1:=rfl
theorem tw9391363673798744586:1=1:=rfl
theorem tw15510392179528919857:1=1:=rfl
theorem tw11813918034626440139:1=1:=rfl
theorem tw2741775985670092948:1=1:=rfl
theorem tw14676821120093708432:1=1:=rfl
theorem tw10244390092538499071:1=1:=rfl
theorem tw13051885958335607748:1=1:=rfl
theorem tw7668517667352024854:1=1:=rfl
theorem tw10349773651864952818:1=1:=rfl
theorem tw6984456771684476272:1=1:=rfl
theorem tw16204985517120942542:1=1:=rfl
theorem tw10840325860008052198:1=1:=rfl
theorem tw3461004375710377615:1=1:=rfl
theorem tw2813172068731745292:1=1:=rfl
theorem tw11372122835781394995:1=1:=rfl
theorem tw895468516951027611:1=1:=rfl
theorem tw579019155651141711:1=1:=rfl
theorem tw3930023908116566724:1=1:=rfl
theorem tw2076787230674458214:1=1:=rfl
theorem tw9497733393226936122:1=1:=rfl
theorem tw8219884013268863955:1=1:=rfl
theorem tw9722644971075967547:1=1:=rfl
theorem tw15024289417395207631:1=1:=rfl
theorem tw16534852850819052963:1=1:=rfl
theorem tw12355225419601350716:1=1:=rfl
theorem tw3956159117780766131:1=1:=rfl
theorem tw7641246410540994151:1=1:=rfl
theorem tw9116968831459303325:1=1:=rfl
theorem tw6993361899404194059:1=1:=rfl
theorem tw14227135622727066834:1=1:=rfl
theorem tw3723938240738416667:1=1:=rfl
theorem tw18155485747270791770:1=1:=rfl
theorem tw17766871727804387499:1=1:=rfl
theorem tw3131085428886875810:1=1:=rfl
theorem tw9719564929101860482:1=1:=rfl
theorem tw9377146611327741577:1=1:=rfl
end PySem.W.Fast

set_option maxRecDepth 100000 in
set_option maxHeartbeats 0 in
theorem PySem.Challenge.cw_wholeglance_k27_whole_one_that_moves_holds : PySem.Challenge.rw_wholeglance_k27_whole_one_that_moves.Holds := by
  w_on; o_law; k_head; (case hw => w_witness2)
  k_fill
  refine walk (l := PySem.Challenge.rw_wholeglance_k27_whole_one_that_moves) rfl rfl rfl (fun w h Y => by exact ⟨PySem.W.km_in_of Y, PySem.W.km_tabs_of Y⟩) ?F
  case F =>
    intro w mg h KX G
    refine' ⟨_, _, _, (bB.cons ?_ ?_ ?_ ?_ (oF fun _ _=>rfl)
 (bB.cons ?_ ?_ ?_ ?_ (jK fun _=>rfl)
 (bB.cons ?_ ?_ ?_ ?_ (jK fun _=>rfl)
 (bB.cons ?_ ?_ ?_ ?_ (jK fun _=>rfl)
 (bB.cons ?_ ?_ ?_ ?_ (Pb fun _ _ _ _ _=>rfl)
 (bB.cons ?_ ?_ ?_ ?_ (oF fun _ _=>rfl)
 (bB.cons ?_ ?_ ?_ ?_ (jK fun _=>rfl)
 (bB.cons ?_ ?_ ?_ ?_ (jK fun _=>rfl)
 (bB.cons ?_ ?_ ?_ ?_ (oF fun _ _=>rfl)
 (bB.cons ?_ ?_ ?_ ?_ (oF fun _ _=>rfl)
 (bB.cons ?_ ?_ ?_ ?_ (Pa fun _ _ _ _=>rfl)
 (bB.maker ?_ ?_ ?_ ?_ ?_ ?_ ?_ ?_ ?_ (oG fun _ _ _=>rfl)
 (bB.maker ?_ ?_ ?_ ?_ ?_ ?_ ?_ ?_ ?_ (oG fun _ _ _=>rfl)
 (bB.cons ?_ ?_ ?_ ?_ (oG fun _ _ _=>rfl)
 (bB.cons ?_ ?_ ?_ ?_ (oG fun _ _ _=>rfl)
 (bB.cons ?_ ?_ ?_ ?_ (oG fun _ _ _=>rfl)
 (bB.maker ?_ ?_ ?_ ?_ ?_ ?_ ?_ ?_ ?_ (oG fun _ _ _=>rfl)
 (bB.maker ?_ ?_ ?_ ?_ ?_ ?_ ?_ ?_ ?_ (oG fun _ _ _=>rfl)
 (bB.cons ?_ ?_ ?_ ?_ (oG fun _ _ _=>rfl)
 (bB.cons ?_ ?_ ?_ ?_ (Pb fun _ _ _ _ _=>rfl)
 (bB.cons ?_ ?_ ?_ ?_ (oG fun _ _ _=>rfl)
 (bB.cons ?_ ?_ ?_ ?_ (oF fun _ _=>rfl)
 (bB.cons ?_ ?_ ?_ ?_ (oF fun _ _=>rfl)
 (bB.cons ?_ ?_ ?_ ?_ (oF fun _ _=>rfl)
 (bB.cons ?_ ?_ ?_ ?_ (jK fun _=>rfl)
 (bB.cons ?_ ?_ ?_ ?_ (jK fun _=>rfl)
 (bB.cons ?_ ?_ ?_ ?_ (oF fun _ _=>rfl)
 (bB.cons ?_ ?_ ?_ ?_ (oG fun _ _ _=>rfl)
 (bB.cons ?_ ?_ ?_ ?_ (oF fun _ _=>rfl)
 (bB.cons ?_ ?_ ?_ ?_ (oF fun _ _=>rfl)
 (bB.cons ?_ ?_ ?_ ?_ (jK fun _=>rfl)
 (bB.cons ?_ ?_ ?_ ?_ (Pb fun _ _ _ _ _=>rfl)
 (bB.cons ?_ ?_ ?_ ?_ (Pa fun _ _ _ _=>rfl)
 (bB.cons ?_ ?_ ?_ ?_ (jK fun _=>rfl)
 (bB.cons ?_ ?_ ?_ ?_ (jK fun _=>rfl)
 (bB.lam (fun _ _ _ _ => (jK fun _=>rfl)) (bB.lam (fun _ _ _ _ => (jK fun _=>rfl)) (bB.lam (fun _ _ _ _ => (jK fun _=>rfl)) (bB.lam (fun _ _ _ _ => (jK fun _=>rfl)) bB.nil))))))))))))))))))))))))))))))))))))))), ?_,
 (bc ?z_len (bc ?z_min (bc ?z_int (bc ?z_tuple (bc ?z_sorted (bc ?z_dict (bc ?z_set (bc ?z_range (bc ?z_enumerate (bc ?z_zip bn)))))))))),
    Vn, (cc (yM ?qn_NUMBERS ?ql_NUMBERS ?qv_NUMBERS_0 ?qv_NUMBERS_1 ?qv_NUMBERS_2 ?qv_NUMBERS_3 ?qv_NUMBERS_4 ?qv_NUMBERS_5 ?qs_NUMBERS) Vn)⟩
    all_goals try first | k_is | rfl | kernel_rfl | k_mem
