import PyProof.Rows.All
import Wide.All
import OpenK.AllK
import Wide.FinOn
import Lean
import PyProof.EqAt
import PyProof.EqKinds
import PyProof.TupleCall
import PySem.Challenge.RW_wholeglance_k51_whole_an_order_or_a_pape
open PySem renaming wpAny_bind->xv,Shared->Y4,wpAny_pure->Y5,sizeLine->Zl,starEach->Zv,Around->Zz,Program->ZC,DictEntry->ZE,compareOp->ZF,wpAny_holding->ZI,wpAny_newObj_type->ZL,wpAny_call_entry->ZN,binaryOp->ZT,wpAny_truthy_bool->ZU,foldedSetIterable->ZV,mainGlobals->ZX,wpAny_ite_split->Z6,wpAny_callSpecial?_slot->Z_,placesWithHash->aad,FuncData->aae,cellsFrom->aal,assignEach->aaw,wpAny_dictEpoch->aaJ,bootBuiltins->aaK,wpAny_rule->aaL,wpAny_Call_Name_kw->aaP,sizeLine_eq->aaU,swappedStores->aa2,wpAny_typeNameOfWhole_keyiter->aa3,NameKind->aa6,sysModules->aa_,wpAny_field->aba,wpAny_passesOwn->abf,swapsWithSole->abi,wpAny_dictEntries->abo,Builtin->abt,backTo->abw,IsPart->abx,behindInMarks->abD,wpAny_pyIter_tuple->abG,wpAny_sequenceKey->abO,holding->abS,swapsWith->abY,bindName->abZ,call_meets->ab0,wpAny_forIn_list->ab2,assign->ab6,wpAny_standAt->ab7,sliceBounds->acb,wpAny_typeOf->aci,wpAny_bindName->acn,getItem->aco,assignInOrder->acv,PassesOwn->acD,wpAny_mono->acH,wpAny_execs_nil->acI,codeAny_mono->acJ,wpAny_ite_false->acP,wpAny_specialOf->acQ,codeAny_builtin->acS,codeAny->ac0,callerA->ac1,wpAny_setField->ac2,intItems->ac3,seqIndex?->ac9,slot_dict_contains->ac_,attributeBase->adj,Comprehension->adk,wpAny_pyIter_list->ado,slot_dict_getitem->adq,builtinsNs->adt,typeIs_int->adv,relabel->adB,dictGet->adC,rawInt->adE,concat_meets->adF,noFill_tuple_add->adG,beq_builtin_none->adI,wpAny_isInstance->adJ,letOwnedTupleGo->adT,eqIsQuiet->adV,wpAny_richCompare_same->adZ,standAt->ad5,BindsTo->ad7,wpAny_seqItems->aeb,wpAny_notOrdered_dict->aed,wpAny_isOneOf_keyiter->aee,builtinLookup_eq_fast->aeh,isSubtype_type->aei,typeIs_str->aep,wpAny_pyIter_keyiter->aet,seq_tuple_add->aez,wpAny_newList->aeC,plainId_quiet->aeD,lastMarks->aeQ,setItem->ae6,Keyword->ae7,collect->ae8,seqIndex_of->afm,wpAny_alloc->afn
open Bool renaming and_eq_true->Y3,false_eq_true->Zh,not_true->Zj,not_false->Zn,not_eq_true'->Zx,or_eq_true->ZR,or_eq_false_iff->aan,false_ne_true->aau,not_eq_true->ab3,true_and->ab9,or_false->acw,and_true->adi,false_and->ad6,and_assoc->ad_,and_eq_false_iff->aek,not_eq_false'->aeW,eq_false_iff->afj,eq_iff_iff->afT,and_false->af_
open PySem.Heap renaming get?_push_of_some->Y6,lt_size->Zf,get?_push_size->Zg,size_push->aaS,get?_push_ne->aa1,get?_update_other->abb,get?_update_self->abg,size_update->abA,SameBut->abR,ExtBut->adY,get?_none_of_le->aen,get?_update_ne->aeF
open List renaming getElem?_eq_some_iff->Y7,getElem?_eq_getElem->Y8,range->Y9,size_toArray->Y_,mem_map->Zc,mem_cons->Zd,mem_append->Ze,all_eq_true->Zi,mem_range->Zm,replicate->Zo,mem_cons_self->Zp,length_map->Zr,mem_cons_of_mem->Zs,mem_filter->Zt,getElem?_append_left->Zu,map_cons->Zw,getElem?_take_of_lt->ZH,getElem?_set_ne->ZK,lookup_cons->ZQ,getElem?_map->ZS,mem_of_getElem?->ZY,map_map->Z2,mem_append_right->Z4,mem_iff_getElem?->Z7,length_filter_le->Z8,pairwise_map->aab,getElem_mem->aaf,filterMap_cons->aag,any_cons->aak,nil_append->aam,getElem?_set_self->aao,nodup_append->aaq,map_append->aat,length_append->aav,mem_iff_getElem->aax,filter_cons->aay,getElem?_append_right->aaA,replicate_succ->aaC,nodup_cons->aaD,drop_eq_getElem_cons->aaE,pairwise_iff_getElem->aaF,getElem?_eq_none->aaG,mem_of_mem_take->aaH,append_assoc->aaI,length_take->aaM,any_eq_true->aaN,ext_getElem->aaO,map_congr_left->aa5,cons_append->aa7,length_cons->aa8,take_of_length_le->abc,elem_iff->abm,flatten_cons->abn,mem_nil_iff->abz,mem_filterMap->abH,append_nil->abI,mem_singleton->abK,eq_nil_of_length_eq_zero->abM,reverse_cons->abP,singleton_append->abU,drop_zero->abV,Nodup->ab4,all_cons->ab8,getD_eq_getElem?_getD->ab_,length->aca,getElem?_eq_none_iff->acd,find?_some->acf,set_append->ach,pairwise_cons->acm,nodup_nil->acp,length_range->acr,findIdx?_eq_some_iff_getElem->acu,mem_reverse->acy,nodup_range->acA,not_mem_nil->acB,eq_nil_or_concat->acF,eraseIdxIfInBounds_toArray->acG,foldl_cons->acM,forIn_cons->acN,all_map->acO,mem_of_mem_drop->acV,take_succ_cons->acZ,range'->ac5,filter_append->adb,append_of_mem->ade,map_singleton->adf,set_comm->adh,sum_cons->adm,any_eq_false->ads,getElem_inj->adD,getElem?_replicate->adN,eraseIdx_cons_succ->adO,getElem?_cons_zero->adP,length_eq_zero_iff->adQ,of_mem_zip->adU,pairwise_lt_range->ad2,filter_eq_nil_iff->ad3,length_singleton->ad8,forIn_nil->ad9,dropLast_eq_take->aeg,getElem?_reverse->aej,concat_eq_append->ael,mem_append_left->aeo,findIdx?_isSome->aev,contains_eq_mem->aex,getElem?_range->aeE,length_reverse->aeG,length_pos_iff->aeH,toArray->aeZ,zip_nil_right->ae0,zip_cons_cons->ae1,any_nil->ae2,mem_replicate->ae3,find?_eq_none->ae4,take_sublist->afa,getElem_take->afc,getElem?_inj->afg,zip_nil_left->afi,ext_getElem?->afk,map_id->afp,length_drop->afw,range'_succ->afA,isEmpty_iff->afF,append_inj'->afG,perm_middle->afH,zipIdx_cons->afI,getElem_map->afJ,mem_flatMap->afK,zipIdx_map->afZ,all_filter->af0
open Nat renaming le_refl->Za,ne_of_lt->Zk,lt_of_lt_of_le->ZD,zero_le->ZM,lt_succ_of_lt->ZW,le_of_ble_eq_true->Z5,le_trans->aaa,lt_irrefl->aaz,ble_eq_true_of_le->aaR,eq_of_testBit_eq->aaZ,le_of_lt->abv,sub_self->aby,testBit_two_pow->abB,ble->abE,le_succ->abL,one_shiftLeft->abQ,ne_of_gt->abT,zero_add->abW,lt_succ_self->ab1,lt_pow_two_of_testBit->acg,le_of_succ_le->acq,mul_assoc->acx,testBit_and->acW,mul_comm->adH,testBit_lt_two_pow->ad1,mul_le_mul->aea,pow_le_pow_right->aew,mul_le_mul_right->aey,add_comm->aeS,pow_succ->ae5,mul_left_comm->afl,pow_add->afr,strongRecOn->af1
open Option renaming bind_some->Zb,map_eq_some_iff->Zq,map_some->ZP,isSome_iff_exists->aaV,getD_none->afx,getD_some->afy
open PySem.Str renaming ofString->Zy
open PyProof.Rows renaming slot_tuple_getitem->ZG,callWith_type1->aah,seqObj->aaB,assignInOrder_cons->abd,firstMet->abr,IntsAre->abu,step_dedup->ab5,subscriptTail_builtinR->acs,AllBare->acC,envOfC->acK,callWith_builtin1->acL,get?_update_seq->acR,entry_tuple_getitem->acY,args_tuple_getitem->ac8,assignInOrder_nil->adn,sortedHeap->adx,boot_tuple->ad4,tupleItemsOf_->aeA,subscriptTail->aeB,boot_list->afL,boot_int->af2
open PySem.Builtin renaming bitAnd->ZJ,bitNot->aaT,bitOr->abC
open PySem.Builtin.Tuple renaming tupleExact->ZO,tupleItemsOf->abk,tupleHashOf->adw,tupleTooMany->adX
open PySem.AutoSeq1 renaming wpAny_loadPart'->Z0,sub_tuple_tuple->aaY,idx_int->acz
open Array renaming getD_eq_getD_getElem?->Z1,getElem?_toList->aaQ,getElem?_eq_some_iff->abl,getElem?_eq_getElem->ace,mem_of_getElem?->acE,length_toList->acX,getElem?_eq_none_iff->adl,mem_toList_iff->aer,toList->aeN,forIn_toList->aeV
open PySem.Value renaming type->Z3,bool->aa9,none->abF,ref->abX,int->adS,notImplemented->aeq
open PySem.NameKind renaming cell->Z9,free->aaj
open PySem.Builtin.Slice renaming sliceAdjust->aac,slicePlaces->aap,sliceApplied->abj,sliceFields->adu
open Option.some renaming injEq->aai,inj->aas
open Function renaming comp_def->aar
open PySem.Obj renaming mapSeq->aaW,data_mapFields->acj,isFreed_of_fields->aec,cls_mapFields->afd,mapDictKeys->afV
open ForInStep renaming yield->aaX
open Ne renaming symm->aa0
open PySem.Heap.SameBut renaming update->aa4
open PySem.Builtin.List renaming listExtendWith->abe,listSameRef->adK
open List.Pairwise renaming and_mem->abh
open False renaming elim->abp
open PySem.Builtin.SmallTypes renaming nextOf->abq
open True renaming intro->abJ
open Int renaming toNat_natCast->abN,emod_lt_of_pos->ack,emod_nonneg->acU,le_trans->adL,natCast_nonneg->aeU
open PySem.Around renaming under_plainId->acT
open PySem.Builtin.Dict_items renaming ownsTuple->ac4
open PySem.Data renaming cell->ac6,dict->aeT
open PySem.Calls renaming spliced_cons->ac7,Name_function_global->adg,spliced_nil->adp,call_function_entry->ady,callWith_builtin->ad0,Constant_str->aeM
open PySem.ScopeKind renaming function->ada
open Sum renaming inl->adz,inr->adA
open Classical renaming choose->adM,propDecidable->adR,choose_spec->aem
open List.cons renaming injEq->adW
open PySem.W renaming kas_rev->aef,kas_sort->aeu,kas_descPart->aeX,kas_place->aeY
open PUnit renaming unit->aes
open PySem.SeqAt.EqAt renaming int_str->aeJ,str_int->aeK
open PySem.Flow renaming next->aeO
open PySem.Heap.IsSliceOf renaming new->aeR
open PySem.Builtin.Frozenset renaming updateFrom->agj
open PyProof.Rows.IntsAre renaming int_at->agr
open PySem.Shared renaming TypeIs->agJ
set_option bootstrap.genMatcherCode false
set_option genSizeOf false
set_option Elab.async false
set_option linter.all false
set_option maxRecDepth 100000
namespace L2
open PySem PySem.Spec PyProof.Rows
noncomputable abbrev Key:=Sum Int Str
noncomputable def Em:Key->Value->Bool
 |.inl k,v=>Value.isInt k v
 |.inr x,v=>Value.isStrOf x v
noncomputable def Rn (w:World):Key->Int
 |.inl k=>hashInt k
 |.inr x=>hashStr w x
theorem cV:∀{k:Key} {v:Value},Em k v=true->(∃i t,k=adz i/\v=adS i t)\/(∃x t,k=adA x/\v=Value.str x t)
 |.inl i,v,h=>by
  obtain⟨t,e⟩:=Value.isInt_shape (k:=i) (v:=v) h
  exact .inl ⟨i,t,rfl,e⟩
 |.inr x,v,h=>by
  obtain⟨t,e⟩:=Value.isStrOf_shape (x:=x) (v:=v) h
  exact .inr ⟨x,t,rfl,e⟩
theorem Jc (a b:Int):decide ((adz a:Key)=adz b)=(a == b):=by
 by_cases e:a=b
 . subst e;simp
 . have h:¬(adz a:Key)=adz b:=λq=>e (Sum.inl.inj q)
   rw[decide_eq_false h]
   exact(beq_eq_false_iff_ne.mpr e).symm
theorem Jd (a b:Str):decide ((adA a:Key)=adA b)=decide (a=b):=by
 by_cases e:a=b
 . subst e;simp
 . have h:¬(adA a:Key)=adA b:=λq=>e (Sum.inr.inj q)
   rw[decide_eq_false h,decide_eq_false e]
theorem Je (a:Int)(b:Str):decide ((adz a:Key)=adA b)=false:=decide_eq_false (λq=>nomatch q)
theorem Jf (a:Str)(b:Int):decide ((adA a:Key)=adz b)=false:=decide_eq_false (λq=>nomatch q)
noncomputable def qy (prog:ZC)(w:World):PySem.KeyKind prog w Key where
 is:=Em
 hash:=Rn w
 inj:=λv a b ha hb=>by
  rcases cV ha with⟨i,t,rfl,rfl⟩|⟨x,t,rfl,rfl⟩
  . rcases cV hb with⟨j,u,rfl,e⟩|⟨y,u,rfl,e⟩
    . injection e with e1 _;rw[e1]
    . exact nomatch e
  . rcases cV hb with⟨j,u,rfl,e⟩|⟨y,u,rfl,e⟩
    . exact nomatch e
    . injection e with e1 _;rw[e1]
 byValue:=λk v h=>by
  rcases cV h with⟨i,t,rfl,rfl⟩|⟨x,t,rfl,rfl⟩<;>rfl
 pyHash:=λhv h=>by
  rcases cV hv with⟨i,t,rfl,rfl⟩|⟨x,t,rfl,rfl⟩
  . exact wpAny_pyHash_int h
  . exact wpAny_pyHash_str h
 eqBool:=λhu hv h=>by
  rcases cV hu with⟨i,t,rfl,rfl⟩|⟨x,t,rfl,rfl⟩
  . rcases cV hv with⟨j,u,rfl,rfl⟩|⟨y,u,rfl,rfl⟩
    . rw[Jc]at h;exact wpAny_eqBool_int h
    . rw[Je]at h;exact aeJ i t y u _ _ _ _ h
  . rcases cV hv with⟨j,u,rfl,rfl⟩|⟨y,u,rfl,rfl⟩
    . rw[Jf]at h;exact aeK x t j u _ _ _ _ h
    . rw[Jd]at h;exact wpAny_eqBool_str h
 «strs»:=λk x t v h=>by
  rcases cV h with⟨i,u,rfl,e⟩|⟨y,u,rfl,e⟩
  . exact nomatch e
  . injection e with e1 _
    subst e1
    cases v<;>rfl
inductive V where
 |aA|bl (b:Bool)|int (i:Int)|str (x:Str)|zN (b:Array UInt8)|fD (b:UInt64)|ref (a:Addr)|ty (n:String)
 deriving DecidableEq
noncomputable def RelV:V->Value->Prop
 |.aA,u=>u=abF
 |.bl b,u=>u=aa9 b
 |.int i,u=>∃t,u=adS i t
 |.str x,u=>∃t,u=Value.str x t
 |.zN b,u=>∃t,u=Value.bytes b t
 |.fD b,u=>∃t,u=Value.float b t
 |.ref a,u=>u=abX a
 |.ty n,u=>u=Z3 n
noncomputable abbrev Vals:List V->List Value->Prop:=Paired RelV
theorem Vals.length {xs:List V}{us:List Value}(r:Vals xs us):xs.length=us.length:=Paired.length r
theorem Vals.get:∀{xs:List V} {us:List Value} {i:Nat} {x:V},Vals xs us->xs[i]? = some x->∃u,us[i]? = some u/\RelV x u
 |_,_,_,_,.nil,e=>by simp at e
 |_,_,0,_,.cons r _,e=>by simp at e;subst e;exact⟨_,rfl,r⟩
 |_,_,i+1,x,.cons _ t,e=>by
  obtain⟨u,h1,h2⟩:=Vals.get (i:=i) (x:=x) t (by simpa using e)
  exact⟨u,by simpa using h1,h2⟩
theorem Vals.set {x:V}{u:Value}(r:RelV x u):∀{xs:List V} {us:List Value} (i:Nat),Vals xs us->Vals (xs.set i x) (us.set i u)
 |_,_,_,.nil=>.nil
 |_,_,0,.cons _ t=>.cons r t
 |_,_,i+1,.cons q t=>.cons q (Vals.set r i t)
theorem Vals.append:∀{xs ys:List V} {us ws:List Value},Vals xs us->Vals ys ws->Vals (xs++ys) (us++ws)
 |_,_,_,_,.nil,s=>s
 |_,_,_,_,.cons r t,s=>.cons r (Vals.append t s)
theorem Vals.take:∀{xs:List V} {us:List Value} (n:Nat),Vals xs us->Vals (xs.take n) (us.take n)
 |_,_,0,_=>.nil
 |_,_,_+1,.nil=>.nil
 |_,_,n+1,.cons r t=>.cons r (Vals.take n t)
theorem Vals.drop:∀{xs:List V} {us:List Value} (n:Nat),Vals xs us->Vals (xs.drop n) (us.drop n)
 |_,_,0,r=>r
 |_,_,_+1,.nil=>.nil
 |_,_,n+1,.cons _ t=>Vals.drop n t
noncomputable def Jg:Option V->Option Value->Prop
 |some v,some u=>RelV v u
 |none,none=>True
 |_,_=>False
noncomputable def KV {κ:Type}:List (κ×V)->List (κ×Value)->Prop:=Paired λ(p:κ×V) (q:κ×Value)=>p.1=q.1/\RelV p.2 q.2
noncomputable def kV:Key->V
 |.inl i=>.int i
 |.inr x=>.str x
noncomputable def eX (h:Heap)(a:Addr)(items:Array Value):Prop:=∃o,h.get? a=some o/\o.cls = .type "tuple" /\ (∃n,o.data = .seq items n)/\o.dict=none
theorem eX.t {h:Heap}{a:Addr}{items:Array Value}(p:eX h a items):IsTup h a items:=let⟨o,h1,h2,h3,_⟩:=p;⟨o,h1,h2,h3⟩
theorem eX.new (h:Heap)(av:Array Value):eX (h.push { cls:=.type "tuple",data:=.seq av }) h.objs.size av:=⟨_,Zg _ rfl,rfl,⟨_,rfl⟩,rfl⟩
inductive HO where
 |lst (xs:List V)
 |tup (xs:List V)
 |dK (de:List (Key×V))|dT (de:List (List Key×V))
 |set (S:Int->Bool) (n:Nat)
 |ins (C dx:Addr) (fs:List (Str×V))
 |own (x:Addr)
 |xd (fs:List (Str×V))
 |met (f x:Addr)
 |cZ (lo hi:Int)
 |kz (o:Obj) (u:HO)
 |jU (ps:Array Value)
 |ext (φ:Heap->Prop)
noncomputable abbrev Hp:=Addr->Option HO
noncomputable def upd (H:Hp)(a:Addr)(o:HO):Hp:=λb=>if b=a then some o else H b
theorem bA {H:Hp}{a:Addr}{o:HO}:upd H a o a=some o:=by unfold upd;rw[if_pos rfl]
theorem a_ {H:Hp}{a b:Addr}{o:HO}(h:b≠a):upd H a o b=H b:=by unfold upd;rw[if_neg h]
theorem yt {H:Hp}{a b:Addr}{o u:HO}(h:H a=some o)(h':H b=some u)(d:o≠u):a≠b:=by
 intro e;subst e;rw[h]at h';exact d (aas h')
theorem b9 {H:Hp}{a b:Addr}{o:HO}(h:H a=some o)(h':H b=none):a≠b:=by
 intro e;subst e;rw[h]at h';cases h'
section
variable (P:ZC)(w:World)
noncomputable def cW (H:Hp)(h:Heap)(a:Addr):HO->Prop
 |.lst xs=>xs.length<=Zl /\ ∃(av:List Value) (n:Nat),Vals xs av/\h.get? a=some { cls:=.type "list",data:=.seq av.toArray n }
 |.tup xs=>xs.length<=Zl /\ ∃av:List Value,Vals xs av/\eX h a av.toArray
 |.dK de=>de.length<=Zl/\(a == aa_)=false /\ ∃vs,KV de vs/\h.DictOf (qy P w) a vs
 |.dT de=>de.length<=Zl/\(a == aa_)=false /\ ∃xs:List (List Key×Addr×Value),
  Paired (λ(p:List Key×V) (q:List Key×Addr×Value)=>p.1=q.1/\H q.2.1=some (.tup (p.1.map kV))/\RelV p.2 q.2.2) de xs /\
  ∃o es ep,h.get? a=some o/\o.ExactDict/\o.data = .dict es ep/\es.toList=xs.map (entryOfKey (tupleKind (qy P w)))/\(xs.map (·.1)).Nodup
 |.set S n=>h.SetOf (intKind P w) a S n
 |.ins C dx fs=>H dx=some (.own a)/\fs.length<=1000/\dx≠a/\h.get? a=some (PySem.W.instObj C dx) /\
  ∃mA,h.Ns1 dx mA/\(∀f,Jg (fs.lookup f) (mA f))/\PySem.Within mA (fs.map (·.1))
 |.own _=>∃o,h.get? a=some o
 |.xd fs=>∃mA,h.Ns1 a mA /\ ∀f,Jg (fs.lookup f) (mA f)
 |.cZ lo hi=>∃t u v,h.get? a=some { cls:=.type "range",data:=.fields #[.int lo t,.int hi u,.int 1 v] }
 |.kz o u=>h.get? a=some o/\cW H h a u
 |.jU ps=>h.get? a=some { cls:=.none,data:=.fields ps }
 |.met f x=>h.get? a=some (PySem.W.methodObj (.ref f) (.ref x))
 |.ext φ=>φ h/\(∃o,h.get? a=some o) /\ ∀h1 h2:Heap,φ h1->(∀o,h1.get? a=some o->h2.get? a=some o)->φ h2
noncomputable def fE (H:Hp)(h:Heap):Prop:=∀a o,H a=some o->cW P w H h a o
end
section
variable {P:ZC}{w:World}{H H':Hp}{h h':Heap}{a:Addr}{o:HO}
theorem cW.lt (x:cW P w H h a o):a<h.objs.size:=by
 cases o with
 |lst xs=>obtain⟨_,_,_,_,e⟩:=x;exact Zf e
 |tup xs=>obtain⟨_,_,_,p⟩:=x;exact p.t.lt
 |dK de=>obtain⟨_,_,_,_,o,_,_,e,_⟩:=x;exact Zf e
 |dT de=>obtain⟨_,_,_,_,o,_,_,e,_⟩:=x;exact Zf e
 |set S n=>obtain⟨o,_,_,_,e,_⟩:=x;exact Zf e
 |ins C dx fs=>obtain⟨_,_,_,e,_⟩:=x;exact Zf e
 |own y=>obtain⟨_,e⟩:=x;exact Zf e
 |xd fs=>obtain⟨_,⟨_,_,_,e,_⟩,_⟩:=x;exact Zf e
 |cZ lo hi=>obtain⟨_,_,_,e⟩:=x;exact Zf e
 |kz ob u=>obtain⟨e,_⟩:=x;exact Zf e
 |jU ps=>exact Zf (show h.get? a=some _ from x)
 |met f y=>exact Zf (show h.get? a=some _ from x)
 |ext φ=>obtain⟨_,⟨_,e⟩,_⟩:=x;exact Zf e
theorem Paired.Jh {α β:Type}{F G:α->β->Prop}:∀{l₁:List α} {l₂:List β},Paired F l₁ l₂->(∀a b,F a b->G a b)->Paired G l₁ l₂
 |_,_,.nil,_=>.nil
 |_,_,.cons r t,f=>.cons (f _ _ r) (Paired.Jh t f)
theorem cW.iy (x:cW P w H h a o)(k:∀b u,(b=a\/H b=some (.own a))->h.get? b=some u->h'.get? b=some u)
  (ho:∀b,H b=some (.own a)->H' b=some (.own a)) (ht:∀b xs,H b=some (.tup xs)->H' b=some (.tup xs)):cW P w H' h' a o:=by
 induction o with
 |lst xs=>obtain⟨z,av,n,r,e⟩:=x;exact⟨z,av,n,r,k _ _ (.inl rfl) e⟩
 |tup xs=>obtain⟨z,av,r,ob,e,c⟩:=x;exact⟨z,av,r,ob,k _ _ (.inl rfl) e,c⟩
 |dK de=>obtain⟨z,y,vs,r,ob,es,ep,e,c⟩:=x;exact⟨z,y,vs,r,ob,es,ep,k _ _ (.inl rfl) e,c⟩
 |dT de =>
  obtain⟨z,y,xs,r,ob,es,ep,e,c⟩:=x
  exact⟨z,y,xs,Paired.Jh r λp q z=>⟨z.1,ht _ _ z.2.1,z.2.2⟩,ob,es,ep,k _ _ (.inl rfl) e,c⟩
 |set S n=>obtain⟨ob,es,ep,t,e,c⟩:=x;exact⟨ob,es,ep,t,k _ _ (.inl rfl) e,c⟩
 |ins C dx fs =>
  obtain⟨d,z,ne,e,mA,⟨od,es,ep,e2,c⟩,r⟩:=x
  exact⟨ho _ d,z,ne,k _ _ (.inl rfl) e,mA,⟨od,es,ep,k _ _ (.inr d) e2,c⟩,r⟩
 |own y=>obtain⟨ob,e⟩:=x;exact⟨ob,k _ _ (.inl rfl) e⟩
 |xd fs=>obtain⟨mA,⟨od,es,ep,e,c⟩,r⟩:=x;exact⟨mA,⟨od,es,ep,k _ _ (.inl rfl) e,c⟩,r⟩
 |cZ lo hi=>obtain⟨t,u,v,e⟩:=x;exact⟨t,u,v,k _ _ (.inl rfl) e⟩
 |kz ob u ih=>obtain⟨e,q⟩:=x;exact⟨k _ _ (.inl rfl) e,ih q⟩
 |jU ps =>
  have e:h.get? a=some { cls:=.none,data:=.fields ps }:=x
  show h'.get? a=some { cls:=.none,data:=.fields ps }
  exact k a _ (.inl rfl) e
 |met f y =>
  have e:h.get? a=some (PySem.W.methodObj (.ref f) (.ref y)):=x
  show h'.get? a=some (PySem.W.methodObj (.ref f) (.ref y))
  exact k a _ (.inl rfl) e
 |ext φ=>obtain⟨p,⟨o,e⟩,st⟩:=x;exact⟨st _ _ p λo q=>k _ _ (.inl rfl) q,⟨o,k _ _ (.inl rfl) e⟩,st⟩
theorem fE.lt (x:fE P w H h)(e:H a=some o):a<h.objs.size:=(x a o e).lt
theorem fE.fresh (x:fE P w H h)(e:h.objs.size<=a):H a=none:=by
 cases q:H a with
 |none=>rfl
 |some u=>exact absurd (ZD (x.lt q) e) (aaz _)
theorem fE.kept (x:fE P w H h)(k:∀b u,h.get? b=some u->h'.get? b=some u):fE P w H h':=λa o e =>
 (x a o e).iy (λb u _ q=>k b u q) (λ_ q=>q) λ_ _ q=>q
theorem fE.laid (x:fE P w H h)(k:∀b u,h.get? b=some u->h'.get? b=some u)(hp:h.objs.size<=a)(new:cW P w (upd H a o) h' a o):fE P w (upd H a o) h':=λb u e=>by
 have hn:=x.fresh hp
 by_cases hb:b=a
 . subst hb;rw[bA]at e;cases e;exact new
 . rw[a_ hb]at e
   exact(x b u e).iy (λc v _ q=>k c v q) (λc q=>by rw[a_ (b9 q hn)];exact q) λc xs q=>by rw[a_ (b9 q hn)];exact q
end
noncomputable def Rd (H:Hp)(a:Addr)(u:HO):Prop:=H a=some u \/ ∃o,H a=some (.kz o u)
theorem Rd.ok {P:ZC}{w:World}{H:Hp}{h:Heap}{a:Addr}{u:HO}(r:Rd H a u)(x:fE P w H h):cW P w H h a u:=by
 rcases r with r|⟨o,r⟩
 . exact x a u r
 . obtain⟨_,q⟩:=x a _ r
   exact q
noncomputable def En:Option HO->Prop
 |some (.lst _)=>True
 |some (.dK _)=>True
 |some (.dT _)=>True
 |some (.set _ _)=>True
 |some (.ins _ _ _)=>True
 |some (.ext _)=>True
 |_=>False
section
variable {P:ZC}{w:World}{H:Hp}{h h':Heap}{x e:Addr}{o':HO}
theorem fE.write (ok:fE P w H h)(mu:En (H x))(he:e=x\/H e=some (.own x))(k:∀b u,b≠e->h.get? b=some u->h'.get? b=some u)(wK:∃u,h'.get? e=some u)
   (new:cW P w (upd H x o') h' x o'):fE P w (upd H x o') h':=λb u q=>by
 have Ji:∀c y,H c=some (.own y)->c≠x:=λc y r z=>by subst z;rw[r]at mu;exact mu
 have Ro:∀c xs,H c=some (.tup xs)->c≠x:=λc xs r z=>by subst z;rw[r]at mu;exact mu
 by_cases hb:b=x
 . subst hb;rw[bA]at q;cases q;exact new
 . rw[a_ hb]at q
   by_cases tX:b=e
   . have q':H b=some (.own x):=by
       rcases he with z|z
       . exact absurd (tX.trans z) hb
       . rw[tX];exact z
     rw[q]at q';cases q'
     obtain⟨v,hv⟩:=wK
     exact⟨v,by rw[tX];exact hv⟩
   . refine(ok b u q).iy (λc v hc r=>k c v ?_ r) (λc r=>by rw[a_ (Ji c b r)];exact r) λc xs r=>by rw[a_ (Ro c xs r)];exact r
     rcases hc with rfl|hc
     . exact tX
     . rintro rfl
       rcases he with z|z
       . exact Ji c b hc z
       . rw[hc]at z;cases z;exact hb rfl
end
structure Un (fs ex:List Addr)(H H':Hp)(h h':Heap):Prop where
 keep:∀b o,h.get? b=some o->H b=none->b ∉ fs->b ∉ ex->h'.get? b=some o
 slot:∀b o,h.get? b=some o->H b=none->b∈fs->b ∉ ex->∃sl,h'.get? b=some { o with slots:=sl }
 free:∀b o,h.get? b=some o->H b=none->b ∉ ex->H' b=none
 there:∀b o,h.get? b=some o->b ∉ ex->∃o',h'.get? b=some o'
 l_:∀b xs,H b=some (.tup xs)->H' b=some (.tup xs)
 la:∀b o u,H b=some (.kz o u)->H' b=some (.kz o u)
 ma:∀b ps,H b=some (.jU ps)->∃more,H' b=some (.jU (ps++more))
section
variable {fs Ym ex Yn:List Addr}{H H1 H2:Hp}{h h1 h2 h':Heap}{a x e:Addr}{o:HO}
theorem Un.any (u:Un fs ex H H1 h h1){b:Addr}{ob:Obj}(q:h.get? b=some ob)(n:H b=none)(hx:b ∉ ex):∃sl,h1.get? b=some { ob with slots:=sl }:=by
 by_cases hb:b∈fs
 . exact u.slot b ob q n hb hx
 . exact⟨ob.slots,u.keep b ob q n hb hx⟩
theorem Un.kept (k:∀b u,h.get? b=some u->h'.get? b=some u):Un fs ex H H h h' :=
 ⟨λb ob q _ _ _=>k b ob q,λb ob q _ _ _=>⟨ob.slots,k b ob q⟩,λ_ _ _ n _=>n,λb ob q _=>⟨ob,k b ob q⟩,λ_ _ q=>q,λ_ _ _ q=>q,λ_ ps q=>⟨#[],by rw[q];simp⟩⟩
theorem Un.refl:Un fs ex H H h h:=Un.kept λ_ _ q=>q
theorem Un.laid (k:∀b u,h.get? b=some u->h'.get? b=some u)(hp:h.objs.size<=a)(hn:H a=none):Un fs ex H (upd H a o) h h' where
 keep:=λb u q _ _ _=>k b u q
 slot:=λb u q _ _ _=>⟨u.slots,k b u q⟩
 free:=λb u q n _=>by rw[a_ (Zk (ZD (Zf q) hp))];exact n
 there:=λb u q _=>⟨u,k b u q⟩
 l_:=λb xs q=>by rw[a_ (b9 q hn)];exact q
 la:=λb u xs q=>by rw[a_ (b9 q hn)];exact q
 ma:=λb ps q=>⟨#[],by rw[a_ (b9 q hn),q];simp⟩
theorem Un.write (mu:En (H x))(he:e=x\/H e=some (.own x))(k:∀b u,b≠e->h.get? b=some u->h'.get? b=some u)(wK:∃u,h'.get? e=some u):Un fs ex H (upd H x o) h h':=by
 have hx:∀b,H b=none->b≠x:=λb n z=>by subst z;rw[n]at mu;exact mu
 have hb:∀b,H b=none->b≠e:=λb n z=>by
   subst z
   rcases he with r|r
   . exact hx b n r
   . rw[n]at r;cases r
 have hm:∀b u,H b=some u->¬En (some u)->b≠x:=λb u q nm z=>by subst z;rw[q]at mu;exact nm mu
 refine⟨λb u q n _ _=>k b u (hb b n) q,λb u q n _ _=>⟨u.slots,k b u (hb b n) q⟩,λb u q n _=>by rw[a_ (hx b n)];exact n,λb u q _=>?_,
   λb xs q=>by rw[a_ (hm b _ q λz=>z)];exact q,λb u xs q=>by rw[a_ (hm b _ q λz=>z)];exact q,λb ps q=>⟨#[],by rw[a_ (hm b _ q λz=>z),q];simp⟩⟩
 by_cases tX:b=e
 . subst tX;exact wK
 . exact⟨u,k b u tX q⟩
end
noncomputable def rL (h:Heap)(H:Hp):List Addr:=(Y9 h.objs.size).filter λa=>(H a).isSome
noncomputable def lb (h:Heap)(H:Hp):Heap:=PySem.W.hideAll h (rL h H)
theorem zO (h:Heap)(H:Hp):(lb h H).objs.size=h.objs.size:=PySem.W.hideAll_size _ _
theorem Cc {h:Heap}{H:Hp}{b:Addr}{o:Obj}(e:h.get? b=some o)(n:H b=none):(lb h H).get? b=some o :=
 PySem.W.hideAll_get _ e λhm=>by
  have q:(H b).isSome=true:=(Zt.mp hm).2
  rw[n]at q;simp at q
theorem GD {h:Heap}{H:Hp}{b:Addr}{o:Obj}(e:(lb h H).get? b=some o):h.get? b=some o/\H b=none:=by
 have e':h.get? b=some o:=PySem.W.of_hideAll (rL h H) e
 refine⟨e',?_⟩
 cases q:H b with
 |none=>rfl
 |some x =>
  have hm:b∈rL h H:=Zt.mpr ⟨Zm.mpr (Zf e'),by simp[q]⟩
  have z:(lb h H).get? b=none:=PySem.W.hideAll_none (rL h H) hm
  rw[z]at e;cases e
noncomputable def GF (g h:Heap)(L:Addr):List (Addr×Obj):=(Y9 h.objs.size).filterMap λa=>if a=L\/(g.get? a).isSome=true then none else(h.get? a).map λo=>(a,o)
noncomputable def rest (g h:Heap)(L d:Addr):List (Addr×Obj):=(GF g h L).filter λp=>decide (p.1≠d)
structure Mod (K:PySem.W.Frag)(mg:Str->Option Value)(base:Heap):Prop where
 zP:K.In base
 glob:base.Ns ZX mg
 blt:∃mb,base.Ns adt mb /\ ∀x:Str,x ≠ "__name__"->mb x=aaK x
 nolimit:base.NoLimit
structure Cx where
 prog:ZC
 w:World
 K:PySem.W.Frag
 mg:Str->Option Value
 base:Heap
 A:Zz
 N:List Str
 s₀:Y4
 H₀:Hp
 env:Env
 outer:List Env
 stack:List Env
 ex:List Addr
 fn:Str->Bool
 calm:Bool
 pn:List (Addr×Obj)
 xe:Value->Y4->Prop
noncomputable def lN (l:List Env):List Addr:=l.filterMap (·.frame)
noncomputable abbrev Cx.fs (X:Cx):List Addr:=lN X.outer
noncomputable def Jj (sc:Scope)(x:Str):Prop:=sc.names.lookup x=some .local\/sc.names.lookup x=some .cell\/sc.names.lookup x=some .free
noncomputable def Loc (sc:Scope)(x:Str):Prop:=sc.names.lookup x=some .local\/sc.names.lookup x=some .cell
noncomputable def Look (env:Env)(h:Heap)(m:Str->Option Value)(x:Str)(u:Value):Prop :=
 (env.kindOf x=some .local/\m x=some u)\/((env.kindOf x=some .cell\/env.kindOf x=some .free) /\ ∃c,env.cells.lookup x=some c/\h.IsCell c (some u))
structure Cx.Ok (X:Cx):Prop where
 mod:Mod X.K X.mg X.base
 kind:X.env.scope.kind = .function
 glob:X.env.globals=ZX
 blt:X.env.builtins=adt
 above:X.s₀.heap.objs.size<=X.env.locals
 inj:∀x y c,X.env.cells.lookup x=some c->X.env.cells.lookup y=some c->x=y
 has:∀x,(X.env.kindOf x=some .cell\/X.env.kindOf x=some .free)->∃c,X.env.cells.lookup x=some c
 zQ:∀x c,X.fn x=true->X.env.cells.lookup x=some c->X.s₀.heap.objs.size<=c
 hd:X.calm=true->X.A.handled=none
 frames:X.A.frames=some X.stack
 tY:X.stack=X.outer\/(X.stack=X.env::X.outer/\X.env.frame=some X.env.locals)
 Jk:∀b∈X.ex,b≠X.env.locals /\ ∀x c,X.env.cells.lookup x=some c->c≠b
 bs:∀b o,X.base.get? b=some o->X.s₀.heap.get? b=some o/\X.H₀ b=none
 rM:X.base.objs.size<=X.s₀.heap.objs.size
 tZ:∀b o,X.base.get? b=some o->b ∉ X.ex
 t6:∀b∈X.ex,b ∉ X.fs
 jx:X.s₀.heap.FunFrames X.base X.outer
 wL:∀b∈X.fs,X.H₀ b=none
structure Inv (X:Cx)(pins:List (Addr×Obj))(σ:List (Option V))(H:Hp)(s:Y4):Prop where
 ok:X.Ok
 os:s.os=X.s₀.os
 bare:acC s.gens
 base:Un X.fs X.ex X.H₀ H X.s₀.heap s.heap
 loc:∃m,s.heap.Ns X.env.locals m /\ ∀(i:Nat) (x:Str) (v:V),X.N[i]? = some x->σ[i]? = some (some v)->Jj X.env.scope x->∃u,RelV v u/\Look X.env s.heap m x u
 cell:∀x c,X.env.cells.lookup x=some c->∃v,s.heap.IsCell c v
 free:H X.env.locals=none
 iJ:∀x c,X.env.cells.lookup x=some c->H c=none
 pin:∀p∈X.pn++pins,s.heap.get? p.1=some p.2/\H p.1=none/\p.1≠X.env.locals/\p.1 ∉ X.fs /\ ∀v,p.2.data ≠ .cell v
 bJ:fE X.prog X.w H s.heap
 len:σ.length=X.N.length
section
variable {X:Cx}{pins:List (Addr×Obj)}{σ:List (Option V)}{H H':Hp}{s:Y4}{h':Heap}
theorem Cx.Ok.Rp (ok:X.Ok){b:Addr}{o:Obj}(e:X.base.get? b=some o):b ∉ X.fs:=λhb=>by
 have:=(ok.jx.mem hb).1
 rw[e]at this;cases this
theorem Inv.bs (I:Inv X pins σ H s):∀b o,X.base.get? b=some o->s.heap.get? b=some o/\H b=none:=λb o e =>
 ⟨I.base.keep b o (I.ok.bs b o e).1 (I.ok.bs b o e).2 (I.ok.Rp e) (I.ok.tZ b o e),I.base.free b o (I.ok.bs b o e).1 (I.ok.bs b o e).2 (I.ok.tZ b o e)⟩
theorem Inv.bk (I:Inv X pins σ H s):∀b o,X.base.get? b=some o->s.heap.get? b=some o:=λb o e=>(I.bs b o e).1
theorem Inv.mod (I:Inv X pins σ H s):Mod X.K X.mg X.base:=I.ok.mod
theorem Inv.i9 (I:Inv X pins σ H s):X.K.In s.heap:=I.ok.mod.zP.keeps I.bk
theorem Inv.lt (I:Inv X pins σ H s):X.env.locals<s.heap.objs.size:=let⟨_,hn,_⟩:=I.loc;hn.lt
theorem Inv.sz (I:Inv X pins σ H s):X.s₀.heap.objs.size<=s.heap.objs.size:=aaa I.ok.above (abv I.lt)
theorem Inv.Rq (I:Inv X pins σ H s){a:Addr}(h:s.heap.objs.size<=a):a ∉ X.fs:=λhb=>by
 obtain⟨_,o,ho,_⟩:=I.ok.jx.mem hb
 exact absurd (ZD (Zf ho) (aaa I.sz h)) (aaz _)
theorem Inv.t7 (I:Inv X pins σ H s):∀x c,X.env.cells.lookup x=some c->c≠X.env.locals:=λx c e z=>by
 obtain⟨v,o,ho,hd⟩:=I.cell x c e
 obtain⟨m,⟨o',es,ep,ig,Jl,_⟩,_⟩:=I.loc
 rw[z,ig]at ho;cases ho;rw[Jl]at hd;cases hd
theorem Inv.jx (I:Inv X pins σ H s):s.heap.FunFrames X.base X.outer:=by
 have all:∀(l:List Env),(∀b∈lN l,b∈X.fs)->X.s₀.heap.FunFrames X.base l->s.heap.FunFrames X.base l:=by
  intro l
  induction l with
  |nil=>intro _ _;trivial
  |cons env r ih =>
   intro hs hl
   obtain⟨hk,⟨L,o,hf,hn,ho,hd⟩,hr⟩:=hl
   have hL:L∈X.fs:=hs L (by unfold lN;rw[aag,hf];exact Zp)
   obtain⟨sl,e⟩:=I.base.slot L o ho (I.ok.wL L hL) hL λz=>I.ok.t6 L z hL
   exact⟨hk,⟨L,_,hf,hn,e,hd⟩,ih (λb hb=>hs b (by unfold lN;rw[aag,hf];exact Zs _ hb)) hr⟩
 exact all X.outer (λ_ hb=>hb) I.ok.jx
theorem Inv.stack (I:Inv X pins σ H s):s.heap.FunFrames X.base X.stack:=by
 rcases I.ok.tY with e|⟨e,hf⟩
 . rw[e];exact I.jx
 . rw[e]
   obtain⟨m,hn,_⟩:=I.loc
   refine .cons (by rw[I.ok.kind];decide) hf hn ?_ I.jx
   exact aen (aaa I.ok.rM I.ok.above)
theorem Inv.t8 (I:Inv X pins σ H s):∀b∈lN X.stack,b∈X.env.locals::X.fs:=λb hb=>by
 rcases I.ok.tY with e|⟨e,hf⟩
 . rw[e]at hb;exact Zs _ hb
 . rw[e]at hb
   unfold lN at hb
   rw[aag,hf]at hb
   exact hb
theorem Inv.wM (I:Inv X pins σ H s):∀b∈lN X.stack,H b=none:=λb hb=>by
 rcases Zd.mp (I.t8 b hb)with e|hb
 . rw[e];exact I.free
 . obtain⟨_,o,ho,_⟩:=I.ok.jx.mem hb
   exact I.base.free b o ho (I.ok.wL b hb) λz=>I.ok.t6 b z hb
theorem Inv.step {g':Array GenState}{t':Nat}{d':Drawn}{ch:List Addr}(I:Inv X pins σ H s)
   (nM:∀b∈ch,(b∈X.ex\/X.s₀.heap.objs.size<=b)/\b≠X.env.locals/\(∀x c,X.env.cells.lookup x=some c->c≠b) /\ ∀p∈X.pn++pins,p.1≠b)
   (keep:∀b o,b≠X.env.locals->b ∉ X.fs->b ∉ ch->s.heap.get? b=some o->H b=none->h'.get? b=some o)
   (slot:∀b o,b≠X.env.locals->b∈X.fs->b ∉ ch->s.heap.get? b=some o->H b=none->∃sl,h'.get? b=some { o with slots:=sl }) (free:∀b o,b ∉ ch->s.heap.get? b=some o->H b=none->H' b=none)
   (there:∀b o,b ∉ ch->s.heap.get? b=some o->∃o',h'.get? b=some o')
   (l_:∀b xs,H b=some (.tup xs)->H' b=some (.tup xs)) (la:∀b o u,H b=some (.kz o u)->H' b=some (.kz o u)) (ma:∀b ps,H b=some (.jU ps)->∃more,H' b=some (.jU (ps++more)))
   (ns:∀m,s.heap.Ns X.env.locals m->h'.Ns X.env.locals m) (bJ:fE X.prog X.w H' h') (hg:acC g'):
   Inv X pins σ H' { s with heap:=h',gens:=g',drawn:=d',toks:=t' }:=by
 have PJ:∀b o,X.s₀.heap.get? b=some o->b≠X.env.locals:=λb o e=>Zk (ZD (Zf e) I.ok.above)
 have Eo:∀b o,X.s₀.heap.get? b=some o->b ∉ X.ex->b ∉ ch:=λb o e hx hb=>by
   rcases (nM b hb).1 with z|z
   . exact hx z
   . exact absurd (ZD (Zf e) z) (aaz _)
 have cellK:∀x c,X.env.cells.lookup x=some c->∀v,s.heap.IsCell c v->h'.IsCell c v:=λx c e v ⟨o,ho,hd⟩=>by
   have zR:c ∉ ch:=λz=>(nM c z).2.2.1 x c e rfl
   by_cases hc:c∈X.fs
   . obtain⟨sl,q⟩:=slot c o (I.t7 x c e) hc zR ho (I.iJ x c e)
     exact⟨_,q,hd⟩
   . exact⟨o,keep c o (I.t7 x c e) hc zR ho (I.iJ x c e),hd⟩
 refine⟨I.ok,I.os,hg,⟨λb o e n hb hx=>?_,λb o e n hb hx=>?_,λb o e n hx=>?_,λb o e hx=>?_,λb xs e=>l_ b xs (I.base.l_ b xs e),λb o xs e=>la b o xs (I.base.la b o xs e),λb ps e=>?_⟩,?_,λx c e=>?_,?_,λx c e=>?_,λp hp=>?_,bJ,I.len⟩
 . exact keep b o (PJ b o e) hb (Eo b o e hx) (I.base.keep b o e n hb hx) (I.base.free b o e n hx)
 . obtain⟨sl,e1⟩:=I.base.slot b o e n hb hx
   obtain⟨Vs,e2⟩:=slot b _ (PJ b o e) hb (Eo b o e hx) e1 (I.base.free b o e n hx)
   exact⟨Vs,e2⟩
 . obtain⟨o',e1⟩:=I.base.there b o e hx
   exact free b o' (Eo b o e hx) e1 (I.base.free b o e n hx)
 . obtain⟨o',e1⟩:=I.base.there b o e hx
   exact there b o' (Eo b o e hx) e1
 . obtain⟨m1,e1⟩:=I.base.ma b ps e
   obtain⟨m2,e2⟩:=ma b _ e1
   exact⟨m1++m2,by rw[e2,Array.append_assoc]⟩
 . obtain⟨m,hn,hl⟩:=I.loc
   refine⟨m,ns m hn,λi x v e1 e2 e3=>?_⟩
   obtain⟨u,r,l⟩:=hl i x v e1 e2 e3
   refine⟨u,r,?_⟩
   rcases l with l|⟨k,c,e,z⟩
   . exact .inl l
   . exact .inr ⟨k,c,e,cellK x c e _ z⟩
 . obtain⟨v,z⟩:=I.cell x c e
   exact⟨v,cellK x c e v z⟩
 . obtain⟨m,⟨o,_,_,ho,_⟩,_⟩:=I.loc
   exact free _ o (λz=>(nM _ z).2.1 rfl) ho I.free
 . obtain⟨v,o,ho,hd⟩:=I.cell x c e
   exact free c o (λz=>(nM c z).2.2.1 x c e rfl) ho (I.iJ x c e)
 . obtain⟨e,n,ne,nf,d⟩:=I.pin p hp
   have zR:p.1 ∉ ch:=λz=>(nM p.1 z).2.2.2 p hp rfl
   exact⟨keep p.1 p.2 ne nf zR e n,free p.1 p.2 zR e n,ne,nf,d⟩
theorem Inv.un {t':Nat}(I:Inv X pins σ H s)(u:Un X.fs [] H H' s.heap h')(bJ:fE X.prog X.w H' h'):Inv X pins σ H' { s with heap:=h',toks:=t' }:=by
 obtain⟨m,⟨o,es,ep,ho,r⟩,_⟩:=id I.loc
 obtain⟨sl,hL⟩:=u.any ho I.free (by simp)
 exact I.step (g':=s.gens) (d':=s.drawn) (ch:=[]) (λ_ z=>nomatch z) (λb o _ hb _ e n=>u.keep b o e n hb (by simp)) (λb o _ hb _ e n=>u.slot b o e n hb (by simp)) (λb o _ e n=>u.free b o e n (by simp)) (λb o _ e=>u.there b o e (by simp)) u.l_ u.la u.ma (λm' hm=>by
  obtain⟨o',bV,Jm,ig,r'⟩:=hm
  rw[ho]at ig;cases ig
  exact⟨_,bV,Jm,hL,r'⟩) bJ I.bare
theorem Inv.call {g':Array GenState}{t':Nat}{d':Drawn}{ch:List Addr}(I:Inv X pins σ H s)(u:Un (lN X.stack) ch H H' s.heap h')(bJ:fE X.prog X.w H' h')(hg:acC g')
  (nM:∀b∈ch,(b∈X.ex\/X.s₀.heap.objs.size<=b)/\b≠X.env.locals/\(∀x c,X.env.cells.lookup x=some c->c≠b) /\ ∀p∈X.pn++pins,p.1≠b):
  Inv X pins σ H' { s with heap:=h',gens:=g',drawn:=d',toks:=t' }:=by
 obtain⟨m,⟨o,es,ep,ho,r⟩,_⟩:=id I.loc
 obtain⟨sl,hL⟩:=u.any ho I.free λz=>(nM _ z).2.1 rfl
 exact I.step (ch:=ch) nM (λb o hL hb hc e n=>u.keep b o e n (λz=>(Zd.mp (I.t8 b z)).elim hL hb) hc) (λb o _ _ hc e n=>u.any e n hc) (λb o hc e n=>u.free b o e n hc) (λb o hc e=>u.there b o e hc) u.l_ u.la u.ma (λm' hm=>by
  obtain⟨o',bV,Jm,ig,r'⟩:=hm
  rw[ho]at ig;cases ig
  exact⟨_,bV,Jm,hL,r'⟩) bJ hg
theorem Inv.turned {t':Nat}{it:Addr}(I:Inv X pins σ H s)(k:∀b o,b≠it->s.heap.get? b=some o->h'.get? b=some o)(hn:H it=none)(hL:it≠X.env.locals)
   (h1:it∈X.ex\/X.s₀.heap.objs.size<=it) (h2:∀x c,X.env.cells.lookup x=some c->c≠it) (h3:∀p∈X.pn++pins,p.1≠it):Inv X pins σ H { s with heap:=h',toks:=t' }:=by
 have zS:∀b u,H b=some u->b≠it:=λb u e z=>by rw[z,hn]at e;cases e
 refine I.step (g':=s.gens) (d':=s.drawn) (ch:=[it]) (λb hb=>?_) (λb o _ _ hc e _=>k b o (λz=>hc (by simp[z])) e) (λb o _ _ hc e _=>⟨o.slots,k b o (λz=>hc (by simp[z])) e⟩) (λ_ _ _ _ n=>n)
   (λb o hc e=>⟨o,k b o (λz=>hc (by simp[z])) e⟩) (λ_ _ e=>e) (λ_ _ _ e=>e) (λb ps e=>⟨#[],by rw[e];simp⟩) (λm hm=>?_) (λb u e=>?_) I.bare
 . have e:b=it:=by simpa using hb
   subst e
   exact⟨h1,hL,h2,h3⟩
 . obtain⟨o,es,ep,ho,r⟩:=hm
   exact⟨o,es,ep,k _ o (aa0 hL) ho,r⟩
 . refine(I.bJ b u e).iy (λc v hc q=>k c v ?_ q) (λ_ q=>q) λ_ _ q=>q
   rcases hc with z|z
   . rw[z];exact zS b u e
   . exact zS c _ z
theorem Inv.tok (I:Inv X pins σ H s)(t:Nat):Inv X pins σ H { s with toks:=t }:=I.un (h':=s.heap) (t':=t) Un.refl I.bJ
theorem Inv.kept {t':Nat}(I:Inv X pins σ H s)(k:∀b u,s.heap.get? b=some u->h'.get? b=some u):Inv X pins σ H { s with heap:=h',toks:=t' }:=I.un (Un.kept k) (I.bJ.kept k)
theorem Inv.laid {a:Addr}{o:HO}{t':Nat}(I:Inv X pins σ H s)(k:∀b u,s.heap.get? b=some u->h'.get? b=some u)(hp:s.heap.objs.size<=a)(new:cW X.prog X.w (upd H a o) h' a o):
 Inv X pins σ (upd H a o) { s with heap:=h',toks:=t' }:=I.un (Un.laid k hp (I.bJ.fresh hp)) (I.bJ.laid k hp new)
theorem Inv.write {x e:Addr}{o:HO}{t':Nat}(I:Inv X pins σ H s)(mu:En (H x))(he:e=x\/H e=some (.own x))(k:∀b u,b≠e->s.heap.get? b=some u->h'.get? b=some u)(wK:∃u,h'.get? e=some u)
 (new:cW X.prog X.w (upd H x o) h' x o):Inv X pins σ (upd H x o) { s with heap:=h',toks:=t' }:=I.un (Un.write mu he k wK) (I.bJ.write mu he k wK new)
theorem Inv.wN {Ep:List (Addr×Obj)}(I:Inv X pins σ H s)(h:∀p∈Ep,s.heap.get? p.1=some p.2/\H p.1=none/\p.1≠X.env.locals/\p.1 ∉ X.fs /\ ∀v,p.2.data ≠ .cell v):Inv X Ep σ H s :=
 ⟨I.ok,I.os,I.bare,I.base,I.loc,I.cell,I.free,I.iJ,λp hp=>(Ze.mp hp).elim (λz=>I.pin p (aeo _ z)) (h p),I.bJ,I.len⟩
theorem t9 {N:List Str}(hN:N.Nodup){i j:Nat}{x:Str}(a:N[i]? = some x)(b:N[j]? = some x):i=j:=by
 obtain⟨h1,e1⟩:=Y7.mp a
 obtain⟨h2,e2⟩:=Y7.mp b
 exact(adD hN).mp (e1.trans e2.symm)
theorem rN {M:Model}{A:Zz}{E:Value->Y4->Prop}{i:Nat}{x:Str}{v:V}{u:Value}{Q:Unit->Y4->Prop}(I:Inv X pins σ H s)(hN:X.N.Nodup)(hi:X.N[i]? = some x)(hx:Loc X.env.scope x)(r:RelV v u)
   (h:∀s',Inv X pins (σ.set i (some v)) H s'->(∃a,abR a s.heap s'.heap/\(a=X.env.locals\/X.env.cells.lookup x=some a))->Q () s') (hf:X.fn x=true\/X.env.scope.names.lookup x=some .local:=by first|exact .inl rfl|exact .inr rfl|assumption):wpAny M A (storeName X.env x u) Q E s:=by
 obtain⟨m,hn,hl⟩:=id I.loc
 have Rr:(X.env.scope.kind == .class||(X.env.scope.kind == .module&&X.env.locals != X.env.globals))=false:=by rw[I.ok.kind];rfl
 have hiσ:i < σ.length:=by rw[I.len];exact(Y7.mp hi).1
 have t7:=I.t7
 have tracked:∀{a:Addr} {h':Heap},(∃o,s.heap.get? a=some o/\H a=none)->abR a s.heap h'->fE X.prog X.w H h':=fun {a h'} ha hs b ob e=>by
   obtain⟨_,_,oU⟩:=ha
   refine(I.bJ b ob e).iy (λc w' hc q=>(hs.2 c ?_).trans q) (λ_ q=>q) λ_ _ q=>q
   rintro rfl
   rcases hc with rfl|hc
   . rw[oU]at e;cases e
   . rw[oU]at hc;cases hc
 rcases hx with hk|hk
 . refine wpAny_storeName_local hk hn (λh' Vt hs=>?_) Rr
   obtain⟨oL,_,_,rO,_⟩:=id hn
   refine h _ ⟨I.ok,I.os,I.bare,⟨λb o e n hb hx=>?_,λb o e n hb hx=>?_,I.base.free,λb o e hx=>?_,I.base.l_,I.base.la,I.base.ma⟩,⟨_,Vt,λj y v' e1 e2 e3=>?_⟩,λy c e=>?_,I.free,I.iJ,λp hp=>?_,tracked ⟨oL,rO,I.free⟩ hs,by simpa using I.len⟩ ⟨_,hs,.inl rfl⟩
   . exact(hs.2 b (Zk (ZD (Zf e) I.ok.above))).trans (I.base.keep b o e n hb hx)
   . obtain⟨sl,e1⟩:=I.base.slot b o e n hb hx
     exact⟨sl,(hs.2 b (Zk (ZD (Zf e) I.ok.above))).trans e1⟩
   . obtain⟨o',e1⟩:=I.base.there b o e hx
     exact⟨o',(hs.2 b (Zk (ZD (Zf e) I.ok.above))).trans e1⟩
   . by_cases hj:j=i
     . subst hj
       rw[hi]at e1;cases e1
       rw[aao hiσ]at e2
       cases e2
       exact⟨u,r,.inl ⟨hk,by simp⟩⟩
     . rw[ZK (aa0 hj)]at e2
       obtain⟨u',r',q⟩:=hl j y v' e1 e2 e3
       refine⟨u',r',?_⟩
       rcases q with⟨k,e⟩|⟨k,c,e,z⟩
       . refine .inl ⟨k,?_⟩
         have:y≠x:=λe=>hj (t9 hN e1 (e ▸ hi))
         simp[this,e]
       . exact .inr ⟨k,c,e,z.sameBut hs (t7 y c e)⟩
   . obtain⟨w',z⟩:=I.cell y c e
     exact⟨w',z.sameBut hs (t7 y c e)⟩
   . obtain⟨e,n,ne,nf,d⟩:=I.pin p hp
     exact⟨(hs.2 p.1 ne).trans e,n,ne,nf,d⟩
 . have t_:X.fn x=true:=by
     rcases hf with z|z
     . exact z
     . rw[z]at hk;cases hk
   obtain⟨c,hc⟩:=I.ok.has x (.inl hk)
   obtain⟨w',z⟩:=I.cell x c hc
   refine wpAny_storeName_cell I.ok.kind hk hc z (λh' rP hs=>?_)
   obtain⟨oc,PK,Ru⟩:=id z
   refine h { s with heap:=h' } ⟨I.ok,I.os,I.bare,⟨λb o e n hb hx=>?_,λb o e n hb hx=>?_,I.base.free,λb o e hx=>?_,I.base.l_,I.base.la,I.base.ma⟩,⟨m,hn.sameBut hs (aa0 (t7 x c hc)),λj y v' e1 e2 e3=>?_⟩,λy c' e=>?_,I.free,I.iJ,λp hp=>?_,tracked ⟨oc,PK,I.iJ x c hc⟩ hs,by simpa using I.len⟩ ⟨c,hs,.inr hc⟩
   . exact(hs.2 b (Zk (ZD (Zf e) (I.ok.zQ x c t_ hc)))).trans (I.base.keep b o e n hb hx)
   . obtain⟨sl,e1⟩:=I.base.slot b o e n hb hx
     exact⟨sl,(hs.2 b (Zk (ZD (Zf e) (I.ok.zQ x c t_ hc)))).trans e1⟩
   . obtain⟨o',e1⟩:=I.base.there b o e hx
     exact⟨o',(hs.2 b (Zk (ZD (Zf e) (I.ok.zQ x c t_ hc)))).trans e1⟩
   . by_cases hj:j=i
     . subst hj
       rw[hi]at e1;cases e1
       rw[aao hiσ]at e2
       cases e2
       exact⟨u,r,.inr ⟨.inl hk,c,hc,rP⟩⟩
     . rw[ZK (aa0 hj)]at e2
       obtain⟨u',r',q⟩:=hl j y v' e1 e2 e3
       refine⟨u',r',?_⟩
       rcases q with q|⟨k,c',e,z'⟩
       . exact .inl q
       . refine .inr ⟨k,c',e,z'.sameBut hs ?_⟩
         rintro rfl
         exact hj (t9 hN e1 (I.ok.inj _ _ _ e hc ▸ hi))
   . by_cases PL:c'=c
     . subst PL;exact⟨_,rP⟩
     . obtain⟨w2,z2⟩:=I.cell y c' e
       exact⟨w2,z2.sameBut hs PL⟩
   . obtain⟨e,n,ne,nf,d⟩:=I.pin p hp
     refine⟨(hs.2 p.1 ?_).trans e,n,ne,nf,d⟩
     intro q
     rw[q,PK]at e
     have q':oc=p.2:=aas e
     exact d w' (by rw[<- q'];exact Ru)
theorem gz {M:Model}{A:Zz}{E:Value->Y4->Prop}{i:Nat}{x:Str}{v:V}{u:Value}{Q:Unit->Y4->Prop}(I:Inv X pins σ H s)(hN:X.N.Nodup)(hi:X.N[i]? = some x)(hx:Loc X.env.scope x)(r:RelV v u)
  (h:∀s',Inv X pins (σ.set i (some v)) H s'->Q () s') (hf:X.fn x=true\/X.env.scope.names.lookup x=some .local:=by first|exact .inl rfl|exact .inr rfl|assumption):wpAny M A (storeName X.env x u) Q E s :=
 rN I hN hi hx r (λs' I' _=>h s' I') hf
theorem Inv.Oc {s':Y4}{ch:List Addr}(I:Inv X pins σ H s)(ho:s'.os=s.os)(u:Un (lN X.stack) ch H H' s.heap s'.heap)(bJ:fE X.prog X.w H' s'.heap)(hg:acC s'.gens)
  (nM:∀b∈ch,(b∈X.ex\/X.s₀.heap.objs.size<=b)/\b≠X.env.locals/\(∀x c,X.env.cells.lookup x=some c->c≠b) /\ ∀p∈X.pn++pins,p.1≠b):Inv X pins σ H' s':=by
 obtain⟨h',g',d',t',o'⟩:=s'
 have e:o'=s.os:=ho
 subst e
 exact I.call (g':=g') (t':=t') (d':=d') u bJ hg nM
end
noncomputable abbrev XK:=Value->Option Addr->Hp->Prop
noncomputable abbrev St:=List (Option V)
noncomputable abbrev VK:=V->Hp->Prop
noncomputable abbrev TE:=St->Hp->VK->Prop
noncomputable abbrev TT:=St->Hp->(Bool->Hp->Prop)->Prop
noncomputable abbrev TA:=St->Hp->(List V->Hp->Prop)->Prop
structure Ends where
 nx:St->Hp->Prop
 rt:VK
 bk:St->Hp->Prop:=λ_ _=>False
 ct:St->Hp->Prop:=λ_ _=>False
noncomputable abbrev TS:=Ends->St->Hp->Prop
noncomputable def EP (X:Cx)(pins:List (Addr×Obj))(σ:St)(Q:VK)(u:Value)(s':Y4):Prop:=∃v H',Inv X pins σ H' s'/\RelV v u/\Q v H'
noncomputable def TP (X:Cx)(pins:List (Addr×Obj))(σ:St)(Q:Bool->Hp->Prop)(b:Bool)(s':Y4):Prop:=∃H',Inv X pins σ H' s'/\Q b H'
noncomputable def AP (X:Cx)(pins:List (Addr×Obj))(σ:St)(Q:List V->Hp->Prop)(us:List Value)(s':Y4):Prop:=∃vs H',Inv X pins σ H' s'/\Vals vs us/\Q vs H'
noncomputable def SP (X:Cx)(pins:List (Addr×Obj))(D:Ends)(f:Flow)(s':Y4):Prop :=
 match f with
 |.next=>∃σ' H',Inv X pins σ' H' s'/\D.nx σ' H'
 |.brk=>∃σ' H',Inv X pins σ' H' s'/\D.bk σ' H'
 |.cont=>∃σ' H',Inv X pins σ' H' s'/\D.ct σ' H'
 |.ret u=>∃v σ' H',Inv X pins σ' H' s'/\RelV v u/\D.rt v H'
noncomputable def PE (X:Cx)(e:Expr)(t:TE):Prop :=
 ∀(pins:List (Addr×Obj)) (s:Y4) (σ:St) (H:Hp) (Q:VK),Inv X pins σ H s->t σ H Q->wpAny (model X.prog X.w) X.A (eval e X.env) (EP X pins σ Q) X.xe s
noncomputable def PT (X:Cx)(e:Expr)(t:TT):Prop :=
 ∀(pins:List (Addr×Obj)) (s:Y4) (σ:St) (H:Hp) (Q:Bool->Hp->Prop),Inv X pins σ H s->t σ H Q->wpAny (model X.prog X.w) X.A (isTrue e X.env (eval e X.env)) (TP X pins σ Q) X.xe s
noncomputable def PW (X:Cx)(e:Expr)(t:TT):Prop :=
 ∀(whole:Sem Value) (pins:List (Addr×Obj)) (s:Y4) (σ:St) (H:Hp) (Q:Bool->Hp->Prop),Inv X pins σ H s->t σ H Q->wpAny (model X.prog X.w) X.A (isTrue e X.env whole) (TP X pins σ Q) X.xe s
theorem PW.pt {X:Cx}{e:Expr}{t:TT}(h:PW X e t):PT X e t:=h _
noncomputable def PA (X:Cx)(es:List Expr)(t:TA):Prop :=
 ∀(pos:Pos) (pins:List (Addr×Obj)) (s:Y4) (σ:St) (H:Hp) (Q:List V->Hp->Prop),Inv X pins σ H s->t σ H Q->wpAny (model X.prog X.w) X.A (spliced (abw pos (Zv es X.env))) (AP X pins σ Q) X.xe s
noncomputable def PS (X:Cx)(st:Stmt)(t:TS):Prop :=
 ∀(pins:List (Addr×Obj)) (s:Y4) (σ:St) (H:Hp) (D:Ends),Inv X pins σ H s->t D σ H->wpAny (model X.prog X.w) X.A (exec st X.env) (SP X pins D) X.xe s
noncomputable def gR (X:Cx)(st:List Stmt)(t:TS):Prop :=
 ∀(pins:List (Addr×Obj)) (s:Y4) (σ:St) (H:Hp) (D:Ends),Inv X pins σ H s->t D σ H->wpAny (model X.prog X.w) X.A (execs st X.env) (SP X pins D) X.xe s
theorem aX {α:Type}{t:Sem α}{Q Q':α->Y4->Prop}{M:Model}{A:Zz}{E:Value->Y4->Prop}{s:Y4}(h:wpAny M A t Q E s)(hQ:∀a s,Q a s->Q' a s):wpAny M A t Q' E s:=acH h hQ λ_ _ x=>x
section
variable {X:Cx}
noncomputable def Rv (i:Nat):TE:=λσ H Q=>∃v,σ[i]? = some (some v)/\Q v H
noncomputable def tC (v:V):TE:=λ_ H Q=>Q v H
theorem Jn {i:Nat}{x:Str}{pos:Pos}(hN:X.N[i]? = some x)(hv:Jj X.env.scope x)(hd:(x == ("__debug__":Str))=false:=by decide)(nO:(x == ("__classdict__":Str))=false:=by decide):PE X (.Name x pos) (Rv i):=by
 intro pins s σ H Q I h
 obtain⟨v,e,h⟩:=h
 obtain⟨m,hn,hl⟩:=I.loc
 obtain⟨u,r,l⟩:=hl i x v hN e hv
 have fin:EP X pins σ Q u s:=⟨v,H,I,r,h⟩
 rcases l with⟨hk,hm⟩|⟨hk,c,hc,s_⟩
 . exact wpAny_Name (wpAny_loadName_local I.ok.kind hk hn hm fin) hd
 . rcases hk with hk|hk
   . exact wpAny_Name (wpAny_loadName_cell I.ok.kind hk hc s_ fin) hd
   . exact wpAny_Name (wpAny_loadName_free I.ok.kind hk hc s_ fin nO) hd
theorem Jo {i j pos}:PE X (.Constant (.int i) j pos) (tC (.int i)):=λ_ _ _ H _ I h=>wpAny_Constant_int ⟨.int i,H,I.tok _,⟨_,rfl⟩,h⟩
theorem Oe {b j pos}:PE X (.Constant (.bool b) j pos) (tC (.bl b)):=λ_ _ _ H _ I h=>Constant_bool ⟨.bl b,H,I,rfl,h⟩
theorem Jp {j pos}:PE X (.Constant .none j pos) (tC .aA):=λ_ _ _ H _ I h=>Constant_none ⟨.aA,H,I,rfl,h⟩
theorem Jq {x j pos}:PE X (.Constant (.str x) j pos) (tC (.str x)):=λ_ _ _ H _ I h=>aeM ⟨.str x,H,I.tok _,⟨_,rfl⟩,h⟩
noncomputable def Gl (X:Cx)(x:Str):Prop:=X.env.kindOf x=some .globalImplicit
theorem qz {E:Value->Y4->Prop}{pins:List (Addr×Obj)}{s:Y4}{σ:St}{H:Hp}{x:Str}{u:Value}{pos:Pos}{Q:Value->Y4->Prop}(I:Inv X pins σ H s)(hg:Gl X x)(hm:X.mg x=some u)(h:Q u s)
  (hd:(x == ("__debug__":Str))=false:=by decide):wpAny (model X.prog X.w) X.A (eval (.Name x pos) X.env) Q E s :=
 adg I.ok.kind hg (Calls.loadGlobal_global (by rw[I.ok.glob];exact I.mod.glob.keeps I.bk) hm h) hd
theorem fZ {E:Value->Y4->Prop}{pins:List (Addr×Obj)}{s:Y4}{σ:St}{H:Hp}{x:Str}{u:Value}{pos:Pos}{Q:Value->Y4->Prop}(I:Inv X pins σ H s)(hg:Gl X x)(hm:X.mg x=none)(hv:aaK x=some u)(h:Q u s)
  (hn:x ≠ "__name__":=by decide) (hd:(x == ("__debug__":Str))=false:=by decide):wpAny (model X.prog X.w) X.A (eval (.Name x pos) X.env) Q E s:=by
 obtain⟨mb,h1,h2⟩:=I.mod.blt
 exact adg I.ok.kind hg (Calls.loadGlobal_builtin (by rw[I.ok.glob];exact I.mod.glob.keeps I.bk) hm (by rw[I.ok.blt];exact h1.keeps I.bk) ((h2 x hn).trans hv) h) hd
theorem wO {x:Str}{v:V}{u:Value}{pos:Pos}(hg:Gl X x)(hm:X.mg x=some u)(r:RelV v u)(hd:(x == ("__debug__":Str))=false:=by decide):PE X (.Name x pos) (tC v):=
 λ_ _ _ H _ I h=>qz I hg hm ⟨v,H,I,r,h⟩ hd
theorem GG {x:Str}{v:V}{u:Value}{pos:Pos}(hg:Gl X x)(hm:X.mg x=none)(hv:aaK x=some u)(r:RelV v u)(hn:x ≠ "__name__":=by decide)(hd:(x == ("__debug__":Str))=false:=by decide):PE X (.Name x pos) (tC v):=
 λ_ _ _ H _ I h=>fZ I hg hm hv ⟨v,H,I,r,h⟩ hn hd
variable {a b:Expr}{ta tb:TE}{pos:Pos}
noncomputable def tB (t:TE):TT:=λσ H Q=>t σ H λx H1=>∃c,x = .bl c/\Q c H1
variable {tA Er:TT}{rest:List Expr}
noncomputable def Rw (t u:TT):TT:=λσ H Q=>t σ H λc H1=>if c=true then u σ H1 Q else Q false H1
noncomputable def Vu (t u:TT):TT:=λσ H Q=>t σ H λc H1=>if c=true then Q true H1 else u σ H1 Q
noncomputable def Rx (t:TT):TT:=λσ H Q=>t σ H λc H1=>Q (!c) H1
theorem GH (ha:PT X a tA):PW X (.BoolOp .And [a] pos) tA:=by
 intro wh pins s σ H Q I h
 refine isTrue_and (aX (ha pins s σ H Q I h) λc s1 e=>?_)
 cases c with
 |true=>exact isTrue_and_nil e
 |false=>exact e
theorem Jr (ha:PT X a tA):PW X (.BoolOp .Or [a] pos) tA:=by
 intro wh pins s σ H Q I h
 refine isTrue_or (aX (ha pins s σ H Q I h) λc s1 e=>?_)
 cases c with
 |false=>exact isTrue_or_nil e
 |true=>exact e
theorem Js (ha:PT X a tA)(hb:PW X (.BoolOp .And (b::rest) pos) Er):PW X (.BoolOp .And (a::b::rest) pos) (Rw tA Er):=by
 intro wh pins s σ H Q I h
 refine isTrue_and (aX (ha pins s σ H _ I h) λc s1 ⟨H1,I1,q1⟩=>?_)
 cases c with
 |true=>exact hb wh pins s1 σ H1 Q I1 q1
 |false=>exact⟨H1,I1,q1⟩
theorem Of (ha:PT X a tA)(hb:PW X (.BoolOp .Or (b::rest) pos) Er):PW X (.BoolOp .Or (a::b::rest) pos) (Vu tA Er):=by
 intro wh pins s σ H Q I h
 refine isTrue_or (aX (ha pins s σ H _ I h) λc s1 ⟨H1,I1,q1⟩=>?_)
 cases c with
 |true=>exact⟨H1,I1,q1⟩
 |false=>exact hb wh pins s1 σ H1 Q I1 q1
theorem Jt (ha:PT X a tA):PT X (.UnaryOp .Not a pos) (Rx tA):=by
 intro pins s σ H Q I h
 exact isTrue_not (ha pins s σ H (λc H1=>Q (!c) H1) I h)
noncomputable def Og (ta tb:TE):TE:=λσ H Q=>ta σ H λx H1=>∃c,x = .bl c/\if c=true then tb σ H1 Q else Q (.bl false) H1
noncomputable def Ry (ta tb:TE):TE:=λσ H Q=>ta σ H λx H1=>∃c,x = .bl c/\if c=true then Q (.bl true) H1 else tb σ H1 Q
noncomputable def Oh (ta:TE):TE:=λσ H Q=>ta σ H λx H1=>∃c,x = .bl c/\Q (.bl (!c)) H1
theorem Ju {op}{t:TE}(h:PE X a t):PE X (.BoolOp op [a] pos) t:=λpins s σ H Q I hw=>BoolOp_one (h pins s σ H Q I hw)
theorem Jv (ha:PE X a ta)(hb:PE X (.BoolOp .And (b::rest) pos) tb):PE X (.BoolOp .And (a::b::rest) pos) (Og ta tb):=by
 intro pins s σ H Q I h
 refine BoolOp_and (aX (ha pins s σ H _ I h) λv s1 ⟨x,H1,I1,r1,q1⟩=>?_)
 obtain⟨c,rfl,q1⟩:=q1
 cases r1
 refine ZU ?_
 cases c with
 |true=>exact hb pins s1 σ H1 Q I1 q1
 |false=>exact⟨.bl false,H1,I1,rfl,q1⟩
theorem Oi (ha:PE X a ta)(hb:PE X (.BoolOp .Or (b::rest) pos) tb):PE X (.BoolOp .Or (a::b::rest) pos) (Ry ta tb):=by
 intro pins s σ H Q I h
 refine BoolOp_or (aX (ha pins s σ H _ I h) λv s1 ⟨x,H1,I1,r1,q1⟩=>?_)
 obtain⟨c,rfl,q1⟩:=q1
 cases r1
 refine ZU ?_
 cases c with
 |false=>exact hb pins s1 σ H1 Q I1 q1
 |true=>exact⟨.bl true,H1,I1,rfl,q1⟩
theorem Jw (ha:PE X a ta):PE X (.UnaryOp .Not a pos) (Oh ta):=by
 intro pins s σ H Q I h
 refine UnaryOp_ (aX (ha pins s σ H _ I h) λv s1 ⟨x,H1,I1,r1,q1⟩=>?_)
 obtain⟨c,rfl,q1⟩:=q1
 cases r1
 exact not_of (ZU ⟨.bl (!c),H1,I1,rfl,q1⟩)
noncomputable def Vv (t:TT)(ta tb:TE):TE:=λσ H Q=>t σ H λc H1=>if c=true then ta σ H1 Q else tb σ H1 Q
theorem Cd {c:Expr}(hc:PT X c tA)(ha:PE X a ta)(hb:PE X b tb):PE X (.IfExp c a b pos) (Vv tA ta tb):=by
 intro pins s σ H Q I h
 refine wpAny_IfExp (aX (hc pins s σ H _ I h) λd s1 ⟨H1,I1,q1⟩=>?_)
 cases d with
 |true=>exact ha pins s1 σ H1 Q I1 q1
 |false=>exact hb pins s1 σ H1 Q I1 q1
end
noncomputable def dq (K:PySem.W.Frag)(H:Hp)(a:Addr)(xs:List V):Prop :=
 Rd H a (.lst xs) \/
  ∃(o:Obj) (av:Array Value) (n:Nat),K.lookup a=some o/\o.cls = .type "list" /\ o.dict=none/\o.data = .seq av n/\av.size<=Zl/\Vals xs av.toList
noncomputable def dP (K:PySem.W.Frag)(H:Hp)(a:Addr)(xs:List V):Prop :=
 Rd H a (.tup xs) \/
  ∃(o:Obj) (av:Array Value) (n:Nat),K.lookup a=some o/\o.cls = .type "tuple" /\ o.dict=none/\o.data = .seq av n/\av.size<=Zl/\Vals xs av.toList
noncomputable def Rz:Value->Option V
 |.none=>some .aA
 |.bool b=>some (.bl b)
 |.int i _=>some (.int i)
 |.str x _=>some (.str x)
 |.bytes b _=>some (.zN b)
 |.float b _=>some (.fD b)
 |.ref a=>some (.ref a)
 |.type n=>some (.ty n)
 |_=>none
theorem RelV.abs {x:V}{u:Value}(r:RelV x u):Rz u=some x:=by
 cases x with
 |aA=>cases r;rfl
 |bl _=>cases r;rfl
 |int _=>obtain⟨t,rfl⟩:=r;rfl
 |str _=>obtain⟨t,rfl⟩:=r;rfl
 |zN _=>obtain⟨t,rfl⟩:=r;rfl
 |fD _=>obtain⟨t,rfl⟩:=r;rfl
 |ref _=>cases r;rfl
 |ty _=>cases r;rfl
theorem RelV.inj {x y:V}{u:Value}(r:RelV x u)(q:RelV y u):x=y:=aas (r.abs.symm.trans q.abs)
theorem Vals.inj:∀{xs ys:List V} {us:List Value},Vals xs us->Vals ys us->xs=ys
 |_,_,_,.nil,.nil=>rfl
 |_,_,_,.cons r t,.cons r' t'=>by rw[r.inj r',Vals.inj t t']
section
variable {X:Cx}{pins:List (Addr×Obj)}{σ:St}{H:Hp}{s:Y4}{a:Addr}{xs ys:List V}
theorem dq.of {K:PySem.W.Frag}(h:H a=some (.lst xs)):dq K H a xs:=.inl (.inl h)
theorem Inv.list (I:Inv X pins σ H s)(h:dq X.K H a xs):∃av:List Value,Vals xs av/\PlainL s.heap a av.toArray/\xs.length<=Zl:=by
 rcases h with h|⟨o,av,n,hk,hc,hd,hs,hz,r⟩
 . obtain⟨z,av,n,r,e⟩:=h.ok I.bJ
   exact⟨av,r,⟨_,n,e,rfl,rfl,rfl⟩,z⟩
 . refine⟨av.toList,r,⟨o,n,I.i9 a o hk,hc,hd,by simpa using hs⟩,?_⟩
   have e:=r.length
   simp only[acX]at e
   omega
theorem Inv.Jx (I:Inv X pins σ H s)(h:dP X.K H a xs):∃av:List Value,Vals xs av/\eX s.heap a av.toArray/\xs.length<=Zl:=by
 rcases h with h|⟨o,av,n,hk,hc,hd,hs,hz,r⟩
 . obtain⟨z,av,r,p⟩:=h.ok I.bJ
   exact⟨av,r,p,z⟩
 . refine⟨av.toList,r,⟨o,I.i9 a o hk,hc,⟨n,by simpa using hs⟩,hd⟩,?_⟩
   have e:=r.length
   simp only[acX]at e
   omega
theorem Inv.tuple (I:Inv X pins σ H s)(h:dP X.K H a xs):∃av:List Value,Vals xs av/\IsTup s.heap a av.toArray/\xs.length<=Zl :=
 let⟨av,r,p,z⟩:=I.Jx h
 ⟨av,r,p.t,z⟩
theorem Inv.ua (I:Inv X pins σ H s)(h:dq X.K H a xs)(h':dq X.K H a ys):xs=ys:=by
 obtain⟨av,r,⟨o,n,e,_,_,d⟩,_⟩:=I.list h
 obtain⟨its',r',⟨o',n',e',_,_,d'⟩,_⟩:=I.list h'
 rw[e]at e';cases e'
 rw[d]at d'
 injection d' with d1 _
 have:av=its':=by simpa using congrArg aeN d1
 subst this
 exact r.inj r'
theorem Inv.md (I:Inv X pins σ H s)(h:dP X.K H a xs)(h':dP X.K H a ys):xs=ys:=by
 obtain⟨av,r,⟨o,e,_,n,d⟩,_⟩:=I.tuple h
 obtain⟨its',r',⟨o',e',_,n',d'⟩,_⟩:=I.tuple h'
 rw[e]at e';cases e'
 rw[d]at d'
 injection d' with d1 _
 have:av=its':=by simpa using congrArg aeN d1
 subst this
 exact r.inj r'
end
noncomputable abbrev Cx.ka (X:Cx)(E:Value->Y4->Prop):Cx:={ X with xe:=E }
noncomputable abbrev Cx.wQ (X:Cx):Cx:=X.ka λ_ _=>False
theorem Cx.Ok.ka {X:Cx}(ok:X.Ok)(E:Value->Y4->Prop):(X.ka E).Ok :=
 ⟨ok.mod,ok.kind,ok.glob,ok.blt,ok.above,ok.inj,ok.has,ok.zQ,ok.hd,ok.frames,ok.tY,ok.Jk,ok.bs,ok.rM,ok.tZ,ok.t6,ok.jx,ok.wL⟩
theorem Cx.Ok.iP {X:Cx}{E:Value->Y4->Prop}(ok:(X.ka E).Ok):X.Ok :=
 ⟨ok.mod,ok.kind,ok.glob,ok.blt,ok.above,ok.inj,ok.has,ok.zQ,ok.hd,ok.frames,ok.tY,ok.Jk,ok.bs,ok.rM,ok.tZ,ok.t6,ok.jx,ok.wL⟩
section
variable {X:Cx}{pins:List (Addr×Obj)}{σ:St}{H:Hp}{s:Y4}{E:Value->Y4->Prop}
theorem Inv.ka (I:Inv X pins σ H s)(E:Value->Y4->Prop):Inv (X.ka E) pins σ H s:=⟨I.ok.ka E,I.os,I.bare,I.base,I.loc,I.cell,I.free,I.iJ,I.pin,I.bJ,I.len⟩
theorem Inv.iP (I:Inv (X.ka E) pins σ H s):Inv X pins σ H s:=⟨I.ok.iP,I.os,I.bare,I.base,I.loc,I.cell,I.free,I.iJ,I.pin,I.bJ,I.len⟩
theorem SP.iP {D:Ends}{f:Flow}{s':Y4}(h:SP (X.ka E) pins D f s'):SP X pins D f s':=by
 cases f with
 |next=>obtain⟨σ',H',I,q⟩:=h;exact⟨σ',H',I.iP,q⟩
 |brk=>obtain⟨σ',H',I,q⟩:=h;exact⟨σ',H',I.iP,q⟩
 |cont=>obtain⟨σ',H',I,q⟩:=h;exact⟨σ',H',I.iP,q⟩
 |ret u=>obtain⟨v,σ',H',I,r,q⟩:=h;exact⟨v,σ',H',I.iP,r,q⟩
theorem gR.wQ {st:List Stmt}{t:TS}(h:gR X.wQ st t):gR X st t:=λpins s σ H D I hw =>
 acH (h pins s σ H D (I.ka _) hw) (λ_ _ q=>q.iP) λ_ _ z=>abp z
end
section
variable {X:Cx}{st:Stmt}{rest:List Stmt}{t u:TS}{e:Expr}{te:TE}{pos:Pos}
noncomputable def yu:TS:=λD σ H=>D.nx σ H
noncomputable def RA (t u:TS):TS:=λD σ H=>t { D with nx:=u D } σ H
theorem GI:gR X [] yu:=λ_ _ σ H _ I h=>acI ⟨σ,H,I,h⟩
theorem Ce (h1:PS X st t)(h2:gR X rest u):gR X (st::rest) (RA t u):=by
 intro pins s σ H D I h
 refine wpAny_execs_cons (aX (h1 pins s σ H { D with nx:=u D } I h) λf s1 q=>?_)
 cases f with
 |next =>
  obtain⟨σ',H',I',q⟩:=q
  exact h2 pins s1 σ' H' D I' q
 |ret v=>exact q
 |brk=>exact q
 |cont=>exact q
theorem GJ (h1:PS X st t):gR X [st] t:=by
 intro pins s σ H D I h
 refine wpAny_execs_cons (aX (h1 pins s σ H D I h) λf s1 q=>?_)
 cases f with
 |next=>exact acI q
 |ret v=>exact q
 |brk=>exact q
 |cont=>exact q
theorem GK:PS X (.Pass pos) yu:=λ_ _ σ H _ I h=>wpAny_Pass ⟨σ,H,I,h⟩
theorem Inv.quiet {pins:List (Addr×Obj)}{σ:St}{H:Hp}{s:Y4}(I:Inv X pins σ H s):interactive X.env=false:=by simp[interactive,I.ok.kind]
theorem Jy {x j pos pos'}:PS X (.Expr (.Constant (.str x) j pos) pos') yu:=λ_ s σ H _ I h=>wpAny_Expr (aeM (show SP X _ _ .next { s with toks:=s.toks+1 } from⟨σ,H,I.tok _,h⟩)) I.quiet
noncomputable def Oj (te:TE):TS:=λD σ H=>te σ H λ_ H1=>D.nx σ H1
theorem GL (he:PE X e te)(hs:abY e none pos.line X.env=pure false:=by rfl):PS X (.Expr e pos) (Oj te):=by
 intro pins s σ H D I h
 exact wpAny_Expr_any (aX (he pins s σ H _ I h) λv s1 ⟨x,H1,I1,r1,q1⟩=>⟨σ,H1,I1,q1⟩) I.quiet hs
noncomputable def RC (te:TE):TS:=λD σ H=>te σ H D.rt
theorem Jz (he:PE X e te):PS X (.Return (some e) pos) (RC te):=by
 intro pins s σ H D I h
 exact wpAny_Return_some (aX (he pins s σ H _ I h) λv s1 ⟨x,H1,I1,r1,q1⟩=>⟨x,σ,H1,I1,r1,q1⟩)
noncomputable def RD (c:TT)(t u:TS):TS:=λD σ H=>c σ H λb H1=>if b=true then t D σ H1 else u D σ H1
theorem Ol {c:Expr}{a b:List Stmt}{tc:TT}(hc:PT X c tc)(ha:gR X a t)(hb:gR X b u):PS X (.If c a b pos) (RD tc t u):=by
 intro pins s σ H D I h
 refine wpAny_If (aX (hc pins s σ H _ I h) λd s1 ⟨H1,I1,q1⟩=>?_)
 cases d with
 |true=>exact ha pins s1 σ H1 D I1 q1
 |false=>exact hb pins s1 σ H1 D I1 q1
end
noncomputable abbrev TG:=V->St->Hp->(St->Hp->Prop)->Prop
noncomputable abbrev rQ:=List V->St->Hp->(St->Hp->Prop)->Prop
noncomputable def PG (X:Cx)(target:Expr)(t:TG):Prop :=
 ∀(pins:List (Addr×Obj)) (s:Y4) (σ:St) (H:Hp) (v:V) (u:Value) (Q:St->Hp->Prop),Inv X pins σ H s->RelV v u->t v σ H Q ->
  wpAny (model X.prog X.w) X.A (ab6 target X.env u) (λ_ s'=>∃σ' H',Inv X pins σ' H' s'/\Q σ' H') X.xe s
noncomputable def nQ (X:Cx)(ts:List Expr)(t:rQ):Prop :=
 ∀(pins:List (Addr×Obj)) (s:Y4) (σ:St) (H:Hp) (vs:List V) (us:List Value) (Q:St->Hp->Prop),Inv X pins σ H s->Vals vs us->t vs σ H Q ->
  wpAny (model X.prog X.w) X.A (acv ((aaw ts X.env).map (·.2)) us) (λ_ s'=>∃σ' H',Inv X pins σ' H' s'/\Q σ' H') X.xe s
noncomputable abbrev Cf:=V->V->V->Hp->(Hp->Prop)->Prop
noncomputable def Cg (X:Cx)(t:Cf):Prop :=
 ∀(pins:List (Addr×Obj)) (s:Y4) (σ:St) (H:Hp) (o i v:V) (ov iv u:Value) (Q:Hp->Prop),Inv X pins σ H s->RelV o ov->RelV i iv->RelV v u->t o i v H Q ->
  wpAny (model X.prog X.w) X.A (ae6 ov iv u) (λ_ s'=>∃H',Inv X pins σ H' s'/\Q H') X.xe s
section
variable {X:Cx}{pos:Pos}
noncomputable def Es (i:Nat):TG:=λv σ H Q=>Q (σ.set i (some v)) H
theorem GN {i:Nat}{x:Str}(hN:X.N.Nodup)(hi:X.N[i]? = some x)(hx:Loc X.env.scope x)(hf:X.fn x=true\/X.env.scope.names.lookup x=some .local:=by first|exact .inl rfl|exact .inr rfl|assumption):PG X (.Name x pos) (Es i):=by
 intro pins s σ H v u Q I r h
 exact wpAny_assign_Name (gz I hN hi hx r (λs' I'=>⟨_,H,I',h⟩) hf)
noncomputable def RE:rQ:=λvs σ H Q=>vs = []/\Q σ H
noncomputable def Om (t:TG)(u:rQ):rQ:=λvs σ H Q=>∃v r,vs=v::r/\t v σ H λσ' H'=>u r σ' H' Q
theorem GO:nQ X [] RE:=by
 intro pins s σ H vs us Q I r h
 obtain⟨e,h⟩:=h
 subst e
 cases r
 exact adn ⟨σ,H,I,h⟩
theorem Ci {e:Expr}{es:List Expr}{t:TG}{u:rQ}(h1:PG X e t)(h2:nQ X es u)
  (hs:(aaw (e::es) X.env).map (·.2)=ab6 e X.env::(aaw es X.env).map (·.2):=by rfl):nQ X (e::es) (Om t u):=by
 intro pins s σ H vs us Q I r h
 obtain⟨v,vr,e1,h⟩:=h
 subst e1
 cases r with
 |cons r rr =>
  rw[hs]
  refine abd (aX (h1 pins s σ H _ _ _ I r h) λ_ s1 ⟨σ1,H1,I1,q1⟩=>?_)
  exact h2 pins s1 σ1 H1 _ _ Q I1 rr q1
noncomputable def RF (K:PySem.W.Frag)(n:Nat)(t:rQ):TG:=λv σ H Q=>∃a xs,v = .ref a/\dP K H a xs/\xs.length=n/\t xs σ H Q
theorem JA {es:List Expr}{k:Nat}{t:rQ}{n:Nat}(hc:X.calm=true)(h:nQ X es t)
  (hn:(aaw es X.env).length=n:=by rfl) (cU:(aaw es X.env).findIdx? (·.1)=none:=by rfl):PG X (.Tuple es k pos) (RF X.K n t):=by
 intro pins s σ H v u Q I r hw
 obtain⟨a,xs,e1,hq,hl,hw⟩:=hw
 subst e1
 cases r
 obtain⟨av,rv,ht,hz⟩:=I.tuple hq
 refine assign_Tuple_tuple (I.ok.hd hc) ht (by simp[hn,<- hl,rv.length]) cU λh' hx=>?_
 have I1:Inv X pins σ H { s with heap:=h' }:=I.kept (t':=s.toks) λb o e=>hx b o (Zk (Zf e)) e
 exact h pins _ σ H xs _ Q I1 (by simpa using rv) hw
noncomputable def RG (to ti:TE)(t:Cf):TG:=λv σ H Q=>to σ H λo H1=>ti σ H1 λi H2=>t o i v H2 λH3=>Q σ H3
theorem JB {o i:Expr}{to ti:TE}{t:Cf}(ho:PE X o to)(hi:PE X i ti)(hs:Cg X t)
  (ha:∀v,ab6 (.Subscript o i pos) X.env v=(do
   let ov <- abS [v] (eval o X.env)
   let iv <- abS [v,ov] (eval i X.env)
   ad5 pos
   abS [v,ov,iv] (ae6 ov iv v)
   release [v,ov,iv] []):=by intro _;rfl):PG X (.Subscript o i pos) (RG to ti t):=by
 intro pins s σ H v u Q I r h
 rw[ha]
 refine xv (ZI (aX (ho pins s σ H _ I h) λov s1 ⟨x,H1,I1,r1,q1⟩=>?_))
 refine xv (ZI (aX (hi pins s1 σ H1 _ I1 q1) λiv s2 ⟨y,H2,I2,r2,q2⟩=>?_))
 refine xv (ab7 (xv (ZI (aX (hs pins s2 σ H2 x y v ov iv u _ I2 r1 r2 r q2) λ_ s3 ⟨H3,I3,q3⟩=>?_))))
 exact wpAny_release ⟨σ,H3,I3,q3⟩
noncomputable def Cj (te:TE)(g:TG):TS:=λD σ H=>te σ H λx H1=>g x σ H1 D.nx
theorem JC {tg e:Expr}{te:TE}{g:TG}(he:PE X e te)(hg:PG X tg g)(hs:abi [tg] e pos.line X.env=pure false:=by rfl)(hw:aa2 [tg] e X.env=pure none:=by rfl)
  (h1:(aaw [tg] X.env).map (·.2)= [ab6 tg X.env]:=by rfl):PS X (.Assign [tg] e pos) (Cj te g):=by
 intro pins s σ H D I h
 refine wpAny_Assign_stores (aX (he pins s σ H _ I h) λv s1 ⟨x,H1,I1,r1,q1⟩=>?_) hs hw
 rw[h1]
 exact aX (hg pins s1 σ H1 x v _ I1 r1 q1) λ_ s2 q=>q
theorem JD {i:Nat}{x:Str}{e:Expr}{te:TE}{pos':Pos}(hN:X.N.Nodup)(hi:X.N[i]? = some x)(hx:Loc X.env.scope x)(he:PE X e te)(hs:abY e (some (.Name x pos')) pos.line X.env=pure false:=by rfl)(hf:X.fn x=true\/X.env.scope.names.lookup x=some .local:=by first|exact .inl rfl|exact .inr rfl|assumption):
  PS X (.Assign [.Name x pos'] e pos) (Cj te (Es i)):=by
 intro pins s σ H D I h
 refine wpAny_Assign_Name (aX (he pins s σ H _ I h) λv s1 ⟨y,H1,I1,r1,q1⟩=>?_) hs
 exact gz I1 hN hi hx r1 (λs2 I2=>⟨_,H1,I2,q1⟩) hf
noncomputable def RH (i j:Nat)(ta:TA):TS:=λD σ H=>ta σ H λvs H1=>∃v w,vs = [v,w]/\D.nx ((σ.set i (some v)).set j (some w)) H1
theorem JE {i j:Nat}{x y:Str}{a b:Expr}{ta:TA}{px py pt:Pos}{kt k2 gE}(hc:X.calm=true)(hN:X.N.Nodup)(hi:X.N[i]? = some x)(hj:X.N[j]? = some y)(gF:i≠j)
  (hx:X.env.scope.names.lookup x=some .local) (hy:X.env.scope.names.lookup y=some .local) (ha:PA X [a,b] ta)
  (hw:aa2 [.Tuple [.Name x px,.Name y py] kt pt] (.Tuple [a,b] k2 gE) X.env=pure (some [x,y]))
  (hs:abi [.Tuple [.Name x px,.Name y py] kt pt] (.Tuple [a,b] k2 gE) pos.line X.env=pure false:=by rfl):
  PS X (.Assign [.Tuple [.Name x px,.Name y py] kt pt] (.Tuple [a,b] k2 gE) pos) (RH i j ta):=by
 intro pins s σ H D I h
 rw[exec_Assign_arm]
 refine xv (ab7 ?_)
 rw[hs]
 refine xv (Y5 ?_)
 rw[if_neg (by decide)]
 refine xv (Tuple_ (aX (ha _ pins s σ H _ I h) λus s1 ⟨vs,H1,I1,r1,q1⟩=>?_))
 obtain⟨v,w,e1,q1⟩:=q1
 subst e1
 obtain⟨u1,u2,rfl,rv,oV⟩:∃u1 u2,us = [u1,u2]/\RelV v u1/\RelV w u2:=by
  cases r1 with
  |cons p q =>
   cases q with
   |cons p' q' =>
    cases q'
    exact⟨_,_,rfl,p,p'⟩
 refine ZL ?_ (by show 2<=Zl;decide)
 have I2:Inv X pins σ H1 { s1 with heap:=s1.heap.push { cls:=.type "tuple",data:=.seq [u1,u2].toArray } }:=I1.kept (t':=s1.toks) λb o e=>Y6 _ e
 rw[hw]
 refine xv (Y5 ?_)
 show wpAny (model X.prog X.w) X.A (do rule "assign.swapped-stores";let items <- unpackItems (.ref s1.heap.objs.size) 2 none;acv [λv=>abZ X.env y v,λv=>abZ X.env x v] items.reverse;pure aeO) _ _ _
 refine xv (aaL (xv (unpackItems_tuple (items:=#[u1,u2]) (I.ok.hd hc) (IsTup.new s1.heap _) λh' oW=>?_)))
 have I3:=I2.kept (h':=h') (t':=s1.toks) λb o e=>oW b o (Zk (Zf e)) e
 show wpAny _ _ (acv [λv=>abZ X.env y v,λv=>abZ X.env x v] [u2,u1] >>= λ_=>pure aeO) _ _ _
 refine xv (abd (acn (gz I3 hN hj (.inl hy) oV (λs2 I4=>?_) (.inr hy))))
 refine abd (acn (gz I4 hN hi (.inl hx) rv (λs3 I5=>adn (Y5 ?_)) (.inr hx)))
 rw[adh _ _ (aa0 gF)]at I5
 exact⟨_,H1,I5,q1⟩
end
section
variable {X:Cx}{pos:Pos}
noncomputable def JF (c:TT)(tb:TS):TS:=λD σ H=>∃W:Nat->St->Hp->Prop,(∃m,W m σ H) /\ ∀m σ H,W m σ H ->
 c σ H λb H1=>if b=true then ∃N:St->Hp->Prop,(∀σ' H',N σ' H'->∃m',m' < m/\W m' σ' H')/\tb { D with nx:=N,ct:=N,bk:=D.nx } σ H1 else D.nx σ H1
theorem Ck {c:Expr}{body:List Stmt}{tc:TT}{tb:TS}(hp:acD (model X.prog X.w) X.A X.env X.xe)(hc:PT X c tc)(hb:gR X body tb):PS X (.While c body [] pos) (JF tc tb):=by
 intro pins s σ H D I h
 obtain⟨W,⟨m0,w0⟩,turn⟩:=h
 refine wpAny_While (codeAny_whileLoop (λn s'=>∃σ' H',Inv X pins σ' H' s'/\W n σ' H') ?_ m0 ⟨σ,H,I,w0⟩)
 rintro n s1 ⟨σ1,H1,I1,w1⟩
 refine abf hp (aX (hc pins s1 σ1 H1 _ I1 (turn n σ1 H1 w1)) λb s2 ⟨H2,I2,q2⟩=>?_)
 cases b with
 |true =>
  obtain⟨N,hN,q2⟩:=q2
  rw[if_pos rfl]
  refine abf hp (aX (hb pins s2 σ1 H2 _ I2 q2) λf s3 q3=>?_)
  cases f with
  |next =>
   obtain⟨σ3,H3,I3,n3⟩:=q3
   obtain⟨m',hm,w3⟩:=hN σ3 H3 n3
   exact⟨m',hm,σ3,H3,I3,w3⟩
  |cont =>
   obtain⟨σ3,H3,I3,n3⟩:=q3
   obtain⟨m',hm,w3⟩:=hN σ3 H3 n3
   exact⟨m',hm,σ3,H3,I3,w3⟩
  |brk=>exact q3
  |ret v=>exact q3
 |false =>
  rw[if_neg aau]
  exact acI ⟨σ1,H2,I2,q2⟩
end
structure It where
 go:Nat->Hp->Prop
 ub:Nat->Hp->V->Hp->Prop
 stop:Nat->Hp->Prop
noncomputable def iz (X:Cx)(pins:List (Addr×Obj))(H:Hp)(b:Addr):Prop :=
 H b=none/\b≠X.env.locals/\b ∉ X.fs/\(b∈X.ex\/X.s₀.heap.objs.size<=b)/\(∀x c,X.env.cells.lookup x=some c->c≠b) /\ ∀p∈X.pn++pins,p.1≠b
theorem Inv.ox {X:Cx}{pins:List (Addr×Obj)}{σ:St}{H H':Hp}{s:Y4}{b:Addr}(I:Inv X pins σ H s)(hb:s.heap.objs.size<=b)(hn:H' b=none):iz X pins H' b:=by
 refine⟨hn,abT (ZD I.lt hb),I.Rq hb,.inr (aaa I.sz hb),λx c e z=>?_,λp hp z=>?_⟩
 . obtain⟨v,q⟩:=I.cell x c e
   exact absurd (ZD q.lt (by rw[z];exact hb)) (aaz _)
 . exact absurd (ZD (Zf (I.pin p hp).1) (by rw[z];exact hb)) (aaz _)
structure Turn (P:ZC)(w:World)(K:PySem.W.Frag)(tg:Expr)(J:It)(fp:List Addr)(it:Addr)(tn:Nat->Heap->Prop):Prop where
 mem:it∈fp
 obj:∀i h,tn i h->∀b∈fp,∃o,h.get? b=some o /\ ∀v,o.data ≠ .cell v
 keep:∀i h h',tn i h->(∀b∈fp,∀o,h.get? b=some o->h'.get? b=some o)->tn i h'
 item:∀(X:Cx),X.prog=P->X.w=w->X.K=K->X.calm=true->∀(i:Nat) (pins:List (Addr×Obj)) (s:Y4) (σ:St) (H:Hp) (E:Value->Y4->Prop),Inv X pins σ H s->(∀b∈fp,iz X pins H b)->tn i s.heap->J.go i H ->
  wpAny (model P w) X.A (pyNext (.ref it)) (λr s1=>∃u,r=some u /\
   wpAny (model P w) X.A (adT tg (.ref it) u) (λ_ s2=>∃x H',Inv X pins σ H' s2/\RelV x u/\J.ub i H x H'/\tn (i+1) s2.heap /\ ∀b∈fp,H' b=none) E s1) E s
 done:∀(X:Cx),X.prog=P->X.w=w->X.K=K->X.calm=true->∀(i:Nat) (pins:List (Addr×Obj)) (s:Y4) (σ:St) (H:Hp) (E:Value->Y4->Prop),Inv X pins σ H s->(∀b∈fp,iz X pins H b)->tn i s.heap->J.stop i H ->
  wpAny (model P w) X.A (pyNext (.ref it)) (λr s1=>r=none/\Inv X pins σ H s1) E s
 self:∀(A:Zz) (i:Nat) (s:Y4) (Q:Value->Y4->Prop) (E:Value->Y4->Prop),tn i s.heap->Q (.ref it) s->wpAny (model P w) A (pyIter (.ref it)) Q E s
noncomputable abbrev TI:=St->Hp->(It->Hp->Prop)->Prop
noncomputable def PM (X:Cx)(pins:List (Addr×Obj))(σ:St)(tg:Expr)(R:It->Hp->Prop)(JG:Value)(s2:Y4):Prop :=
 ∃(it:Addr) (fp:List Addr) (tn:Nat->Heap->Prop) (J:It) (H':Hp),JG = .ref it/\Inv X pins σ H' s2/\Turn X.prog X.w X.K tg J fp it tn/\tn 0 s2.heap/\(∀b∈fp,iz X pins H' b)/\R J H'
noncomputable def PI (X:Cx)(tg iter:Expr)(wi:TI):Prop :=
 ∀(pins:List (Addr×Obj)) (s:Y4) (σ:St) (H:Hp) (R:It->Hp->Prop),Inv X pins σ H s->wi σ H R ->
  wpAny (model X.prog X.w) X.A (eval iter X.env) (λv s1=>wpAny (model X.prog X.w) X.A (pyIter v) (PM X pins σ tg R) X.xe s1) X.xe s
theorem td {M : Model} {A : Zz} {E : Value -> Y4 -> Prop} {s : Y4} {tg : Expr} {it : Addr} {u : Value} {o : Obj} {n : String} {vs : Array Value} {Q : Unit -> Y4 -> Prop} (ho : s.heap.get? it = some o) (hc : o.cls = .type n) (hd : o.data = .fields vs)
   (hn : ["enumerate", "zip", "dict_itemiterator", "dict_reverseitemiterator", "odict_iterator", "itertools.zip_longest", "itertools.pairwise"].contains n = false) (hQ : Q () s): wpAny M A (adT tg (.ref it) u) Q E s := by
 unfold adT
 cases tg <;> first
   |exact Y5 hQ
   | (cases u <;> first
       |exact Y5 hQ
       | (refine xv (wpAny_load ho ?_)
          rw[hc, hd]
          show wpAny M A (if (["enumerate", "zip", "dict_itemiterator", "dict_reverseitemiterator", "odict_iterator", "itertools.zip_longest", "itertools.pairwise"].contains n && vs[0]? == some (adE _))= true then _ else _) Q E s
          rw[if_neg (by intro h; rw[hn, ad6]at h; cases h)]
          exact Y5 hQ))
noncomputable def Et (K:PySem.W.Frag)(a:Addr):It :=
 ⟨λi H=>∃xs x,dq K H a xs/\xs[i]? = some x,λi H x H'=>H'=H /\ ∀xs,dq K H a xs->xs[i]? = some x,λi H=>∃xs,dq K H a xs/\xs.length<=i⟩
noncomputable def JH (K:PySem.W.Frag)(a:Addr):It :=
 ⟨λi H=>∃xs x,dP K H a xs/\xs[i]? = some x,λi H x H'=>H'=H /\ ∀xs,dP K H a xs->xs[i]? = some x,λi H=>∃xs,dP K H a xs/\xs.length<=i⟩
noncomputable def zT (lo:Int)(n:Nat):It:=⟨λi _=>i<n,λi H x H'=>H'=H/\x = .int (lo+i),λi _=>n<=i⟩
theorem zU {P:ZC}{w:World}{K:PySem.W.Frag}{tg:Expr}(a it:Addr):Turn P w K tg (Et K a) [it] it (λi h=>h.IsListIter it a i) where
 mem:=by simp
 obj:=λi h st b hb=>by
  have e:b=it:=by simpa using hb
  subst e
  obtain⟨o,e,c,d⟩:=st
  exact⟨o,e,λv z=>by rw[d]at z;cases z⟩
 keep:=λi h h' st k=>st.at λo e=>k it (by simp) o e
 item:=by
  intro X hP hw hK hc i pins s σ H E I hf st hg
  subst hP hw hK
  obtain⟨xs,x,hq,hx⟩:=hg
  obtain⟨av,rv,p,hz⟩:=I.list hq
  obtain⟨u,hu,ru⟩:=rv.get hx
  obtain⟨f0,f1,f2,f3,f4,f5⟩:=hf it (by simp)
  refine wpAny_pyNext_list_item st p.isList (x:=u) (by simpa using hu) λh' cL sb=>?_
  have I1:Inv X pins σ H { s with heap:=h' }:=I.turned (t':=s.toks) (λb o hb e=>(sb.2 b hb).trans e) f0 f1 f3 f4 f5
  obtain⟨o,e,c,d⟩:=id cL
  exact⟨u,rfl,td (s:={ s with heap:=h' }) e c d (by decide) ⟨x,H,I1,ru,⟨rfl,λys hy=>by rw[I.ua hy hq];exact hx⟩,cL,λb hb=>(hf b hb).1⟩⟩
 done:=by
  intro X hP hw hK hc i pins s σ H E I hf st hg
  subst hP hw hK
  obtain⟨xs,hq,hx⟩:=hg
  obtain⟨av,rv,p,hz⟩:=I.list hq
  obtain⟨f0,f1,f2,f3,f4,f5⟩:=hf it (by simp)
  have hl:=rv.length
  exact wpAny_pyNext_list_end (I.ok.hd hc) st p.isList (by simp;omega) λh' eb=>⟨rfl,I.turned (t':=s.toks) (λb o hb e=>eb b o hb e) f0 f1 f3 f4 f5⟩
 self:=λ_ _ _ _ _ st h=>wpAny_pyIter_listiter st h
theorem yw {P:ZC}{w:World}{K:PySem.W.Frag}{tg:Expr}(a it:Addr):Turn P w K tg (JH K a) [it] it (λi h=>h.IsTupleIter it a i) where
 mem:=by simp
 obj:=λi h st b hb=>by
  have e:b=it:=by simpa using hb
  subst e
  obtain⟨o,e,c,d⟩:=st
  exact⟨o,e,λv z=>by rw[d]at z;cases z⟩
 keep:=λi h h' st k=>st.at λo e=>k it (by simp) o e
 item:=by
  intro X hP hw hK hc i pins s σ H E I hf st hg
  subst hP hw hK
  obtain⟨xs,x,hq,hx⟩:=hg
  obtain⟨av,rv,p,hz⟩:=I.tuple hq
  obtain⟨u,hu,ru⟩:=rv.get hx
  obtain⟨f0,f1,f2,f3,f4,f5⟩:=hf it (by simp)
  refine wpAny_pyNext_tuple_item st (show s.heap.IsTuple a av.toArray from p) (x:=u) (by simpa using hu) λh' cL sb=>?_
  have I1:Inv X pins σ H { s with heap:=h' }:=I.turned (t':=s.toks) (λb o hb e=>(sb.2 b hb).trans e) f0 f1 f3 f4 f5
  obtain⟨o,e,c,d⟩:=id cL
  exact⟨u,rfl,td (s:={ s with heap:=h' }) e c d (by decide) ⟨x,H,I1,ru,⟨rfl,λys hy=>by rw[I.md hy hq];exact hx⟩,cL,λb hb=>(hf b hb).1⟩⟩
 done:=by
  intro X hP hw hK hc i pins s σ H E I hf st hg
  subst hP hw hK
  obtain⟨xs,hq,hx⟩:=hg
  obtain⟨av,rv,p,hz⟩:=I.tuple hq
  obtain⟨f0,f1,f2,f3,f4,f5⟩:=hf it (by simp)
  have hl:=rv.length
  exact wpAny_pyNext_tuple_end (I.ok.hd hc) st (show s.heap.IsTuple a av.toArray from p) (by simp;omega) λh' eb=>⟨rfl,I.turned (t':=s.toks) (λb o hb e=>eb b o hb e) f0 f1 f3 f4 f5⟩
 self:=λ_ _ _ _ _ st h=>wpAny_pyIter_tupleiter st h
theorem yx {P:ZC}{w:World}{K:PySem.W.Frag}{tg:Expr}(it:Addr)(lo:Int)(n:Nat):Turn P w K tg (zT lo n) [it] it (λi h=>IsRangeIter h it (lo+(i:Nat)*1) ((n:Int)-(i:Nat)) 1) where
 mem:=by simp
 obj:=λi h st b hb=>by
  have e:b=it:=by simpa using hb
  subst e
  exact⟨_,st,λv z=>by
   have z':Data.fields _=ac6 v:=z
   cases z'⟩
 keep:=λi h h' st k=>k it (by simp) _ st
 item:=by
  intro X hP hw hK hc i pins s σ H E I hf st hg
  subst hP hw hK
  obtain⟨f0,f1,f2,f3,f4,f5⟩:=hf it (by simp)
  have W:=Walks.range (prog:=X.prog) (w:=X.w) (I.ok.hd hc) it lo 1 n
  refine W.item i s _ _ hg st λv h' tk hv cL kk=>?_
  obtain⟨t,rfl⟩:=hv
  have I1:Inv X pins σ H { s with heap:=h',toks:=tk }:=I.turned (λb o hb e=>kk b o (by simpa using hb) e) f0 f1 f3 f4 f5
  refine⟨_,rfl,td (s:={ s with heap:=h',toks:=tk }) (n:="range_iterator") cL rfl rfl (by decide) ⟨.int (lo+i),H,I1,⟨t,?_⟩,⟨rfl,rfl⟩,cL,λb hb=>(hf b hb).1⟩⟩
  rw[Int.mul_one]
 done:=by
  intro X hP hw hK hc i pins s σ H E I hf st hg
  subst hP hw hK
  obtain⟨f0,f1,f2,f3,f4,f5⟩:=hf it (by simp)
  exact wpAny_pyNext_range_end (I.ok.hd hc) st (by have:n<=i:=hg;omega) λh' eb=>⟨rfl,I.turned (t':=s.toks) (λb o hb e=>eb b o hb e) f0 f1 f3 f4 f5⟩
 self:=λ_ _ _ _ _ st h=>wpAny_pyIter_rangeiter st h
section
variable {X:Cx}{tg:Expr}
noncomputable def Oo (K:PySem.W.Frag)(tl:TE):TI:=λσ H R=>tl σ H λx H1=>∃a,x = .ref a/\(∃xs,dq K H1 a xs)/\R (Et K a) H1
noncomputable def RJ (K:PySem.W.Frag)(tl:TE):TI:=λσ H R=>tl σ H λx H1=>∃a,x = .ref a/\(∃xs,dP K H1 a xs)/\R (JH K a) H1
theorem wR {l:Expr}{tl:TE}(hl:PE X l tl):PI X tg l (Oo X.K tl):=by
 intro pins s σ H R I h
 refine aX (hl pins s σ H _ I h) λv s1 ⟨x,H1,I1,r1,q1⟩=>?_
 obtain⟨a,e,⟨xs,hq⟩,q⟩:=q1
 subst e
 cases r1
 obtain⟨av,rv,p,hz⟩:=I1.list hq
 refine ado p.isList ?_
 refine⟨s1.heap.objs.size,[s1.heap.objs.size],_,_,H1,rfl,I1.kept (t':=s1.toks) λb o e=>Y6 _ e,zU a _,⟨_,Zg _ rfl,rfl,rfl⟩,λb hb=>?_,q⟩
 have e:b=s1.heap.objs.size:=by simpa using hb
 subst e
 exact I1.ox (Za _) (I1.bJ.fresh (Za _))
theorem JI {l:Expr}{tl:TE}(hl:PE X l tl):PI X tg l (RJ X.K tl):=by
 intro pins s σ H R I h
 refine aX (hl pins s σ H _ I h) λv s1 ⟨x,H1,I1,r1,q1⟩=>?_
 obtain⟨a,e,⟨xs,hq⟩,q⟩:=q1
 subst e
 cases r1
 obtain⟨av,rv,p,hz⟩:=I1.tuple hq
 refine abG (show s1.heap.IsTuple a av.toArray from p) ?_
 refine⟨s1.heap.objs.size,[s1.heap.objs.size],_,_,H1,rfl,I1.kept (t':=s1.toks) λb o e=>Y6 _ e,yw a _,⟨_,Zg _ rfl,rfl,rfl⟩,λb hb=>?_,q⟩
 have e:b=s1.heap.objs.size:=by simpa using hb
 subst e
 exact I1.ox (Za _) (I1.bJ.fresh (Za _))
theorem uc {pins:List (Addr×Obj)}{σ:St}{H:Hp}{s:Y4}{R:It->Hp->Prop}{E:Value->Y4->Prop}{lo hi:Int}{t u v:Tok}{tk:Nat}(I:Inv X pins σ H s)(h1:-(2 ^ 62)<=lo)(h2:lo<2 ^ 62)(h3:-(2 ^ 62)<=hi)(h4:hi<2 ^ 62)
   (q:R (zT lo (hi-lo).toNat) H):wpAny (model X.prog X.w) X.A (pyIter (.ref s.heap.objs.size)) (PM X pins σ tg R) E { s with heap:=s.heap.push { cls:=.type "range",data:=.fields #[.int lo t,.int hi u,.int 1 v] },toks:=tk }:=by
 refine wpAny_pyIter_range (IsRange.new ..) (small_one h1 h2 h3 h4) ?_
 have I1:Inv X pins σ H { s with heap:=s.heap.push { cls:=.type "range",data:=.fields #[.int lo t,.int hi u,.int 1 v] },toks:=tk }:=I.kept λb o e=>Y6 _ e
 refine⟨(s.heap.push { cls:=.type "range",data:=.fields #[.int lo t,.int hi u,.int 1 v] }).objs.size,[(s.heap.push { cls:=.type "range",data:=.fields #[.int lo t,.int hi u,.int 1 v] }).objs.size],_,_,H,rfl,
   I1.kept (t':=tk) λb o e=>Y6 _ e,yx _ lo (hi-lo).toNat,?_,λb hb=>?_,q⟩
 . have e1:lo+((0:Nat):Int)*1=lo:=by simp
   have e2:(((hi-lo).toNat:Nat):Int)-((0:Nat):Int)=Builtin.Range.rangeSize lo hi 1:=by rw[rangeSize_one];split<;>omega
   show IsRangeIter _ _ (lo+((0:Nat):Int)*1) ((((hi-lo).toNat:Nat):Int)-((0:Nat):Int)) 1
   rw[e1,e2]
   exact Zg _ rfl
 . have e:b=(s.heap.push { cls:=.type "range",data:=.fields #[.int lo t,.int hi u,.int 1 v] }).objs.size:=by simpa using hb
   subst e
   exact I1.ox (Za _) (I1.bJ.fresh (Za _))
noncomputable def Oq (ta:TA):TI:=λσ H R=>ta σ H λvs H1=>∃j:Int,vs = [.int j] /\ -(2 ^ 62)<=j/\j<2 ^ 62/\R (zT 0 j.toNat) H1
noncomputable def Ot (ta:TA):TI:=λσ H R=>ta σ H λvs H1=>∃i j:Int,vs = [.int i,.int j]/\(-(2 ^ 62)<=i/\i<2 ^ 62 /\ -(2 ^ 62)<=j/\j<2 ^ 62)/\R (zT i (j-i).toNat) H1
theorem zV {a:Expr}{ta:TA}{p pos:Pos}(hg:Gl X "range")(hm:X.mg "range" = none)(ha:PA X [a] ta)(hs:Zv [a] X.env = [(false,eval a X.env)]:=by rfl):PI X tg (.Call (.Name "range" p) [a] [] pos) (Oq ta):=by
 intro pins s σ H R I h
 refine Call_ (fZ I hg hm boot_range (aah (aX (ha pos pins s σ H _ I h) λus s1 ⟨vs,H1,I1,r1,q1⟩=>?_) hs rfl))
 obtain⟨j,e,q1,q2,q⟩:=q1
 subst e
 cases r1 with
 |cons r rr =>
  cases rr
  obtain⟨t,rfl⟩:=r
  exact call_range_1 (uc I1 (by omega) (by omega) q1 q2 (by simpa using q))
theorem zW {a b:Expr}{ta:TA}{p pos:Pos}(hg:Gl X "range")(hm:X.mg "range" = none)(ha:PA X [a,b] ta)(hs:Zv [a,b] X.env = [(false,eval a X.env),(false,eval b X.env)]:=by rfl)(lO:Zv [b] X.env = [(false,eval b X.env)]:=by rfl):
  PI X tg (.Call (.Name "range" p) [a,b] [] pos) (Ot ta):=by
 intro pins s σ H R I h
 refine Call_ (fZ I hg hm boot_range (aah (aX (ha pos pins s σ H _ I h) λus s1 ⟨vs,H1,I1,r1,q1⟩=>?_) (by rw[hs,lO]) (by rw[lO];rfl)))
 obtain⟨i,j,e,⟨q1,q2,q3,q4⟩,q⟩:=q1
 subst e
 cases r1 with
 |cons r rr =>
  cases rr with
  |cons r' rr =>
   cases rr
   obtain⟨t,rfl⟩:=r
   obtain⟨t',rfl⟩:=r'
   exact call_range_2 (uc I1 q1 q2 q3 q4 q)
noncomputable def RK (wi:TI)(g:TG)(tb:TS):TS:=λD σ H=>wi σ H λJ H1=>∃W:Nat->Nat->St->Hp->Prop,(∃m,W 0 m σ H1) /\ ∀i m σ H,W i m σ H ->
 (J.stop i H/\D.nx σ H)\/(J.go i H /\ ∃N:St->Hp->Prop,(∀σ' H',N σ' H'->∃m',m' < m/\W (i+1) m' σ' H') /\ ∀x H',J.ub i H x H'->g x σ H' λσ2 H2=>tb { D with nx:=N,ct:=N,bk:=D.nx } σ2 H2)
noncomputable def me (fp:List Addr)(h:Heap):List (Addr×Obj):=fp.filterMap λb=>(h.get? b).map λo=>(b,o)
theorem jh {fp:List Addr}{h:Heap}{b:Addr}{o:Obj}(hb:b∈fp)(e:h.get? b=some o):(b,o)∈me fp h:=abH.mpr ⟨b,hb,by rw[e];rfl⟩
theorem zX {fp:List Addr}{h:Heap}{p:Addr×Obj}(hp:p∈me fp h):p.1∈fp/\h.get? p.1=some p.2:=by
 obtain⟨b,hb,e⟩:=abH.mp hp
 cases q:h.get? b with
 |none=>rw[q]at e;cases e
 |some o =>
  rw[q]at e
  have e':(b,o)=p:=aas e
  subst e'
  exact⟨hb,q⟩
theorem Inv.pinned {pins:List (Addr×Obj)}{σ:St}{H:Hp}{s:Y4}{fp:List Addr}(I:Inv X pins σ H s)(hf:∀b∈fp,iz X pins H b)(ho:∀b∈fp,∃o,s.heap.get? b=some o /\ ∀v,o.data ≠ .cell v):Inv X (pins++me fp s.heap) σ H s :=
 I.wN λp hp=>(Ze.mp hp).elim (λz=>I.pin p (Z4 _ z)) λz=>by
  obtain⟨hb,e⟩:=zX z
  obtain⟨f0,f1,f2,_⟩:=hf p.1 hb
  obtain⟨o,e',d⟩:=ho p.1 hb
  rw[e]at e';cases e'
  exact⟨e,f0,f1,f2,d⟩
theorem Inv.lg {pins pl:List (Addr×Obj)}{σ:St}{H:Hp}{s:Y4}(I:Inv X (pins++pl) σ H s):Inv X pins σ H s:=I.wN λp hp=>I.pin p (Z4 _ (aeo _ hp))
theorem JJ {iter:Expr}{body:List Stmt}{wi:TI}{g:TG}{tb:TS}{pos:Pos}(hp:acD (model X.prog X.w) X.A X.env X.xe)(hc:X.calm=true)(hi:PI X tg iter wi)(hg:PG X tg g)(hb:gR X body tb)
   (hs:∀x,ZV iter X.env x=pure x:=by intro _;rfl):PS X (.For tg iter body [] pos) (RK wi g tb):=by
 intro pins s σ H D I h
 refine wpAny_For (aX (hi pins s σ H _ I h) λv s1 h1=>aX h1 λJG s2 h2=>?_) hs
 obtain⟨it,fp,tn,J,H2,e,I2,T,PN,f2,W,⟨m0,w0⟩,turn⟩:=h2
 subst e
 have oy:∀{H':Hp},(∀b∈fp,H' b=none)->∀b∈fp,iz X pins H' b:=λhn b hb=>⟨hn b hb,(f2 b hb).2⟩
 refine codeAny_forLoop_any (λn s'=>∃i σ' H',Inv X pins σ' H' s'/\tn i s'.heap/\(∀b∈fp,H' b=none)/\W i n σ' H') ?_ m0 ⟨0,σ,H2,I2,PN,λb hb=>(f2 b hb).1,w0⟩
 rintro n s3 ⟨i,σ3,H3,I3,nR,PQ,w3⟩
 rcases turn i n σ3 H3 w3 with⟨stop,qn⟩|⟨go,N,hN,step⟩
 . refine abf hp (aX (T.done X rfl rfl rfl hc i pins s3 σ3 H3 X.xe I3 (oy PQ) nR stop) λr s4 ⟨hr,I4⟩=>?_)
   subst hr
   exact acI ⟨σ3,H3,I4,qn⟩
 . refine abf hp (aX (T.item X rfl rfl rfl hc i pins s3 σ3 H3 X.xe I3 (oy PQ) nR go) λr s4 ⟨u,hr,h4⟩=>?_)
   subst hr
   refine abf hp (aX h4 λ_ s5 ⟨x,H5,I5,r5,y5,JK,JL⟩=>?_)
   have I5':=I5.pinned (oy JL) (T.obj _ _ JK)
   refine abf hp (aX (hg _ s5 σ3 H5 x u _ I5' r5 (step x H5 y5)) λ_ s6 ⟨σ6,H6,I6,q6⟩=>?_)
   refine abf hp (aX (hb _ s6 σ6 H6 _ I6 q6) λf s7 q7=>?_)
   have again:∀{σ7:St} {H7:Hp},Inv X (pins++me fp s5.heap) σ7 H7 s7->N σ7 H7->∃m,m<n /\ ∃i σ' H',Inv X pins σ' H' s7/\tn i s7.heap/\(∀b∈fp,H' b=none)/\W i m σ' H':=fun {σ7 H7} I7 n7=>by
    obtain⟨m',hm,w7⟩:=hN σ7 H7 n7
    refine⟨m',hm,i+1,σ7,H7,I7.lg,T.keep _ _ _ JK λb hb o e=>(I7.pin (b,o) (Z4 _ (Z4 _ (jh hb e)))).1,λb hb=>?_,w7⟩
    obtain⟨o,e,d⟩:=T.obj _ _ JK b hb
    exact(I7.pin (b,o) (Z4 _ (Z4 _ (jh hb e)))).2.1
   cases f with
   |next=>obtain⟨σ7,H7,I7,n7⟩:=q7;exact again I7 n7
   |cont=>obtain⟨σ7,H7,I7,n7⟩:=q7;exact again I7 n7
   |brk=>obtain⟨σ7,H7,I7,q7⟩:=q7;exact⟨σ7,H7,I7.lg,q7⟩
   |ret v=>obtain⟨x7,σ7,H7,I7,r7,q7⟩:=q7;exact⟨x7,σ7,H7,I7.lg,r7,q7⟩
end
noncomputable abbrev R2:=V->V->Hp->VK->Prop
noncomputable def bz (X:Cx)(f:Value->Value->Sem Value)(r:R2):Prop :=
 ∀(pins:List (Addr×Obj)) (s:Y4) (σ:St) (H:Hp) (x y:V) (v u:Value) (Q:VK),Inv X pins σ H s->RelV x v->RelV y u->r x y H Q ->
  wpAny (model X.prog X.w) X.A (f v u) (EP X pins σ Q) X.xe s
noncomputable def zY (X:Cx)(f:Value->Sem Value)(r:V->Hp->VK->Prop):Prop :=
 ∀(pins:List (Addr×Obj)) (s:Y4) (σ:St) (H:Hp) (x:V) (v:Value) (Q:VK),Inv X pins σ H s->RelV x v->r x H Q ->
  wpAny (model X.prog X.w) X.A (f v) (EP X pins σ Q) X.xe s
noncomputable def cA (X:Cx)(f:Value)(r:List V->Hp->VK->Prop):Prop :=
 ∀(pins:List (Addr×Obj)) (s:Y4) (σ:St) (H:Hp) (xs:List V) (us:List Value) (Q:VK),Inv X pins σ H s->Vals xs us->r xs H Q ->
  wpAny (model X.prog X.w) X.A (call f us) (EP X pins σ Q) X.xe s
noncomputable def RL (X:Cx)(r:V->Hp->(Bool->Hp->Prop)->Prop):Prop :=
 ∀(pins:List (Addr×Obj)) (s:Y4) (σ:St) (H:Hp) (x:V) (v:Value) (Q:Bool->Hp->Prop),Inv X pins σ H s->RelV x v->r x H Q ->
  wpAny (model X.prog X.w) X.A (truthy v) (TP X pins σ Q) X.xe s
noncomputable def zZ (r:R2)(ta tb:TE):TE:=λσ H Q=>ta σ H λx H1=>tb σ H1 λy H2=>r x y H2 Q
noncomputable def Vw (r:V->Hp->VK->Prop)(ta:TE):TE:=λσ H Q=>ta σ H λx H1=>r x H1 Q
noncomputable def rI (C:Int->Int->Prop)(g:Int->Int->V):R2:=λx y H Q=>∃i j,x = .int i/\y = .int j/\C i j/\Q (g i j) H
noncomputable def lP (g:Int->Int->V):R2:=λx y H Q=>∃i j,x = .int i/\y = .int j/\Q (g i j) H
noncomputable def rU (g:Int->V):V->Hp->VK->Prop:=λx H Q=>∃i,x = .int i/\Q (g i) H
section
variable {X:Cx}{a b c:Expr}{ta tb tc:TE}{pos:Pos}
theorem Cm (ha:PE X a ta)(hb:PE X b tb){pins:List (Addr×Obj)}{s:Y4}{σ:St}{H:Hp}{R:V->V->Hp->Prop}(I:Inv X pins σ H s)
  (h:ta σ H λx H1=>tb σ H1 λy H2=>R x y H2) {Q:Value->Y4->Prop} {f:Value->Value->Sem Value}
  (hf:∀v u s2 x y H2,Inv X pins σ H2 s2->RelV x v->RelV y u->R x y H2->wpAny (model X.prog X.w) X.A (f v u) Q X.xe s2):
  wpAny (model X.prog X.w) X.A (eval a X.env) (λv s₁=>wpAny (model X.prog X.w) X.A (eval b X.env) (λu s₂=>wpAny (model X.prog X.w) X.A (f v u) Q X.xe s₂) X.xe s₁) X.xe s:=by
 refine aX (ha pins s σ H _ I h) λv s1 ⟨x,H1,I1,r1,q1⟩=>?_
 refine aX (hb pins s1 σ H1 _ I1 q1) λu s2 ⟨y,H2,I2,r2,q2⟩=>?_
 exact hf v u s2 x y H2 I2 r1 r2 q2
theorem Ou {op:Operator}{r:R2}(ho:bz X (ZT op) r)(ha:PE X a ta)(hb:PE X b tb):PE X (.BinOp a op b pos) (zZ r ta tb):=by
 intro pins s σ H Q I h
 exact wpAny_BinOp (Cm ha hb I h λv u s2 x y H2 I2 rx ry q=>ho pins s2 σ H2 x y v u Q I2 rx ry q)
theorem Ov {op:UnaryOp}{r:V->Hp->VK->Prop}(ho:zY X (unaryOp op) r)(ha:PE X a ta):PE X (.UnaryOp op a pos) (Vw r ta):=by
 intro pins s σ H Q I h
 exact UnaryOp_ (aX (ha pins s σ H _ I h) λv s1 ⟨x,H1,I1,r1,q1⟩=>ho pins s1 σ H1 x v Q I1 r1 q1)
theorem z7 {f:Value->Value->Sem Value}{C:Int->Int->Prop}{g:Int->Int->Int}
  (rule:∀(i j:Int) (t u:Tok) (s:Y4) (Q:Value->Y4->Prop) (E:Value->Y4->Prop),C i j->Q (.int (g i j) s.toks) { s with toks:=s.toks+1 }->wpAny (model X.prog X.w) X.A (f (.int i t) (.int j u)) Q E s):
  bz X f (rI C λi j=>.int (g i j)):=by
 intro pins s σ H x y v u Q I rx ry h
 obtain⟨i,j,rfl,rfl,hc,q⟩:=h
 obtain⟨t,rfl⟩:=rx
 obtain⟨t',rfl⟩:=ry
 exact rule i j t t' s _ _ hc ⟨.int (g i j),H,I.tok _,⟨_,rfl⟩,q⟩
theorem yz {f:Value->Value->Sem Value}{g:Int->Int->Int}
  (rule:∀(i j:Int) (t u:Tok) (s:Y4) (Q:Value->Y4->Prop) (E:Value->Y4->Prop),Q (.int (g i j) s.toks) { s with toks:=s.toks+1 }->wpAny (model X.prog X.w) X.A (f (.int i t) (.int j u)) Q E s):
  bz X f (lP λi j=>.int (g i j)):=by
 intro pins s σ H x y v u Q I rx ry h
 obtain⟨i,j,rfl,rfl,q⟩:=h
 obtain⟨t,rfl⟩:=rx
 obtain⟨t',rfl⟩:=ry
 exact rule i j t t' s _ _ ⟨.int (g i j),H,I.tok _,⟨_,rfl⟩,q⟩
theorem yA {f:Value->Value->Sem Value}{g:Int->Int->Bool}
  (rule:∀(i j:Int) (t u:Tok) (s:Y4) (Q:Value->Y4->Prop) (E:Value->Y4->Prop),Q (.bool (g i j)) s->wpAny (model X.prog X.w) X.A (f (.int i t) (.int j u)) Q E s):
  bz X f (lP λi j=>.bl (g i j)):=by
 intro pins s σ H x y v u Q I rx ry h
 obtain⟨i,j,rfl,rfl,q⟩:=h
 obtain⟨t,rfl⟩:=rx
 obtain⟨t',rfl⟩:=ry
 exact rule i j t t' s _ _ ⟨.bl (g i j),H,I,rfl,q⟩
noncomputable def RM (i j:Int):Prop:=0<j/\j<1073741824
noncomputable def JM (i j:Int):Prop:=0<=j/\j<=1000000/\i.natAbs<2 ^ 64
noncomputable def Cn (i j:Int):Prop:=(-(2 ^ 64)<i/\i<2 ^ 64)\/(-(2 ^ 64)<j/\j<2 ^ 64)
theorem Cn.ok {i j:Int}(h:Cn i j):IntMulOk i j:=by
 rcases h with⟨h1,h2⟩|⟨h1,h2⟩
 . exact .of_left (intBits_le_64 h1 h2)
 . exact .of_right (intBits_le_64 h1 h2)
theorem JN:bz X (ZT .Add) (lP λi j=>.int (i+j)):=yz λ_ _ _ _ _ _ _ q=>add_int q
theorem JO:bz X (ZT .Sub) (lP λi j=>.int (i-j)):=yz λ_ _ _ _ _ _ _ q=>sub_int q
theorem JP:bz X (ZT .Mult) (rI Cn λi j=>.int (i*j)):=z7 λ_ _ _ _ _ _ _ hc q=>mul_int q hc.ok
theorem GP:bz X (ZT .FloorDiv) (rI RM λi j=>.int (i / j)):=z7 λi j _ _ _ _ _ hc q=>by
 have h1:(0:Int)<j:=hc.1
 have h2:j<1073741824:=hc.2
 exact floordiv_int (by omega) (by rw[Int.fdiv_eq_ediv_of_nonneg i (by omega)];exact q) (.inl (PyProof.noPylong_small (by omega)))
theorem JQ:bz X (ZT .Mod) (rI (λ_ j=>0<j) λi j=>.int (i % j)):=z7 λi j _ _ _ _ _ hc q=>by
 have h1:(0:Int)<j:=hc
 exact mod_int' (by omega) (by rw[Int.fmod_eq_emod_of_nonneg i (by omega)];exact q)
theorem JR:bz X (ZT .Pow) (rI JM λi j=>.int (i ^ j.toNat)):=z7 λ_ _ _ _ _ _ _ hc q=>pow_int_small hc.1 hc.2.1 hc.2.2 q
theorem JS:bz X (ZT .LShift) (rI JM λi j=>.int (i*2 ^ j.toNat)):=z7 λ_ _ _ _ _ _ _ hc q=>lshift_int_small hc.1 hc.2.1 hc.2.2 q
theorem JT:bz X (ZT .BitAnd) (lP λi j=>.int (ZJ i j)):=yz λ_ _ _ _ _ _ _ q=>and_int q
theorem Ow:bz X (ZT .BitOr) (lP λi j=>.int (abC i j)):=yz λ_ _ _ _ _ _ _ q=>or_int q
theorem Vx {f:Value->Sem Value}{g:Int->Int}
  (rule:∀(i:Int) (t:Tok) (s:Y4) (Q:Value->Y4->Prop) (E:Value->Y4->Prop),Q (.int (g i) s.toks) { s with toks:=s.toks+1 }->wpAny (model X.prog X.w) X.A (f (.int i t)) Q E s):
  zY X f (rU λi=>.int (g i)):=by
 intro pins s σ H x v Q I rx h
 obtain⟨i,rfl,q⟩:=h
 obtain⟨t,rfl⟩:=rx
 exact rule i t s _ _ ⟨.int (g i),H,I.tok _,⟨_,rfl⟩,q⟩
theorem JU:zY X (unaryOp .USub) (rU λi=>.int (-i)):=Vx λ_ _ _ _ _ q=>neg_int q
end
section
variable {X:Cx}{a b c:Expr}{ta tb tc:TE}{pos:Pos}
theorem z8 {pins:List (Addr×Obj)}{σ:St}{H:Hp}{s:Y4}{Q:VK}{k k':Bool}(I:Inv X pins σ H s)(q:Q (.bl k) H)(e:k=k'):EP X pins σ Q (.bool k') s:=by
 subst e
 exact⟨.bl k,H,I,rfl,q⟩
theorem Ox:bz X (ZF .Lt) (lP λi j=>.bl (decide (i<j))):=yA λ_ _ _ _ _ _ _ q=>lt_int q
theorem Oy:bz X (ZF .LtE) (lP λi j=>.bl (decide (i<=j))):=yA λ_ _ _ _ _ _ _ q=>le_int q
theorem Oz:bz X (ZF .Gt) (lP λi j=>.bl (decide (j<i))):=yA λ_ _ _ _ _ _ _ q=>gt_int q
theorem OA:bz X (ZF .GtE) (lP λi j=>.bl (decide (j<=i))):=yA λ_ _ _ _ _ _ _ q=>ge_int q
theorem JV:bz X (ZF .Is) (λx y H Q=>y = .aA/\Q (.bl (decide (x = .aA))) H):=by
 intro pins s σ H x y v u Q I rx ry h
 obtain⟨rfl,q⟩:=h
 cases ry
 refine is_none_gen (z8 I q ?_)
 cases x<;>first
  | (cases rx;rfl)
  | (obtain⟨t,rfl⟩:=rx;rfl)
theorem GQ:bz X (ZF .IsNot) (λx y H Q=>y = .aA/\Q (.bl (!decide (x = .aA))) H):=by
 intro pins s σ H x y v u Q I rx ry h
 obtain⟨rfl,q⟩:=h
 cases ry
 refine isnot_none_gen (z8 I q ?_)
 cases x<;>first
  | (cases rx;rfl)
  | (obtain⟨t,rfl⟩:=rx;rfl)
theorem GR {op:CmpOp}{r:R2}(ho:bz X (ZF op) r)(ha:PE X a ta)(hb:PE X b tb)(hm:abD op b=false):PE X (.Compare a [op] [b] pos) (zZ r ta tb):=by
 intro pins s σ H Q I h
 exact wpAny_Compare1 (Cm ha hb I h λv u s2 x y H2 I2 rx ry q=>ho pins s2 σ H2 x y v u Q I2 rx ry q) hm
noncomputable def oX (t:TE):TT:=λσ H Q=>t σ H λx H'=>∃k,x = .bl k/\Q k H'
theorem GS {op:CmpOp}{r:R2}(ho:bz X (ZF op) r)(ha:PE X a ta)(hb:PE X b tb)(hm:abD op b=false):PT X (.Compare a [op] [b] pos) (oX (zZ r ta tb)):=by
 intro pins s σ H Q I h
 refine wpAny_isTrue_Compare1 (aX (ha pins s σ H _ I h) λv s1 ⟨x,H1,I1,r1,q1⟩=>aX (hb pins s1 σ H1 _ I1 q1) λu s2 ⟨y,H2,I2,r2,q2⟩=>
  aX (ho pins s2 σ H2 x y v u _ I2 r1 r2 q2) λc s3 ⟨z,H3,I3,r3,k,e,q3⟩=>?_) hm
 subst e
 cases r3
 exact ZU ⟨H3,I3,q3⟩
noncomputable def ud (r r':R2)(ta tb tc:TE):TE:=λσ H Q=>ta σ H λx H1=>tb σ H1 λy H2=>r x y H2 λz H3=>∃k,z = .bl k /\
 (if k=true then tc σ H3 λw' H4=>r' y w' H4 Q else Q (.bl false) H3)
theorem Co {op cu:CmpOp}{r r':R2}(ho:bz X (ZF op) r)(ig:bz X (ZF cu) r')(ha:PE X a ta)(hb:PE X b tb)(hc:PE X c tc)
  (hm:aeQ [op,cu] [b,c]=false:=by with_unfolding_all rfl):PE X (.Compare a [op,cu] [b,c] pos) (ud r r' ta tb tc):=by
 intro pins s σ H Q I h
 refine Compare_chain (aX (ha pins s σ H _ I h) λv s1 ⟨x,H1,I1,r1,q1⟩=>chain_link (aX (hb pins s1 σ H1 _ I1 q1) λu s2 ⟨y,H2,I2,r2,q2⟩=>
  aX (ho pins s2 σ H2 x y v u _ I2 r1 r2 q2) λd s3 ⟨z,H3,I3,r3,k,e,q3⟩=>?_)) hm
 subst e
 cases r3
 refine ZU ?_
 cases k with
 |false=>exact ite_ff ⟨.bl false,H3,I3,rfl,q3⟩
 |true=>exact ite_tt (chain_last (aX (hc pins s3 σ H3 _ I3 q3) λw' s4 ⟨z',H4,I4,r4,q4⟩=>ig pins s4 σ H4 y z' u w' Q I4 r2 r4 q4))
theorem Cp {op cu:CmpOp}{r r':R2}(ho:bz X (ZF op) r)(ig:bz X (ZF cu) r')(ha:PE X a ta)(hb:PE X b tb)(hc:PE X c tc)
  (hm:aeQ [op,cu] [b,c]=false:=by with_unfolding_all rfl):PT X (.Compare a [op,cu] [b,c] pos) (oX (ud r r' ta tb tc)):=by
 intro pins s σ H Q I h
 refine isTrue_chain (aX (ha pins s σ H _ I h) λv s1 ⟨x,H1,I1,r1,q1⟩=>test_link (aX (hb pins s1 σ H1 _ I1 q1) λu s2 ⟨y,H2,I2,r2,q2⟩=>
  aX (ho pins s2 σ H2 x y v u _ I2 r1 r2 q2) λd s3 ⟨z,H3,I3,r3,k,e,q3⟩=>?_)) hm
 subst e
 cases r3
 refine ZU ?_
 cases k with
 |false =>
  obtain⟨k',e',q'⟩:=q3
  cases e'
  exact ite_ff ⟨H3,I3,q'⟩
 |true =>
  refine ite_tt (test_last (aX (hc pins s3 σ H3 _ I3 q3) λw' s4 ⟨z',H4,I4,r4,q4⟩=>aX (ig pins s4 σ H4 y z' u w' _ I4 r2 r4 q4) λd' s5 ⟨z2,H5,I5,r5,k2,e2,q5⟩=>?_))
  subst e2
  cases r5
  exact ZU ⟨H5,I5,q5⟩
noncomputable def Cq (K:PySem.W.Frag)(x:V)(H:Hp)(k:Bool):Prop :=
 match x with
 |.aA=>k=false
 |.bl b=>k=b
 |.int i=>k=(i != 0)
 |.str y=>y.length<=Zl/\k=((y.length:Int) != 0)
 |.zN y=>y.size<=Zl/\k=((y.size:Int) != 0)
 |.ref p=>(∃xs,dq K H p xs/\k = !xs.isEmpty)\/(∃xs,dP K H p xs/\k = !xs.isEmpty) \/ ∃de,H p=some (.dK de)/\k = !de.isEmpty
 |_=>False
theorem yB {κ:Type}{de:List (κ×V)}{vs:List (κ×Value)}(r:KV de vs):(!vs.isEmpty)= !de.isEmpty:=by
 cases r<;>rfl
theorem oY {xs:List V}{av:List Value}(r:Vals xs av):(!av.toArray.isEmpty)= !xs.isEmpty:=by
 cases r<;>simp
theorem kA:(Zl:Nat)<2 ^ 63:=by rw[aaU];decide
theorem JW:RL X (λx H Q=>∃k,Cq X.K x H k/\Q k H):=by
 intro pins s σ H x v Q I rx h
 obtain⟨k,e,q⟩:=h
 have hl:=kA
 have hs:Zl=16777216:=aaU
 cases x with
 |aA =>
  cases rx
  have e':k=false:=e
  subst e'
  exact truthy_none ⟨H,I,q⟩
 |bl b =>
  cases rx
  have e':k=b:=e
  subst e'
  exact ZU ⟨H,I,q⟩
 |int i =>
  obtain⟨t,rfl⟩:=rx
  have e':k=(i != 0):=e
  subst e'
  exact PySem.P.truthy_int ⟨H,I,q⟩
 |str y =>
  obtain⟨t,rfl⟩:=rx
  obtain⟨hy,e'⟩:y.length<=Zl/\k=((y.length:Int) != 0):=e
  subst e'
  exact PySem.P.truthy_str (by omega) ⟨H,I.tok _,q⟩
 |zN y =>
  obtain⟨t,rfl⟩:=rx
  obtain⟨hy,e'⟩:y.size<=Zl/\k=((y.size:Int) != 0):=e
  subst e'
  exact PySem.W.truthy_bytes (by omega) ⟨H,I.tok _,q⟩
 |ref p =>
  cases rx
  have e':(∃xs,dq X.K H p xs/\k = !xs.isEmpty)\/(∃xs,dP X.K H p xs/\k = !xs.isEmpty) \/ ∃de,H p=some (.dK de)/\k = !de.isEmpty:=e
  rcases e' with⟨xs,hx,e'⟩|⟨xs,hx,e'⟩|⟨de,hx,e'⟩
  . subst e'
    obtain⟨av,r,pl,hz⟩:=I.list hx
    have hlen:=r.length
    exact wpAny_truthy_list pl.isList (by simp only[Y_];omega) ⟨H,I.tok _,by rw[oY r];exact q⟩
  . subst e'
    obtain⟨av,r,pl,hz⟩:=I.tuple hx
    have hlen:=r.length
    exact truthy_tuple pl (by simp only[Y_];omega) ⟨H,I.tok _,by rw[oY r];exact q⟩
  . subst e'
    obtain⟨hz,hS,vs,r,m⟩:de.length<=Zl/\(p == aa_)=false /\ ∃vs,KV de vs/\s.heap.DictOf (qy X.prog X.w) p vs:=I.bJ p _ hx
    have hlen:de.length=vs.length:=Paired.length r
    exact wpAny_truthy_dict hS m (by omega) ⟨H,I.tok _,by rw[yB r];exact q⟩
 |_=>exact(show False from e).elim
theorem Cr (ha:PE X a ta)(he:∀whole,isTrue a X.env whole=(do let v <- whole;ad5 a.pos;abS [v] (truthy v))):
  PT X a (λσ H Q=>ta σ H λx H'=>∃k,Cq X.K x H' k/\Q k H'):=by
 intro pins s σ H Q I h
 exact isTrue_plain (aX (ha pins s σ H _ I h) λv s1 ⟨x,H1,I1,r1,q1⟩=>JW pins s1 σ H1 x v Q I1 r1 q1) (he _)
theorem yC:bz X (ZT .Add) (λx y H Q=>∃i j,x = .str i/\y = .str j/\i.length+j.length<=Zl/\Q (.str (i++j)) H):=by
 intro pins s σ H x y v u Q I rx ry h
 obtain⟨i,j,rfl,rfl,hz,q⟩:=h
 obtain⟨t,rfl⟩:=rx
 obtain⟨t',rfl⟩:=ry
 exact add_str (λt' tk=>⟨.str (i++j),H,I.tok _,⟨_,rfl⟩,q⟩) hz
theorem vals1 {x:V}{us:List Value}(r:Vals [x] us):∃u,us = [u]/\RelV x u:=by
 cases r with
 |cons r1 r2=>cases r2;exact⟨_,rfl,r1⟩
theorem vals2 {x y:V}{us:List Value}(r:Vals [x,y] us):∃u w',us = [u,w']/\RelV x u/\RelV y w':=by
 cases r with
 |cons r1 r2 =>
  cases r2 with
  |cons r3 r4=>cases r4;exact⟨_,_,rfl,r1,r3⟩
theorem z9 (hc:X.calm=true):cA X (.builtin "max") (λxs H Q=>∃i j,xs = [.int i,.int j]/\Q (.int (if j>i then j else i)) H):=by
 intro pins s σ H xs us Q I r h
 obtain⟨i,j,rfl,q⟩:=h
 obtain⟨u,w',rfl,⟨t,rfl⟩,⟨t',rfl⟩⟩:=vals2 r
 refine max_two_ints (I.ok.hd hc) λh' tk k=>⟨_,H,I.kept k,?_,q⟩
 by_cases hj:j>i
 . rw[if_pos hj,if_pos hj];exact⟨_,rfl⟩
 . rw[if_neg hj,if_neg hj];exact⟨_,rfl⟩
theorem z_ (hc:X.calm=true):cA X (.builtin "min") (λxs H Q=>∃i j,xs = [.int i,.int j]/\Q (.int (if j<i then j else i)) H):=by
 intro pins s σ H xs us Q I r h
 obtain⟨i,j,rfl,q⟩:=h
 obtain⟨u,w',rfl,⟨t,rfl⟩,⟨t',rfl⟩⟩:=vals2 r
 refine min_two_ints (I.ok.hd hc) λh' tk k=>⟨_,H,I.kept k,?_,q⟩
 by_cases hj:j<i
 . rw[if_pos hj,if_pos hj];exact⟨_,rfl⟩
 . rw[if_neg hj,if_neg hj];exact⟨_,rfl⟩
theorem rR:cA X (.type "int") (λxs H Q=>(∃i,xs = [.int i]/\Q (.int i) H) \/ ∃k,xs = [.bl k]/\Q (.int (if k then 1 else 0)) H):=by
 intro pins s σ H xs us Q I r h
 rcases h with⟨i,rfl,q⟩|⟨k,rfl,q⟩
 . obtain⟨u,rfl,t,rfl⟩:=vals1 r
   exact call_int_int ⟨.int i,H,I,⟨_,rfl⟩,q⟩
 . obtain⟨u,rfl,r1⟩:=vals1 r
   cases r1
   exact call_int_bool ⟨.int (if k then 1 else 0),H,I.tok _,⟨_,rfl⟩,q⟩
end
structure Ya (h:Heap)(x dx C:Addr)(mA:Str->Option Value):Prop where
 obj:h.get? x=some (PySem.W.instObj C dx)
 ns:h.Ns1 dx mA
 ne:dx≠x
structure Vy (K:PySem.W.Frag)(C:Addr):Prop where
 pg:PySem.W.plainGet K C Str.empty=true
 hd:PySem.W.hasDictIn K C=true
 po:PySem.W.plainOver K C=true
 sa:PySem.W.findIn K (.ref C) "__setattr__" = some (some (.builtin "object.__setattr__"))
structure Yo (K:PySem.W.Frag)(C:Addr)(f:Str)(v:V)(u:Value):Prop where
 at_:PySem.W.findIn K (.ref C) f=some (some u)
 rel:RelV v u
 get:PySem.W.specialIn K u "__get__" = some none
 cp:PySem.W.copiedNames.contains f=false
structure Meth (K:PySem.W.Frag)(C:Addr)(m:Str)(f:Addr):Prop where
 at_:PySem.W.findIn K (.ref C) m=some (some (.ref f))
 fn:PySem.W.isFn K (.ref f)=true
 kp:PySem.W.keepIn K (.ref f)=true
section
variable {X:Cx}{pins:List (Addr×Obj)}{σ:St}{H:Hp}{s:Y4}{A:Zz}{E:Value->Y4->Prop}{Q:Value->Y4->Prop}{c:Value}{b:Bool}
inductive jy (K:PySem.W.Frag)(H:Hp):V->Value->Prop where
 |aA:jy K H .aA (.type "NoneType")
 |bl (x:Bool):jy K H (.bl x) (.type "bool")
 |int (i:Int):jy K H (.int i) (.type "int")
 |str (x:Str):jy K H (.str x) (.type "str")
 |fD (x:UInt64):jy K H (.fD x) (.type "float")
 |lst {a:Addr} {xs:List V} (e:H a=some (.lst xs)):jy K H (.ref a) (.type "list")
 |kz {a:Addr} {o:Obj} {xs:List V} (e:H a=some (.kz o (.lst xs))):jy K H (.ref a) (.type "list")
 |tup {a:Addr} {xs:List V} (e:H a=some (.tup xs)):jy K H (.ref a) (.type "tuple")
 |dK {a:Addr} {de:List (Key×V)} (e:H a=some (.dK de)):jy K H (.ref a) (.type "dict")
 |dT {a:Addr} {de:List (List Key×V)} (e:H a=some (.dT de)):jy K H (.ref a) (.type "dict")
 |ins {a C dx:Addr} {fs:List (Str×V)} (e:H a=some (.ins C dx fs)) (cl:Vy K C) (ha:PySem.W.findIn K (.ref C) "__class__" = some (some (.builtin "object.__class__")))
  (hn:PySem.W.specialIn K (.builtin "object.__class__") "__get__" = some (some (.builtin "getset_descriptor.__get__"))) (Yp:PySem.W.takesIn K (.builtin "object.__class__")=some true)
  (hm:PySem.W.mroIn K C (.type "object")=some true):jy K H (.ref a) (.ref C)
end
structure aO (k:Nat)(A:Zz):Prop where
 hd:A.handled=none
 dp:A.depth+3*k+5<recursionLimit
 un:A.units+16*k+200<cLine
 gd:A.guards=some []
theorem aO.deeper {k:Nat}{A:Zz}(r:aO (k+1) A)(env:Env):aO k (A.deeper env):=
 ⟨r.hd,by have:=r.dp;show A.depth+1+3*k+5<_;omega,by have:=r.un;show A.units+3+16*k+200<_;omega,by first|exact r.gd| (simp[Around.deeper];exact r.gd)⟩
theorem aO.depth {k:Nat}{A:Zz}(r:aO k A):A.depth<recursionLimit:=by have:=r.dp;omega
theorem aO.units {k:Nat}{A:Zz}(r:aO k A):A.units+64<cLine:=by have:=r.un;omega
noncomputable def JX:TA:=λ_ H Q=>Q [] H
noncomputable def OB (ta:TE)(tr:TA):TA:=λσ H Q=>ta σ H λx H1=>tr σ H1 λxs H2=>Q (x::xs) H2
section
variable {X:Cx}{e:Expr}{es:List Expr}{te:TE}{t:TA}{pos:Pos}
theorem oZ:PA X [] JX:=λ_ _ _ _ H Q I h=>adp ⟨[],H,I,.nil,h⟩
theorem kB (ha:PE X e te)(hr:PA X es t)(hs:Zv (e::es) X.env=(false,eval e X.env)::Zv es X.env:=by rfl):PA X (e::es) (OB te t):=by
 intro pos pins s σ H Q I h
 rw[hs]
 show wpAny _ _ (spliced ((false,eval e X.env)::abw pos (Zv es X.env))) _ _ s
 refine ac7 (aX (ha pins s σ H _ I h) λu s1 ⟨x,H1,I1,r1,q1⟩=>?_)
 exact aX (hr pos pins s1 σ H1 _ I1 q1) λus s2 ⟨xs,H2,I2,r2,q2⟩=>⟨x::xs,H2,I2,.cons r1 r2,q2⟩
noncomputable def RN (t:TA):TE:=λσ H Q=>t σ H λxs H1=>xs.length<=Zl /\ ∀p,H1 p=none->Q (.ref p) (upd H1 p (.tup xs))
noncomputable def RO (t:TA):TE:=λσ H Q=>t σ H λxs H1=>xs.length<=Zl /\ ∀p,H1 p=none->Q (.ref p) (upd H1 p (.lst xs))
theorem JY {x1}(h:PA X es t):PE X (.Tuple es x1 pos) (RN t):=by
 intro pins s σ H Q I hq
 refine wpAny_Tuple_spliced (aX (h pos pins s σ H _ I hq) λus s1 ⟨xs,H1,I1,r,z,q⟩=>⟨by rw[<- r.length];exact z,?_⟩)
 have hf:H1 s1.heap.objs.size=none:=I1.bJ.fresh (Za _)
 refine⟨.ref s1.heap.objs.size,upd H1 s1.heap.objs.size (.tup xs),I1.laid (t':=s1.toks) (λb u e=>Y6 _ e) (Za _) ?_,rfl,q _ hf⟩
 exact⟨z,us,r,⟨_,Zg _ rfl,rfl,⟨_,rfl⟩,rfl⟩⟩
theorem Aa (h:PA X es t):PE X (.List es pos) (RO t):=by
 intro pins s σ H Q I hq
 refine wpAny_List_spliced (aX (h pos pins s σ H _ I hq) λus s1 ⟨xs,H1,I1,r,z,q⟩=>⟨by rw[<- r.length];exact z,?_⟩)
 have hf:H1 s1.heap.objs.size=none:=I1.bJ.fresh (Za _)
 refine⟨.ref s1.heap.objs.size,upd H1 s1.heap.objs.size (.lst xs),I1.laid (t':=s1.toks) (λb u e=>Y6 _ e) (Za _) ?_,rfl,q _ hf⟩
 exact⟨z,us,0,r,Zg _ rfl⟩
end
noncomputable abbrev Sp:=List V->Hp->VK->XK->Prop
noncomputable abbrev lQ:=List Env->Hp->Y4->XK->Value->Y4->Prop
structure yD (P:ZC)(w:World)(K:PySem.W.Frag)(mg:Str->Option Value)(base:Heap)(A:Zz)(outer:List Env)(s:Y4)(H:Hp):Prop where
 frames:A.frames=some outer
 mod:Mod K mg base
 bs:∀b o,base.get? b=some o->s.heap.get? b=some o/\H b=none
 rM:base.objs.size<=s.heap.objs.size
 jx:s.heap.FunFrames base outer
 wL:∀b∈lN outer,H b=none
 bJ:fE P w H s.heap
 bare:acC s.gens
noncomputable def CE (outer:List Env)(P:ZC)(w:World)(H:Hp)(s:Y4)(Q:VK)(u:Value)(s':Y4):Prop :=
 ∃v H',s'.os=s.os/\acC s'.gens/\Un (lN outer) [] H H' s.heap s'.heap/\fE P w H' s'.heap/\RelV v u/\Q v H'
noncomputable def CR (CX:lQ)(outer:List Env)(P:ZC)(w:World)(H:Hp)(s:Y4)(Q:VK)(E:XK)(r:Result)(s':Y4):Prop :=
 match r with
 |.ok (.ret u)=>CE outer P w H s Q u s'
 |.ok _=>False
 |.error e=>CX outer H s E e s'
structure dN (P:ZC)(w:World)(K:PySem.W.Frag)(mg:Str->Option Value)(base:Heap)(CX:lQ)(k:Nat)(f:Addr)(fd:aae)(ps:List Str)(sp:Sp):Prop where
 len:∀vs H Q E,sp vs H Q E->vs.length=ps.length
 run:∀(A:Zz) (outer:List Env) (s:Y4) (H:Hp) (args:Args) (us:List Value) (vs:List V) (Q:VK) (E:XK),aO k A->yD P w K mg base A outer s H->ad7 s fd args (ps.zip us)->Vals vs us->sp vs H Q E ->
  ac0 (model P w) A (.call (.ref f) args) (CR CX outer P w H s Q E) s
theorem dN.imp {P:ZC}{w:World}{K:PySem.W.Frag}{mg:Str->Option Value}{base:Heap}{CX:lQ}{k:Nat}{f:Addr}{fd:aae}{ps:List Str}{sp PR:Sp}(F:dN P w K mg base CX k f fd ps sp)
  (h:∀vs H Q E,PR vs H Q E->sp vs H Q E):dN P w K mg base CX k f fd ps PR :=
 ⟨λvs H Q E q=>F.len vs H Q E (h _ _ _ _ q),λA outer s H args us vs Q E hr he hb hv hs=>F.run A outer s H args us vs Q E hr he hb hv (h _ _ _ _ hs)⟩
section
variable {X:Cx}{pins:List (Addr×Obj)}{σ:St}{H:Hp}{s s':Y4}
theorem Inv.RP (I:Inv X pins σ H s):yD X.prog X.w X.K X.mg X.base X.A X.stack s H :=
 ⟨I.ok.frames,I.ok.mod,I.bs,aaa I.ok.rM I.sz,I.stack,I.wM,I.bJ,I.bare⟩
theorem Inv.after {Q:VK}{u:Value}(I:Inv X pins σ H s)(h:CE X.stack X.prog X.w H s Q u s'):EP X pins σ Q u s':=by
 obtain⟨v,H',os,bare,un,bJ,r,q⟩:=h
 obtain⟨hh,g,d,t,JZ⟩:=s'
 obtain rfl:JZ=s.os:=os
 exact⟨v,H',I.call (h':=hh) (g':=g) (d':=d) (t':=t) (ch:=[]) un bJ bare (λb z=>absurd z (by simp)),r,q⟩
end
noncomputable def yE (sp:Sp)(nS:List V)(E:XK)(t:TA):TE:=λσ H Q=>t σ H λvs H1=>sp (vs++nS) H1 Q E
noncomputable def Binds (K:PySem.W.Frag)(fd:aae)(ps:List Str)(ds:List Value):Prop :=
 ∀(s:Y4) (us:List Value),K.In s.heap->(us++ds).length=ps.length->ad7 s fd ⟨us,[]⟩ (ps.zip (us++ds))
theorem Binds.all {K:PySem.W.Frag}{fd:aae}{ps:List Str}(h:∀us:List Value,us.length=ps.length->bindArgs fd ⟨us,[]⟩=pure (ps.zip us)):Binds K fd ps []:=λs us _ hl=>by
 rw[abI]at hl ⊢
 exact .of_eq (h us hl)
noncomputable def Passes (CX:lQ)(X:Cx)(E:XK):Prop:=∀(pins:List (Addr×Obj)) (σ:St) (H:Hp) (s:Y4) (e:Value) (s':Y4),Inv X pins σ H s->CX X.stack H s E e s'->X.xe e s'
section
variable {X:Cx}{CX:lQ}{k:Nat}{f C:Addr}{fd:aae}{ps:List Str}{sp:Sp}{nS:List V}{ds:List Value}{E:XK}{x m:Str}{p pos apos:Pos}{e o:Expr}{es:List Expr}{ta:TE}{t:TA}
theorem Ab {pins:List (Addr×Obj)}{σ:St}{H:Hp}{s:Y4}{Q:VK}{us:List Value}{vs:List V}(F:dN X.prog X.w X.K X.mg X.base CX k f fd ps sp)(hr:aO k X.A)(hb:Binds X.K fd ps ds)(hd:Vals nS ds)(hx:Passes CX X E)
  (I:Inv X pins σ H s) (r:Vals vs us) (h:sp (vs++nS) H Q E):wpAny (model X.prog X.w) X.A (call (.ref f) us) (EP X pins σ Q) X.xe s:=by
 have r2:Vals (vs++nS) (us++ds):=r.append hd
 have hl:(us++ds).length=ps.length:=by rw[<- r2.length];exact F.len _ _ _ _ h
 refine wpAny_call (acJ (F.run X.A X.stack s H ⟨us,[]⟩ (us++ds) (vs++nS) Q E hr I.RP (hb s us I.i9 hl) r2 h) λr s' hq=>?_)
 cases r with
 |error e=>exact hx pins σ H s e s' I hq
 |ok fl =>
  cases fl with
  |ret u=>exact I.after hq
  |next=>exact abp hq
  |brk=>exact abp hq
  |cont=>exact abp hq
theorem GU (F:dN X.prog X.w X.K X.mg X.base CX k f fd ps sp)(hr:aO k X.A)(hg:Gl X x)(hm:X.mg x=some (.ref f))(hk:PySem.W.keepIn X.K (.ref f)=true)(hb:Binds X.K fd ps ds)(hd:Vals nS ds)(hx:Passes CX X E)
  (ha:PA X (e::es) t) (jz:(x == ("__debug__":Str))=false:=by decide) (he:Zv (e::es) X.env=(false,eval e X.env)::Zv es X.env:=by rfl) (jV:(abw pos (Zv es X.env)).any (·.1)=false:=by rfl):
  PE X (.Call (.Name x p) (e::es) [] pos) (yE sp nS E t):=by
 intro pins s σ H Q I h
 refine aaP (qz I hg hm ?_ jz)
 refine PySem.W.callWith_K (h₀:=X.base) I.ok.mod.zP hk (aX (ha pos pins s σ H _ I h) λus s1 ⟨vs,H1,I1,r,q⟩=>⟨I1.i9,?_⟩) he jV
 exact Ab F hr hb hd hx I1 r q
theorem Ct (F:dN X.prog X.w X.K X.mg X.base CX k f fd ps sp)(hr:aO k X.A)(hg:Gl X x)(hm:X.mg x=some (.ref f))(hk:PySem.W.keepIn X.K (.ref f)=true)(hb:Binds X.K fd ps ds)(hd:Vals nS ds)(hx:Passes CX X E)
  (jz:(x == ("__debug__":Str))=false:=by decide):PE X (.Call (.Name x p) [] [] pos) (yE sp nS E JX):=by
 intro pins s σ H Q I h
 refine aaP (qz I hg hm ?_ jz)
 exact PySem.W.callWith_K0 I.i9 hk (Ab (us:=[]) F hr hb hd hx I .nil h)
structure Mk (K:PySem.W.Frag)(C f:Addr):Prop where
 makes:PySem.W.makesIn K C=true
 init:PySem.W.findIn K (.ref C) "__init__" = some (some (.ref f))
 fn:PySem.W.isFn K (.ref f)=true
 kp:PySem.W.keepIn K (.ref C)=true
end
section
variable {X:Cx}{CX:lQ}{k:Nat}{f C:Addr}{fd:aae}{ps ks:List Str}{sp:Sp}{E:XK}{x m:Str}{p pos apos Yb:Pos}{e o:Expr}{es:List Expr}{Yq:List ae7}{te ta:TE}{t tk:TA}{nm:Option Str}
structure Vz (K:PySem.W.Frag)(fd:aae)(ps ks:List Str)(g:List Value->List Value->List Value)(gV:List V->List V->List V):Prop where
 to:∀(s:Y4) (us ws:List Value),K.In s.heap->(g us ws).length=ps.length->ad7 s fd ⟨us,ks.zip ws⟩ (ps.zip (g us ws))
 rel:∀{vs:List V} {us:List Value} {zs:List V} {ws:List Value},Vals vs us->Vals zs ws->Vals (gV vs zs) (g us ws)
variable {g:List Value->List Value->List Value}{gV:List V->List V->List V}
end
structure jt (N P:List Str)(sc:Scope):Prop where
 kind:sc.kind = .function
 co:sc.isCoroutine=false
 gen:sc.isGenerator=false
 nd:N.Nodup
 pre:N.take P.length=P
 par:∀x∈P,sc.names.lookup x=some .local\/sc.names.lookup x=some .cell
 J0:∀y∈sc.names,y.2 ≠ .free
theorem rS {kindOf:Str->Option aa6}{x:Str}:∀{binds:List (Str×Value)} {m:Str->Option Value},(∀v,(x,v) ∉ binds)->bindL kindOf binds m x=m x
 | [],_,_=>rfl
 | (n,v)::r,m,h=>by
  unfold bindL
  rw[rS λw hw=>h w (Zs _ hw)]
  split
  . have:x≠n:=by rintro rfl;exact h v Zp
    simp[this]
  . rfl
theorem rT {kindOf:Str->Option aa6}{x:Str}:∀{binds:List (Str×Value)} {m:Str->Option Value},(∀v,(x,v) ∉ binds)->bindC kindOf binds m x=m x
 | [],_,_=>rfl
 | (n,v)::r,m,h=>by
  unfold bindC
  rw[rT λw hw=>h w (Zs _ hw)]
  split
  . rfl
  . have:x≠n:=by rintro rfl;exact h v Zp
    simp[this]
theorem rV {kindOf:Str->Option aa6}{x:Str}{v:Value}:∀{P:List Str} {vs:List Value} {i:Nat} {m:Str->Option Value},P.Nodup->P[i]? = some x->vs[i]? = some v->kindOf x=some .local ->
  bindL kindOf (P.zip vs) m x=some v
 | [],_,_,_,_,h,_,_=>by simp at h
 |_::_,[],_,_,_,_,h,_=>by simp at h
 |p::P,w::vs,0,m,nd,h1,h2,hk=>by
  simp at h1 h2;subst h1;subst h2
  show bindL kindOf ((p,w)::P.zip vs) m p=_
  unfold bindL
  rw[rS λv hv=>(aaD.mp nd).1 (adU hv).1,if_pos hk]
  simp
 |p::P,w::vs,i+1,m,nd,h1,h2,hk=>by
  show bindL kindOf ((p,w)::P.zip vs) m x=_
  unfold bindL
  exact rV (i:=i) (aaD.mp nd).2 (by simpa using h1) (by simpa using h2) hk
theorem rW {kindOf:Str->Option aa6}{x:Str}{v:Value}:∀{P:List Str} {vs:List Value} {i:Nat} {m:Str->Option Value},P.Nodup->P[i]? = some x->vs[i]? = some v->kindOf x≠some .local ->
  bindC kindOf (P.zip vs) m x=some v
 | [],_,_,_,_,h,_,_=>by simp at h
 |_::_,[],_,_,_,_,h,_=>by simp at h
 |p::P,w::vs,0,m,nd,h1,h2,hk=>by
  simp at h1 h2;subst h1;subst h2
  show bindC kindOf ((p,w)::P.zip vs) m p=_
  unfold bindC
  rw[rT λv hv=>(aaD.mp nd).1 (adU hv).1,if_neg hk]
  simp
 |p::P,w::vs,i+1,m,nd,h1,h2,hk=>by
  show bindC kindOf ((p,w)::P.zip vs) m x=_
  unfold bindC
  exact rW (i:=i) (aaD.mp nd).2 (by simpa using h1) (by simpa using h2) hk
noncomputable def start (N:List Str)(vs:List V):St:=vs.map some++Zo (N.length-vs.length) none
noncomputable def mh (CX:lQ)(P:ZC)(w:World)(K:PySem.W.Frag)(mg:Str->Option Value)(base:Heap)(N:List Str)(qual:Str)(scope:Scope)(f:Addr)(cd:Value)(A:Zz)(outer:List Env)(s:Y4)(H:Hp)(E:XK):Cx where
 prog:=P
 w:=w
 K:=K
 mg:=mg
 base:=base
 A:=A.deeper (acK qual scope s.heap.objs.size f cd)
 N:=N
 s₀:=s
 H₀:=H
 env:=acK qual scope s.heap.objs.size f cd
 outer:=outer
 stack:=acK qual scope s.heap.objs.size f cd::outer
 ex:=[]
 calm:=true
 fn:=λ_=>true
 pn:=[]
 xe:=λe s'=>wpAny (model P w) (A.deeper (acK qual scope s.heap.objs.size f cd)) (leaving (acK qual scope s.heap.objs.size f cd) e) (λ_ Ac=>CX outer H s E e Ac) (λe' Ac=>CX outer H s E e' Ac) s'
theorem ue {sc:Scope}{n:Nat}{x:Str}(h:sc.names.lookup x=some .cell):∃c,(aal n sc.names []).lookup x=some c:=by
 have q:=PySem.W.cellsFrom_some sc.names n [] (.inl h)
 exact aaV.mp q
theorem Ad {CX:lQ}{P:ZC}{w:World}{K:PySem.W.Frag}{mg:Str->Option Value}{base:Heap}{N ps:List Str}{qual:Str}{scope:Scope}{f:Addr}{cd:Value}{A:Zz}{outer:List Env}{s s1:Y4}{H:Hp}{E:XK}{us:List Value}{vs:List V}
   (S:jt N ps scope) (hd:A.handled=none) (e0:yD P w K mg base A outer s H) (hl:vs.length=ps.length) (r:Vals vs us)
   (x:InCallC s s.heap.objs.size (bindL (acK qual scope s.heap.objs.size f cd).kindOf (ps.zip us) λ_=>none) (aal (s.heap.objs.size+1) scope.names []) (bindC (acK qual scope s.heap.objs.size f cd).kindOf (ps.zip us) λ_=>none) s1):
   Inv (mh CX P w K mg base N qual scope f cd A outer s H E) [] (start N vs) H s1:=by
 have jV:ps.length<=N.length:=by have:=congrArg aca S.pre;rw[aaM]at this;omega
 obtain⟨h1,tk,rfl,hk⟩:=x.done
 have Ae:∀b:Addr,b ∉ (mh CX P w K mg base N qual scope f cd A outer s H E).ex:=λb z=>absurd (show b∈([]:List Addr) from z) (by simp)
 refine⟨⟨e0.mod,S.kind,rfl,rfl,Za _,λy z c h1 h2=>?_,λy hy=>?_,λy c _ h=>?_,λ_=>hd,Around.frames_deeper e0.frames,.inr ⟨rfl,rfl⟩,λb z=>absurd z (Ae b),e0.bs,e0.rM,λb _ _=>Ae b,λb z=>absurd z (Ae b),e0.jx,e0.wL⟩,
   rfl,e0.bare,Un.kept hk,⟨_,x.toInCall.ns,λi y v h1 h2 h3=>?_⟩,λy c h=>⟨_,x.cell y c h⟩,e0.bJ.fresh (Za _),λy c h=>?_,λp hp=>absurd (show p∈([]:List (Addr×Obj)) from hp) (by simp),e0.bJ.kept hk,?_⟩
 . exact name_of_addr x.apart (PySem.mem_of_lookup h1) (PySem.mem_of_lookup h2)
 . have hy:scope.names.lookup y=some .cell\/scope.names.lookup y=some .free:=hy
   rcases hy with hy|hy
   . exact ue hy
   . exact absurd rfl (S.J0 _ (PySem.mem_of_lookup hy))
 . exact abv (x.above y c (PySem.mem_of_lookup h))
 . have hi:i<vs.length:=by
     unfold start at h2
     by_cases hi:i<vs.length
     . exact hi
     . rw[aaA (by simpa using hi)]at h2
       rw[adN]at h2
       split at h2<;>cases h2
   have ha:vs[i]? = some v:=by
     unfold start at h2
     rw[Zu (by simpa using hi),ZS]at h2
     cases e:vs[i]? with
     |none=>rw[e]at h2;cases h2
     |some a=>rw[e]at h2;cases h2;rfl
   obtain⟨u,hu,rv⟩:=r.get ha
   have hp:ps[i]? = some y:=by
     rw[<- S.pre,ZH (by omega)];exact h1
   have PU:ps.Nodup:=by rw[<- S.pre];exact S.nd.sublist (afa _ _)
   refine⟨u,rv,?_⟩
   rcases S.par y (ZY hp)with k|k
   . exact .inl ⟨k,rV PU hp hu k⟩
   . obtain⟨c,e⟩:=ue (n:=s.heap.objs.size+1) k
     refine .inr ⟨.inl k,c,e,?_⟩
     have q:=x.cell y c e
     rw[rW PU hp hu (by show scope.names.lookup y≠_;rw[k];decide)]at q
     exact q
 . exact e0.bJ.fresh (abv (x.above y c (PySem.mem_of_lookup h)))
 . unfold start
   show _=N.length
   rw[aav,Zr,List.length_replicate]
   omega
theorem OC {CX:lQ}{P:ZC}{w:World}{K:PySem.W.Frag}{mg:Str->Option Value}{base:Heap}{k:Nat}{f:Addr}{name qual:Str}{params:Arguments}{body:List Stmt}{scope:Scope}{dV kV doc pm et ct oc:Value}{an od:Option Addr}
  {uf:Array (Option Value)} {N ps:List Str} {sp:Sp} (lk:K.lookup f=some ⟨oc,od,.func (PySem.W.fnOf name qual params body scope dV kV doc pm an et ct),uf⟩) (nO:PySem.W.codeIn K et qual=true) (S:jt N ps scope)
  (len:∀vs H Q E,sp vs H Q E->vs.length=ps.length)
  (yF:∀(A:Zz) (outer:List Env) (s:Y4) (H:Hp) (vs:List V) (Q:VK) (E:XK),aO k (A.deeper (acK qual scope s.heap.objs.size f et))->sp vs H Q E ->
    ∃t,gR (mh CX P w K mg base N qual scope f et A outer s H E) body t/\t { nx:=λ_ H'=>Q .aA H',rt:=Q } (start N vs) H):
  dN P w K mg base CX (k+1) f (PySem.W.fnOf name qual params body scope dV kV doc pm an et ct) ps sp:=by
 refine⟨len,λA outer s H args us vs Q E hr e0 hb r rX=>?_⟩
 have hl:=len _ _ _ _ rX
 have KX:K.In s.heap:=e0.mod.zP.keeps λb o e=>(e0.bs b o e).1
 have lim:s.heap.NoLimit:=e0.mod.nolimit.keeps λb o e=>(e0.bs b o e).1
 have tf:∀y∈ps.zip us,scope.names.lookup y.1=some .local\/(scope.names.lookup y.1=some .cell/\((aal (s.heap.objs.size+1) scope.names []).lookup y.1).isSome=true):=λ⟨n,v⟩ hy=>by
  rcases S.par n (adU hy).1 with q|q
  . exact .inl q
  . exact .inr ⟨q,PySem.W.cellsFrom_some _ _ _ (.inl q)⟩
 refine codeAny_call_function hr.depth (KX _ _ lk) rfl S.co S.gen rfl (PySem.W.codeRec_of KX nO) (hb _ _ _ _ ?_)
 refine wpAny_newFunctionEnv_cells S.kind tf λenv he s1 x=>?_
 subst he
 refine⟨lim.keeps x.toInCall.keep,codeAny_func ?_⟩
 obtain⟨t,ht,hq⟩:=yF A outer s H vs Q E (hr.deeper _) rX
 have I:Inv (mh CX P w K mg base N qual scope f et A outer s H E) [] (start N vs) H s1:=Ad S hr.hd e0 hl r x
 refine acH (ht [] s1 (start N vs) H _ I hq) (λfl s' hs=>?_) λe s' hs=>hs
 have fin:∀{σ':St} {H':Hp} {v:V} {u:Value},Inv (mh CX P w K mg base N qual scope f et A outer s H E) [] σ' H' s'->RelV v u->Q v H'->CE outer P w H s Q u s' :=
  fun {σ' H' v u} J rv q=>⟨v,H',J.os,J.bare,J.base,J.bJ,rv,q⟩
 cases fl with
 |ret u =>
  obtain⟨v,σ',H',J,rv,q⟩:=hs
  exact fin J rv q
 |next =>
  obtain⟨σ',H',J,q⟩:=hs
  exact fin (v:=V.aA) (u:=abF) J rfl q
 |brk =>
  obtain⟨_,_,_,q⟩:=hs
  exact abp q
 |cont =>
  obtain⟨_,_,_,q⟩:=hs
  exact abp q
section
variable {X:Cx}{x:Str}{p pos:Pos}{e:Expr}{es:List Expr}{t:TA}{id T:String}{r:List V->Hp->VK->Prop}
noncomputable def PV (r:List V->Hp->VK->Prop)(t:TA):TE:=λσ H Q=>t σ H λvs H1=>r vs H1 Q
theorem ug (hc:cA X (.builtin id) r)(hg:Gl X x)(hm:X.mg x=none)(hv:aaK x=some (.builtin id))(ha:PA X (e::es) t)(hn:x ≠ "__name__":=by decide)(jz:(x == ("__debug__":Str))=false:=by decide)
  (he:Zv (e::es) X.env=(false,eval e X.env)::Zv es X.env:=by rfl) (jV:(abw pos (Zv es X.env)).any (·.1)=false:=by rfl):PE X (.Call (.Name x p) (e::es) [] pos) (PV r t):=by
 intro pins s σ H Q I h
 refine aaP (fZ I hg hm hv ?_ hn jz)
 exact acL (aX (ha pos pins s σ H _ I h) λus s1 ⟨vs,H1,I1,r1,q1⟩=>hc pins s1 σ H1 vs us Q I1 r1 q1) he jV
theorem Af (hc:cA X (.type T) r)(hg:Gl X x)(hm:X.mg x=none)(hv:aaK x=some (.type T))(ha:PA X (e::es) t)(hn:x ≠ "__name__":=by decide)(jz:(x == ("__debug__":Str))=false:=by decide)
  (he:Zv (e::es) X.env=(false,eval e X.env)::Zv es X.env:=by rfl) (jV:(abw pos (Zv es X.env)).any (·.1)=false:=by rfl):PE X (.Call (.Name x p) (e::es) [] pos) (PV r t):=by
 intro pins s σ H Q I h
 refine aaP (fZ I hg hm hv ?_ hn jz)
 exact aah (aX (ha pos pins s σ H _ I h) λus s1 ⟨vs,H1,I1,r1,q1⟩=>hc pins s1 σ H1 vs us Q I1 r1 q1) he jV
end
end L2
namespace HT
open PySem PyProof.Rows
section
open PySem.SeqAt
open PySem.AutoSeq1 (wpAny_loadPart')
open PySem.MeetsSeq PySem.MeetsSeq2 PySem.MeetsSeq3
end
section
variable {prog:ZC}{w:World}{A:Zz}{E:Value->Y4->Prop}{s:Y4}
theorem GV {t b:Addr}{vs ws:List Value}{Q:Value->Y4->Prop}(ht:IsTup s.heap t vs.toArray)(hb:IsTup s.heap b ws.toArray)(hv:vs ≠ [])
   (h1:ws = []->Q (.ref t) s) (h2:ws ≠ []->Q (.ref s.heap.objs.size) { s with heap:=s.heap.push { cls:=.type "tuple",data:=.seq (vs++ws).toArray } })
   (hsz:vs.length+ws.length<=Zl):wpAny (model prog w) A (ZT .Add (.ref t) (.ref b)) Q E s:=by
 obtain⟨⟨cls,dd,data,sl⟩,ho,hc,n,hd⟩:=id ht
 obtain⟨⟨Cu,ml,data2,lR⟩,f_,jA,n2,hd2⟩:=id hb
 simp only at hc hd jA hd2
 subst hc hd jA hd2
 have e:vs.toArray++ws.toArray=(vs++ws).toArray:=by simp
 by_cases hw:ws = []
 . exact adF ⟨_,ho,rfl⟩ ⟨_,f_,rfl⟩ adG aez PySem.F.slot_tuple_add PySem.F.entry_tuple_add (PySem.F.args_tuple_add_2 _ _)
    (tuple_addW1 t b vs.toArray ws.toArray n n2 dd ml sl lR (by simpa using hv) (by simp[hw])) ⟨ho,f_,h1 hw⟩
 . refine adF ⟨_,ho,rfl⟩ ⟨_,f_,rfl⟩ adG aez PySem.F.slot_tuple_add PySem.F.entry_tuple_add (PySem.F.args_tuple_add_2 _ _)
    (tuple_addW2 t b vs.toArray ws.toArray n n2 dd ml sl lR (by simpa using hv) (by simpa using hw) (by rw[Y_,Y_];exact hsz)) ⟨ho,f_,?_⟩
   rw[e]
   exact h2 hw
noncomputable def bG (n d:Nat):Option Int->Nat
 |none=>d
 |some v=>if v<0 then(v+(n:Int)).toNat else min v.toNat n
theorem uh (n d:Nat):bG n d none=d:=rfl
theorem wU (n d k:Nat):bG n d (some (k:Int))=min k n:=by
 show(if(k:Int)<0 then((k:Int)+(n:Int)).toNat else min (k:Int).toNat n)=min k n
 rw[if_neg (by omega),abN]
theorem J2 (n d:Nat)(hd:d<=n)(o:Option Int):bG n d o<=n:=by
 cases o with
 |none=>exact hd
 |some v =>
  show(if v<0 then(v+(n:Int)).toNat else min v.toNat n)<=n
  by_cases hv:v<0
  . rw[if_pos hv];omega
  . rw[if_neg hv];exact Nat.min_le_right _ _
theorem wV (v:Int)(n d:Nat):(if v<0 then max (v+(n:Int)) 0 else min v (n:Int))=((bG n d (some v):Nat):Int):=by
 show(if v<0 then max (v+(n:Int)) 0 else min v (n:Int))=(((if v<0 then(v+(n:Int)).toNat else min v.toNat n):Nat):Int)
 by_cases hv:v<0
 . simp only[if_pos hv];omega
 . simp only[if_neg hv];omega
theorem yG (lo hi:Option Int)(n:Nat):aac lo hi 1 (n:Int)=(((bG n 0 lo:Nat):Int),((bG n n hi:Nat):Int)):=by
 have h1:¬((1:Int)<0):=by omega
 unfold aac
 simp only[h1,if_false]
 refine Prod.ext ?_ ?_
 . cases lo with
   |none=>rfl
   |some v=>exact wV v n 0
 . cases hi with
   |none=>rfl
   |some v=>exact wV v n n
theorem yH (i j:Nat):aap (i:Int) (j:Int) 1=j-i:=by
 unfold aap
 have h1:(1:Int)>0:=by omega
 simp only[h1,if_true,Int.ediv_one]
 split<;>omega
theorem gS {v:Value}{o:Option Int}{Q:Option Int->Y4->Prop}(p:abx v o)(h:Q o s):wpAny (model prog w) A (Builtin.Slice.slicePartIndex v) Q E s:=by
 cases p with
 |none=>exact slicePart_none h
 |int i t=>exact slicePart_int h
theorem jB {sl:Addr}{vl vu:Value}{lo hi:Option Int}{n:Nat}{Q:Int×Int×Nat->Y4->Prop}(hs:s.heap.IsSliceOf sl vl vu .none)(pl:abx vl lo)(pu:abx vu hi)
  (h:Q (((bG n 0 lo:Nat):Int),1,bG n n hi-bG n 0 lo) s):wpAny (model prog w) A (abj (.ref sl) (pure (n:Int))) Q E s:=by
 obtain⟨os,uk,wW,o_⟩:=id hs
 unfold abj adu
 refine xv (xv (aba uk o_ (x:=vl) rfl (xv (aba uk o_ (x:=vu) rfl (xv (aba uk o_ (x:=.none) rfl (Y5 ?_)))))))
 refine xv (slicePart_none ?_)
 show wpAny _ _ (if((1:Int)== 0)=true then _ else _) _ _ s
 rw[if_neg (by decide)]
 refine xv (gS pl (xv (gS pu (xv (Y5 ?_)))))
 show wpAny _ _ (match aac lo hi 1 (n:Int)with| (lo,hi)=>pure (lo,(1:Int),aap lo hi 1)) _ _ s
 rw[yG lo hi n]
 show wpAny _ _ (pure (((bG n 0 lo:Nat):Int),(1:Int),aap ((bG n 0 lo:Nat):Int) ((bG n n hi:Nat):Int) 1)) _ _ s
 rw[yH]
 exact Y5 h
theorem Cv (xs:Array Value)(i k:Nat):((Y9 k).filterMap λ(m:Nat)=>xs[((i:Int)+(m:Int)*1).toNat]?).toArray=((xs.toList.drop i).take k).toArray:=by
 have e:(λ(m:Nat)=>xs[((i:Int)+(m:Int)*1).toNat]?)=λm=>xs[i+m]?:=by
  funext m
  have:((i:Int)+(m:Int)*1).toNat=i+m:=by omega
  rw[this]
 rw[e]
 have:=pick_run xs i k
 rw[List.filterMap_map]at this
 have e2:((λx=>xs[x]?) ∘ λx=>i+x)=λm=>xs[i+m]?:=rfl
 rw[e2]at this
 rw[this]
theorem nL {t sl:Addr}{items:Array Value}{vl vu:Value}{lo hi:Option Int}{Q:Value->Y4->Prop}(ht:IsTup s.heap t items)(hs:s.heap.IsSliceOf sl vl vu .none)(pl:abx vl lo)(pu:abx vu hi)
  (hw:¬(bG items.size 0 lo=0/\bG items.size items.size hi=items.size))
  (h:Q (.ref s.heap.objs.size) { s with heap:=s.heap.push { cls:=.type "tuple",data:=.seq ((items.toList.drop (bG items.size 0 lo)).take (bG items.size items.size hi-bG items.size 0 lo)).toArray } })
  (hsz:items.size<=Zl):wpAny (model prog w) A (aco (.ref t) (.ref sl)) Q E s:=by
 have tv:sizeOk (.seq ((items.toList.drop (bG items.size 0 lo)).take (bG items.size items.size hi-bG items.size 0 lo)).toArray):=by
  show((items.toList.drop (bG items.size 0 lo)).take (bG items.size items.size hi-bG items.size 0 lo)).toArray.size<=Zl
  rw[Y_,aaM,afw,acX]
  omega
 have hj:bG items.size items.size hi<=items.size:=J2 _ _ (Za _) hi
 obtain⟨os,uk,wW,o_⟩:=id hs
 have J3:s.TypeIs (.ref sl) "slice":=⟨os,uk,wW⟩
 unfold aco
 try with_reducible refine ZI ?_
 first|refine xv (Y5 ?_)|skip
 refine xv (abO ht.typeIs (by decide) ?_)
 refine xv (Z_ (name:=Zy "__getitem__") ht.typeIs ZG
  (ZN ZG ht.typeIs acY ?_ (ac8 _ _)))
 show wpAny _ _ (abk (.ref t) >>= _) _ _ s
 refine xv (aeA ht ?_)
 refine xv (aci J3 ?_)
 rw[if_pos (by decide)]
 refine xv (jB hs pl pu ?_)
 have J4:¬((((bG items.size 0 lo:Nat):Int)== 0&&(1:Int)== 1&&(bG items.size items.size hi-bG items.size 0 lo)== items.size)=true):=by
  intro q
  rw[Y3,Y3]at q
  have q1:((bG items.size 0 lo:Nat):Int)=0:=eq_of_beq q.1.1
  have q2:bG items.size items.size hi-bG items.size 0 lo=items.size:=eq_of_beq q.2
  exact hw ⟨by omega,by omega⟩
 show wpAny _ _ (if(((bG items.size 0 lo:Nat):Int)== 0&&(1:Int)== 1&&(bG items.size items.size hi-bG items.size 0 lo)== items.size)=true then _ else _) _ _ s
 rw[if_neg J4,Cv]
 first
  |exact xv (m:=ZO _) (ZL (Y5 ⟨_,rfl,Y5 h⟩) tv)
  |exact xv (m:=ZO _) (ZL (xv (Y5 (Y5 ⟨_,rfl,Y5 h⟩))) tv)
  |exact xv (xv (m:=ZO _) (ZL (Y5 (Y5 ⟨_,rfl,Y5 h⟩)) tv))
  |exact xv (xv (m:=ZO _) (ZL (Y5 ⟨_,rfl,Y5 h⟩) tv))
end
end HT
namespace L2
open PySem PySem.Spec PyProof.Rows
noncomputable abbrev TO:=St->Hp->(Option Int->Hp->Prop)->Prop
noncomputable def PO (X:Cx)(e:Option Expr)(t:TO):Prop :=
 ∀(pins:List (Addr×Obj)) (s:Y4) (σ:St) (H:Hp) (Q:Option Int->Hp->Prop),Inv X pins σ H s->t σ H Q ->
  wpAny (model X.prog X.w) X.A (evalPart e X.env) (λu s'=>∃o H',Inv X pins σ H' s'/\abx u o/\Q o H') X.xe s
noncomputable def GW:TO:=λ_ H Q=>Q none H
noncomputable def OD (t:TE):TO:=λσ H Q=>t σ H λx H1=>∃i,x = .int i/\Q (some i) H1
section
variable {X:Cx}{e:Expr}{te:TE}{lo hi:Option Expr}{tl th:TO}{pos p2:Pos}
theorem GX:PO X none GW:=by
 intro pins s σ H Q I h
 rw[evalPart_none]
 exact Y5 ⟨none,H,I,.none,h⟩
theorem GY (h:PE X e te):PO X (some e) (OD te):=by
 intro pins s σ H Q I hw
 rw[evalPart_some]
 refine aX (h pins s σ H _ I hw) λu s1 ⟨x,H1,I1,r1,q1⟩=>?_
 obtain⟨i,rfl,q⟩:=q1
 obtain⟨t,rfl⟩:=r1
 exact⟨some i,H1,I1,.int i t,q⟩
noncomputable def nT (X:Cx)(r:V->Option Int->Option Int->Hp->VK->Prop):Prop :=
 ∀(pins:List (Addr×Obj)) (s:Y4) (σ:St) (H:Hp) (x:V) (v vl vu:Value) (lo hi:Option Int) (sl:Addr) (Q:VK),Inv X pins σ H s->RelV x v->s.heap.IsSliceOf sl vl vu .none->abx vl lo->abx vu hi->r x lo hi H Q ->
  ∃T id,typeLookup (.type T) "__getitem__" = pure (some (.builtin id))/\s.TypeIs v T/\wpAny (model X.prog X.w) X.A (aco v (.ref sl)) (EP X pins σ Q) X.xe s
theorem nT.or {r r':V->Option Int->Option Int->Hp->VK->Prop}(h:nT X r)(h':nT X r'):nT X (λx lo hi H Q=>r x lo hi H Q\/r' x lo hi H Q):=by
 intro pins s σ H x v vl vu lo hi sl Q I rx hs pl pu q
 rcases q with q|q
 . exact h pins s σ H x v vl vu lo hi sl Q I rx hs pl pu q
 . exact h' pins s σ H x v vl vu lo hi sl Q I rx hs pl pu q
noncomputable def VA (r:V->Option Int->Option Int->Hp->VK->Prop)(te:TE)(tl th:TO):TE:=λσ H Q=>te σ H λx H1=>tl σ H1 λl H2=>th σ H2 λu H3=>r x l u H3 Q
theorem Cw {r:V->Option Int->Option Int->Hp->VK->Prop}(hr:nT X r)(he:PE X e te)(hl:PO X lo tl)(hu:PO X hi th):PE X (.Subscript e (.Slice lo hi none p2) pos) (VA r te tl th):=by
 intro pins s σ H Q I h
 refine Subscript_ (aX (he pins s σ H _ I h) λv s1 ⟨x,H1,I1,r1,q1⟩=>?_)
 refine wpAny_Slice (aX (hl pins s1 σ H1 _ I1 q1) λvl s2 ⟨l,H2,I2,pl,q2⟩=>aX (hu pins s2 σ H2 _ I2 q2) λvu s3 ⟨u,H3,I3,pu,q3⟩=>?_)
 rw[evalPart_none]
 refine Y5 ?_
 have I4:Inv X pins σ H3 { s3 with heap:=s3.heap.push { cls:=.type "slice",data:=.fields #[vl,vu,.none] } }:=I3.kept (t':=s3.toks) λb ob q=>Y6 _ q
 obtain⟨T,id,hT,ht,hg⟩:=hr pins { s3 with heap:=s3.heap.push { cls:=.type "slice",data:=.fields #[vl,vu,.none] } } σ H3 x v vl vu l u s3.heap.objs.size Q I4 r1 (aeR ..) pl pu q3
 show wpAny (model X.prog X.w) X.A (aeB e (.Slice lo hi none p2) v (.ref s3.heap.objs.size)) (EP X pins σ Q) X.xe { s3 with heap:=s3.heap.push { cls:=.type "slice",data:=.fields #[vl,vu,.none] } }
 exact tail_any (ops:=[.ref s3.heap.objs.size,v]) ht hT hg (by with_unfolding_all rfl)
noncomputable def mn (xs:List V)(lo hi:Option Int):List V:=(xs.drop (HT.bG xs.length 0 lo)).take (HT.bG xs.length xs.length hi-HT.bG xs.length 0 lo)
theorem nU (xs:List V)(lo hi:Option Int):(mn xs lo hi).length<=xs.length:=by
 unfold mn
 rw[aaM,afw]
 omega
noncomputable def J5 (K:PySem.W.Frag):V->Option Int->Option Int->Hp->VK->Prop:=λx lo hi H Q=>∃a xs,x = .ref a/\dP K H a xs /\
 ¬(HT.bG xs.length 0 lo=0/\HT.bG xs.length xs.length hi=xs.length) /\ ∀p,H p=none->Q (.ref p) (upd H p (.tup (mn xs lo hi)))
theorem J6:nT X (J5 X.K):=by
 intro pins s σ H x v vl vu lo hi sl Q I rx hs pl pu h
 obtain⟨a,xs,rfl,hx,hw,q⟩:=h
 cases rx
 obtain⟨av,r,ht,hz⟩:=I.tuple hx
 have hlen:av.toArray.size=xs.length:=by rw[Y_];exact r.length.symm
 refine⟨"tuple",_,ZG.lookup,ht.typeIs,?_⟩
 refine HT.nL ht hs pl pu (by rw[hlen];exact hw) ?_ (by rw[hlen];exact hz)
 rw[hlen]
 refine⟨.ref s.heap.objs.size,_,I.laid (t':=s.toks) (o:=.tup (mn xs lo hi)) (λb ob q=>Y6 _ q) (Za _) ?_,rfl,q _ (I.bJ.fresh (Za _))⟩
 exact⟨aaa (nU xs lo hi) hz,_,(r.drop (HT.bG xs.length 0 lo)).take (HT.bG xs.length xs.length hi-HT.bG xs.length 0 lo),eX.new _ _⟩
noncomputable def OE (K:PySem.W.Frag):R2:=λx y H Q=>∃a b xs ys,x = .ref a/\y = .ref b/\dP K H a xs/\dP K H b ys/\xs ≠ []/\xs.length+ys.length<=Zl /\
 (ys = []->Q (.ref a) H)/\(ys ≠ []->∀p,H p=none->Q (.ref p) (upd H p (.tup (xs++ys))))
theorem Vals.qA {xs:List V}{us:List Value}(r:Vals xs us):us = []↔ xs = []:=by
 cases r with
 |nil=>simp
 |cons _ _=>simp
theorem GZ:bz X (ZT .Add) (OE X.K):=by
 intro pins s σ H x y v u Q I rx ry h
 obtain⟨a,b,xs,ys,rfl,rfl,ha,hb,hx,hz,q1,q2⟩:=h
 cases rx
 cases ry
 obtain⟨av,r1,p1,_⟩:=I.tuple ha
 obtain⟨oz,r2,p2,_⟩:=I.tuple hb
 refine HT.GV p1 p2 (λz=>hx (r1.qA.mp z)) (λz=>⟨.ref a,H,I,rfl,q1 (r2.qA.mp z)⟩) (λz=>?_) (by rw[<- r1.length,<- r2.length];exact hz)
 refine⟨.ref s.heap.objs.size,_,I.laid (t':=s.toks) (o:=.tup (xs++ys)) (λb ob q=>Y6 _ q) (Za _) ?_,rfl,q2 (λw=>z (r2.qA.mpr w)) _ (I.bJ.fresh (Za _))⟩
 exact⟨by rw[aav];exact hz,_,r1.append r2,eX.new _ _⟩
end
noncomputable def kC (n:Nat)(i:Int):Option Nat:=if 0<=i then(if i<n then some i.toNat else none)else if -(n:Int)<=i then some (i+n).toNat else none
noncomputable def dY {α:Type}(xs:List α)(i:Int):Option α:=(kC xs.length i).bind λj=>xs[j]?
theorem wX {n:Nat}{i:Int}{j:Nat}(h:kC n i=some j):ac9 i n=some j/\j<n /\ -(n:Int)<=i/\i<n:=by
 unfold kC at h
 by_cases h0:0<=i
 . rw[if_pos h0]at h
   by_cases h1:i<n
   . rw[if_pos h1]at h
     have e:i.toNat=j:=aas h
     exact⟨by rw[afm h0 h1,e],by omega,by omega,h1⟩
   . rw[if_neg h1]at h;cases h
 . rw[if_neg h0]at h
   by_cases h1:-(n:Int)<=i
   . rw[if_pos h1]at h
     have e:(i+n).toNat=j:=aas h
     exact⟨by rw[seqIndex_neg (by omega) h1,e],by omega,h1,by omega⟩
   . rw[if_neg h1]at h;cases h
theorem qB {α:Type}{xs:List α}{i:Int}{v:α}(h:dY xs i=some v):∃j,ac9 i xs.length=some j/\xs[j]? = some v/\j<xs.length /\ -(xs.length:Int)<=i/\i<xs.length:=by
 unfold dY at h
 cases e:kC xs.length i with
 |none=>rw[e]at h;cases h
 |some j =>
  rw[e]at h
  obtain⟨h1,h2,h3,h4⟩:=wX e
  exact⟨j,h1,h,h2,h3,h4⟩
theorem G_ {α:Type}{xs:List α}{j:Nat}{v:α}(h:xs[j]? = some v):dY xs (j:Int)=some v:=by
 have hj:j<xs.length:=(Y7.mp h).1
 have e:kC xs.length (j:Int)=some j:=by
  unfold kC
  rw[if_pos (by omega),if_pos (by omega)];simp
 unfold dY;rw[e];exact h
noncomputable def qC (b:Expr):Prop:=∀o i,subscripted b false o i=operate [o,i] (aco o i)
noncomputable def mq (X:Cx)(r:R2):Prop :=
 ∀(value slice:Expr) (pins:List (Addr×Obj)) (s:Y4) (σ:St) (H:Hp) (x y:V) (v u:Value) (Q:VK),Inv X pins σ H s->RelV x v->RelV y u->r x y H Q ->
  subscripted slice false v u=operate [v,u] (aco v u)->wpAny (model X.prog X.w) X.A (aeB value slice v u) (EP X pins σ Q) X.xe s
noncomputable def PX (X:Cx)(id:String)(r:V->List V->Hp->VK->Prop):Prop :=
 ∀(pins:List (Addr×Obj)) (s:Y4) (σ:St) (H:Hp) (x:V) (xs:List V) (v:Value) (us:List Value) (Q:VK),Inv X pins σ H s->RelV x v->Vals xs us->r x xs H Q ->
  wpAny (model X.prog X.w) X.A (call (.builtin id) (v::us)) (EP X pins σ Q) X.xe s
section
variable {X:Cx}{a b:Expr}{ta tb:TE}{pos:Pos}
theorem mq.or {r r':R2}(h:mq X r)(h':mq X r'):mq X (λx y H Q=>r x y H Q\/r' x y H Q):=by
 intro value slice pins s σ H x y v u Q I rx ry q hs
 rcases q with q|q
 . exact h value slice pins s σ H x y v u Q I rx ry q hs
 . exact h' value slice pins s σ H x y v u Q I rx ry q hs
theorem OF {r:R2}(hr:mq X r)(ha:PE X a ta)(hb:PE X b tb)(hs:qC b):PE X (.Subscript a b pos) (zZ r ta tb):=by
 intro pins s σ H Q I h
 exact Subscript_ (Cm ha hb I h λv u s2 x y H2 I2 rx ry q=>hr a b pins s2 σ H2 x y v u Q I2 rx ry q (hs _ _))
noncomputable def J7 (K:PySem.W.Frag):R2:=λx y H Q=>∃p xs i v,x = .ref p/\y = .int i/\dq K H p xs/\dY xs i=some v/\Q v H
noncomputable def J8 (K:PySem.W.Frag):R2:=λx y H Q=>∃p xs i v,x = .ref p/\y = .int i/\dP K H p xs/\dY xs i=some v/\Q v H
noncomputable def J9:R2:=λx y H Q=>∃z i c,x = .str z/\y = .int i/\z.length<=Zl/\dY z.cps.toList i=some c/\Q (.str ⟨#[c]⟩) H
theorem Ha:mq X (J7 X.K):=by
 intro value slice pins s σ H x y v u Q I rx ry h hs
 obtain⟨p,xs,i,z,rfl,rfl,hq,he,q⟩:=h
 cases rx
 obtain⟨t,rfl⟩:=ry
 obtain⟨av,r,pl,hz⟩:=I.list hq
 obtain⟨j,h1,h2,h3,h4,h5⟩:=qB he
 obtain⟨w,ew,oV⟩:=r.get h2
 have hl:=r.length
 have hn:=kA
 have fin:EP X pins σ Q w s:=⟨z,H,I,oV,q⟩
 by_cases h0:0<=i
 . have hj:i.toNat=j:=by
    rw[afm h0 h5]at h1
    exact aas h1
   exact item_listR pl.isList h0 (by omega) (by rw[hj];simpa using ew) fin hs
 . have hj:(i+(av.toArray.size:Int)).toNat=j:=by
    rw[seqIndex_neg (by omega) h4]at h1
    rw[Y_,<- hl]
    exact aas h1
   exact acs (x:=w) pl.isList.typeIs slot_list_getitem.lookup
    (wpAny_getItem_list_neg (Q:=λr s'=>r=w/\EP X pins σ Q r s') pl.isList (by omega) (by rw[Y_]<;>omega) (by omega) (by rw[hj];simpa using ew) ⟨rfl,fin⟩) hs
theorem J_:mq X (J8 X.K):=by
 intro value slice pins s σ H x y v u Q I rx ry h hs
 obtain⟨p,xs,i,z,rfl,rfl,hq,he,q⟩:=h
 cases rx
 obtain⟨t,rfl⟩:=ry
 obtain⟨av,r,pl,hz⟩:=I.tuple hq
 obtain⟨j,h1,h2,h3,h4,h5⟩:=qB he
 obtain⟨w,ew,oV⟩:=r.get h2
 have hl:=r.length
 have hn:=kA
 have fin:EP X pins σ Q w s:=⟨z,H,I,oV,q⟩
 exact acs (x:=w) pl.typeIs ZG.lookup
  (getItem_tuple (j:=j) (Q:=λr s'=>r=w/\EP X pins σ Q r s') pl (by omega) (by omega) (by rw[Y_,<- hl];exact h1) (by simpa using ew) ⟨rfl,fin⟩) hs
theorem Ka:mq X J9:=by
 intro value slice pins s σ H x y v u Q I rx ry h hs
 obtain⟨z,i,c,rfl,rfl,hz,he,q⟩:=h
 obtain⟨t,rfl⟩:=rx
 obtain⟨t',rfl⟩:=ry
 obtain⟨j,h1,h2,h3,h4,h5⟩:=qB he
 have hl:z.cps.toList.length=z.length:=by simp[Str.length]
 rw[hl]at h1 h4 h5
 have hn:=kA
 exact tail_any (aep s z t) slot_str_getitem.lookup (getItem_str (c:=c) (by
  have e1:decide (i < -(2 ^ 63:Int))=false:=decide_eq_false (by omega)
  have e2:decide (i>=2 ^ 63)=false:=decide_eq_false (by omega)
  rw[e1,e2,acw]) (by rw[h1];simpa using h2) ⟨.str ⟨#[c]⟩,H,I.tok _,⟨_,rfl⟩,q⟩) hs
noncomputable def VB (K:PySem.W.Frag):R2:=λx y H Q=>J7 K x y H Q\/J8 K x y H Q\/J9 x y H Q
theorem Ag:mq X (VB X.K):=Ha.or (J_.or Ka)
theorem yI (av:List Value)(n j:Nat)(u:Value):aaW (·.setIfInBounds j u) { cls:=.type "list",data:=.seq av.toArray n }={ cls:=.type "list",data:=.seq (av.set j u).toArray n }:=by
 simp[aaW]
theorem Inv.lst {pins:List (Addr×Obj)}{σ:St}{H:Hp}{s:Y4}{p:Addr}{xs:List V}(I:Inv X pins σ H s)(h:H p=some (.lst xs)):
  ∃(av:List Value) (n:Nat),Vals xs av/\s.heap.get? p=some { cls:=.type "list",data:=.seq av.toArray n }/\xs.length<=Zl:=by
 obtain⟨z,av,n,r,e⟩:=I.bJ p _ h
 exact⟨av,n,r,e,z⟩
theorem Inv.Kb {pins:List (Addr×Obj)}{σ:St}{H:Hp}{s:Y4}{p:Addr}{xs ys:List V}{av its':List Value}{n n':Nat}{f:Obj->Obj}(I:Inv X pins σ H s)(h:H p=some (.lst xs))
  (ho:s.heap.get? p=some { cls:=.type "list",data:=.seq av.toArray n }) (hf:f { cls:=.type "list",data:=.seq av.toArray n }={ cls:=.type "list",data:=.seq its'.toArray n' }) (r:Vals ys its') (hz:ys.length<=Zl) (t:Nat):
  Inv X pins σ (upd H p (.lst ys)) { s with heap:=s.heap.update p f,toks:=t }:=by
 have e:(s.heap.update p f).get? p=some { cls:=.type "list",data:=.seq its'.toArray n' }:=by
  rw[abg f ho (by rw[hf]<;>rfl),hf]
 refine I.write (x:=p) (e:=p) (by rw[h];trivial) (.inl rfl) (λb u hb q=>(abb _ _ (aa0 hb)).trans q) ⟨_,e⟩ ?_
 exact⟨hz,its',n',r,e⟩
noncomputable def OG:V->V->V->Hp->(Hp->Prop)->Prop:=λo i v H Q=>∃p xs k j,o = .ref p/\i = .int k/\H p=some (.lst xs)/\kC xs.length k=some j/\Q (upd H p (.lst (xs.set j v)))
theorem set_list:Cg X OG:=by
 intro pins s σ H o i v ov iv u Q I ro ri rv h
 obtain⟨p,xs,k,j,rfl,rfl,hp,hj,q⟩:=h
 cases ro
 obtain⟨t,rfl⟩:=ri
 obtain⟨av,n,r,ho,hz⟩:=I.lst hp
 obtain⟨h1,h2,h3,h4⟩:=wX hj
 have hl:=r.length
 have hn:=kA
 have I':Inv X pins σ (upd H p (.lst (xs.set j v))) { s with heap:=s.heap.update p (aaW (·.setIfInBounds j u)) }:=
   I.Kb hp ho (yI av n j u) (r.set rv j) (by rw[List.length_set];exact hz) s.toks
 by_cases h0:0<=k
 . have hk:k.toNat=j:=by
    rw[afm h0 h4]at h1
    exact aas h1
   exact PySem.W.ki_setAt ho h0 (by omega) (by rw[Y_,<- hl];exact h4) (by rw[hk];exact⟨_,I',q⟩)
 . have hk:(k+(av.toArray.size:Int)).toNat=j:=by
    rw[seqIndex_neg (by omega) h3]at h1
    rw[Y_,<- hl]
    exact aas h1
   exact PySem.W.ki_setBack ho (by omega) (by rw[Y_,<- hl];exact h3) (by omega) (by rw[hk];exact⟨_,I',q⟩)
theorem um (lo hi:Option Int)(n:Nat):(acb lo hi none n).1=((HT.bG n 0 lo:Nat):Int)/\(acb lo hi none n).2.1=((HT.bG n n hi:Nat):Int)/\(acb lo hi none n).2.2=1:=by
 refine⟨?_,?_,rfl⟩
 . cases lo with
   |none=>simp[acb,HT.bG]
   |some i =>
    simp only[acb,HT.bG,afx,show(1:Int)>0 by decide,if_true]
    by_cases h:i<0
    . simp only[h,if_true]<;>omega
    . simp only[h,if_false]<;>omega
 . cases hi with
   |none=>simp[acb,HT.bG]
   |some i =>
    simp only[acb,HT.bG,afx,show(1:Int)>0 by decide,if_true]
    by_cases h:i<0
    . simp only[h,if_true]<;>omega
    . simp only[h,if_false]<;>omega
theorem sW (av:List Value)(lo hi:Option Int):slicePick av.toArray lo hi none=((av.drop (HT.bG av.length 0 lo)).take (HT.bG av.length av.length hi-HT.bG av.length 0 lo)).toArray:=by
 obtain⟨h1,h2,h3⟩:=um lo hi av.toArray.size
 unfold slicePick
 rw[h1,h2,h3]
 simp only[sliceRange_one,pick_run,Y_]<;>rfl
noncomputable def Kc (K:PySem.W.Frag):V->Option Int->Option Int->Hp->VK->Prop:=λx lo hi H Q=>∃a xs,x = .ref a/\dq K H a xs /\ ∀p,H p=none->Q (.ref p) (upd H p (.lst (mn xs lo hi)))
theorem Hb:nT X (Kc X.K):=by
 intro pins s σ H x v vl vu lo hi sl Q I rx hs pl pu h
 obtain⟨a,xs,rfl,hx,q⟩:=h
 cases rx
 obtain⟨av,r,ht,hz⟩:=I.list hx
 have hlen:=r.length
 refine⟨"list",_,slot_list_getitem.lookup,ht.isList.typeIs,?_⟩
 refine wpAny_getItem_list_slice ht.isList hs pl pu .none (by simp) ?_ (by rw[Y_]<;>omega)
 rw[sW,<- hlen]
 refine⟨.ref s.heap.objs.size,_,I.laid (t':=s.toks) (o:=.lst (mn xs lo hi)) (λb ob q=>Y6 _ q) (Za _) ?_,rfl,q _ (I.bJ.fresh (Za _))⟩
 exact⟨aaa (nU xs lo hi) hz,_,0,(r.drop (HT.bG xs.length 0 lo)).take (HT.bG xs.length xs.length hi-HT.bG xs.length 0 lo),Zg _ rfl⟩
noncomputable def jk:V->Bool
 |.aA=>true
 |.bl _=>true
 |.int _=>true
 |.str _=>true
 |_=>false
noncomputable def rY:V->V->Bool
 |.aA,.aA=>true
 |.bl a,.bl b=>a == b
 |.bl a,.int b=>(if a then 1 else 0)== b
 |.int a,.bl b=>a == (if b then 1 else 0)
 |.int a,.int b=>a == b
 |.str a,.str b=>a == b
 |_,_=>false
theorem Kd {A:Zz}{s:Y4}{y x:V}{u v:Value}(ry:RelV y u)(rx:RelV x v)(fy:jk y=true)(fx:jk x=true):SeqAt.EqAt A s u v (rY y x):=by
 cases y with
 |aA =>
  cases ry
  cases x with
  |aA=>cases rx;exact SeqAt.EqAt.same _
  |bl b=>cases rx;exact SeqAt.EqAt.none_bool b
  |int b=>obtain⟨t,rfl⟩:=rx;exact SeqAt.EqAt.none_int b t
  |str b=>obtain⟨t,rfl⟩:=rx;exact SeqAt.EqAt.none_str b t
  |_=>exact absurd (show false=true from fx) aau
 |bl a =>
  cases ry
  cases x with
  |aA=>cases rx;exact SeqAt.EqAt.bool_none a
  |bl b=>cases rx;exact SeqAt.EqAt.bool_bool a b
  |int b=>obtain⟨t,rfl⟩:=rx;exact SeqAt.EqAt.bool_int a b t
  |str b=>obtain⟨t,rfl⟩:=rx;exact SeqAt.EqAt.bool_str a b t
  |_=>exact absurd (show false=true from fx) aau
 |int a =>
  obtain⟨t',rfl⟩:=ry
  cases x with
  |aA=>cases rx;exact SeqAt.EqAt.int_none a t'
  |bl b=>cases rx;exact SeqAt.EqAt.int_bool a t' b
  |int b=>obtain⟨t,rfl⟩:=rx;exact SeqAt.EqAt.int_int a t' b t
  |str b=>obtain⟨t,rfl⟩:=rx;exact aeJ a t' b t
  |_=>exact absurd (show false=true from fx) aau
 |str a =>
  obtain⟨t',rfl⟩:=ry
  cases x with
  |aA=>cases rx;exact SeqAt.EqAt.str_none a t'
  |bl b=>cases rx;exact SeqAt.EqAt.str_bool a t' b
  |int b=>obtain⟨t,rfl⟩:=rx;exact aeK a t' b t
  |str b=>obtain⟨t,rfl⟩:=rx;exact SeqAt.EqAt.str_str a t' b t
  |_=>exact absurd (show false=true from fx) aau
 |_=>exact absurd (show false=true from fy) aau
noncomputable def Eu (x:V)(u:Value):Bool:=match u with
 |.none=>rY .aA x
 |.bool b=>rY (.bl b) x
 |.int i _=>rY (.int i) x
 |.str z _=>rY (.str z) x
 |_=>false
theorem Ah {x y:V}{u:Value}(r:RelV y u)(f:jk y=true):Eu x u=rY y x:=by
 cases y with
 |aA=>cases r;rfl
 |bl b=>cases r;rfl
 |int i=>obtain⟨t,rfl⟩:=r;rfl
 |str z=>obtain⟨t,rfl⟩:=r;rfl
 |_=>exact absurd (show false=true from f) aau
theorem uo {A:Zz}{s:Y4}{x:V}{v:Value}(rx:RelV x v)(fx:jk x=true):∀{xs:List V} {us:List Value},Vals xs us->xs.all jk=true->∀u∈us,SeqAt.EqAt A s u v (Eu x u)
 |_,_,.nil,_=>λu hu=>by cases hu
 |y::xs,u::us,.cons r t,f=>λu' hu=>by
  rw[ab8,Y3]at f
  rcases Zd.mp hu with rfl|hu
  . rw[Ah r f.1];exact Kd r rx f.1 fx
  . exact uo rx fx t f.2 u' hu
theorem uq:cA X (.builtin "len") (λxs H Q=>∃p ys,xs = [.ref p]/\(dq X.K H p ys\/dP X.K H p ys)/\Q (.int ys.length) H):=by
 intro pins s σ H xs us Q I r h
 obtain⟨p,ys,rfl,hq,q⟩:=h
 obtain⟨u,rfl,rx⟩:=vals1 r
 cases rx
 have hn:=kA
 rcases hq with hq|hq
 . obtain⟨av,r',pl,hz⟩:=I.list hq
   have hlen:=r'.length
   exact Calls.call_len_list pl.isList (by simp only[Y_]<;>omega) ⟨.int ys.length,H,I.tok _,⟨s.toks+1,by rw[Y_,hlen]⟩,q⟩
 . obtain⟨av,r',pl,hz⟩:=I.tuple hq
   have hlen:=r'.length
   exact len_tuple pl (by simp only[Y_]<;>omega) ⟨.int ys.length,H,I.tok _,⟨s.toks+1,by rw[Y_,hlen]⟩,q⟩
theorem uu:cA X (.type "list") (λxs H Q=>∃p ys,xs = [.ref p]/\(dq X.K H p ys\/dP X.K H p ys) /\ ∀l,H l=none->Q (.ref l) (upd H l (.lst ys))):=by
 intro pins s σ H xs us Q I r h
 obtain⟨p,ys,rfl,hq,q⟩:=h
 obtain⟨u,rfl,rx⟩:=vals1 r
 cases rx
 have fin:∀(av:List Value),Vals ys av->ys.length<=Zl->∀(h':Heap) (c':Nat),(∀b o',s.heap.get? b=some o'->h'.get? b=some o') ->
    h'.get? s.heap.objs.size=some { cls:=.type "list",dict:=none,data:=.seq av.toArray c',slots:=#[] }->EP X pins σ Q (.ref s.heap.objs.size) { s with heap:=h' }:=λav r' hz h' c' kp e =>
   ⟨.ref s.heap.objs.size,_,I.laid (t':=s.toks) kp (Za _) (show cW X.prog X.w _ h' _ (.lst ys) from⟨hz,av,c',r',e⟩),rfl,q _ (I.bJ.fresh (Za _))⟩
 rcases hq with hq|hq
 . obtain⟨av,r',pl,hz⟩:=I.list hq
   have hlen:=r'.length
   obtain⟨o,ho,hc,n,hd⟩:=pl.isList
   exact call_list_seq p (.inl rfl) ho hc hd (λh' c' kp e=>fin av r' hz h' c' kp e) (by simp only[Y_]<;>omega)
 . obtain⟨av,r',pl,hz⟩:=I.tuple hq
   have hlen:=r'.length
   obtain⟨o,ho,hc,n,hd⟩:=pl
   exact call_list_seq p (.inr rfl) ho hc hd (λh' c' kp e=>fin av r' hz h' c' kp e) (by simp only[Y_]<;>omega)
theorem lS:cA X (.type "tuple") (λxs H Q=>∃p ys,xs = [.ref p]/\((dq X.K H p ys /\ ∀l,H l=none->Q (.ref l) (upd H l (.tup ys)))\/(dP X.K H p ys/\Q (.ref p) H))):=by
 intro pins s σ H xs us Q I r h
 obtain⟨p,ys,rfl,h⟩:=h
 obtain⟨u,rfl,rx⟩:=vals1 r
 cases rx
 rcases h with⟨hq,q⟩|⟨hq,q⟩
 . obtain⟨av,r',pl,hz⟩:=I.list hq
   have hlen:=r'.length
   refine call_tuple_list pl.isList (λh' kp=>?_) (by simp only[Y_]<;>omega)
   have I1:Inv X pins σ H { s with heap:=h' }:=I.kept (t':=s.toks) kp
   have I2:Inv X pins σ (upd H h'.objs.size (.tup ys)) { s with heap:=h'.push { cls:=.type "tuple",data:=.seq av.toArray } }:=
    I1.laid (t':=s.toks) (λb o e=>Y6 _ e) (Za _) (show cW X.prog X.w _ _ _ (.tup ys) from⟨hz,av,r',eX.new _ _⟩)
   exact⟨.ref h'.objs.size,_,I2,rfl,q _ (I1.bJ.fresh (Za _))⟩
 . obtain⟨av,r',pl,hz⟩:=I.tuple hq
   exact call_tuple_same pl ⟨.ref p,H,I,rfl,q⟩
noncomputable def VC (K:PySem.W.Frag)(T:String)(x:V)(H:Hp):Prop:=match x with
 |.str _=>T = "str"
 |.int _=>T = "int"
 |.ref p=>(T = "list" /\ ∃xs,dq K H p xs)\/(T = "tuple" /\ ∃o,K.lookup p=some o/\o.cls = .type "tuple" /\ o.dict=none) \/
  (T = "dict" /\ ((∃de,H p=some (.dK de)) \/ ∃de,H p=some (.dT de)))\/(T = "set" /\ ∃S n,H p=some (.set S n))
 |_=>False
theorem Ai {pins:List (Addr×Obj)}{σ:St}{H:Hp}{s:Y4}{T:String}{x:V}{v:Value}(I:Inv X pins σ H s)(r:RelV x v)(ty:VC X.K T x H):
  s.TypeIs v T /\ ∀a,v = .ref a->∃ob,s.heap.get? a=some ob/\ob.dict=none:=by
 cases x with
 |str z =>
  obtain⟨t,rfl⟩:=r
  cases (show T = "str" from ty)
  exact⟨aep s z t,λ_ e=>nomatch e⟩
 |int i =>
  obtain⟨t,rfl⟩:=r
  cases (show T = "int" from ty)
  exact⟨adv s i t,λ_ e=>nomatch e⟩
 |ref p =>
  cases r
  rcases ty with⟨rfl,xs,hq⟩|⟨rfl,o,hk,hc,hd⟩|⟨rfl,hk⟩|⟨rfl,S,n,hk⟩
  . obtain⟨av,_,pl,_⟩:=I.list hq
    refine⟨pl.isList.typeIs,λa e=>?_⟩
    cases e
    obtain⟨o,n,e,c,hd,_⟩:=pl
    exact⟨o,e,hd⟩
  . refine⟨⟨o,I.i9 p o hk,hc⟩,λa e=>?_⟩
    cases e
    exact⟨o,I.i9 _ o hk,hd⟩
  . have z:∃o,s.heap.get? p=some o/\o.ExactDict:=by
     rcases hk with⟨de,hk⟩|⟨de,hk⟩
     . obtain⟨_,_,_,_,o,_,_,e,ex,_⟩:=I.bJ p _ hk
       exact⟨o,e,ex⟩
     . obtain⟨_,_,_,_,o,_,_,e,ex,_⟩:=I.bJ p _ hk
       exact⟨o,e,ex⟩
    obtain⟨o,e,ex⟩:=z
    refine⟨⟨o,e,ex.1⟩,λa e2=>?_⟩
    cases e2
    exact⟨o,e,ex.2.1⟩
  . obtain⟨o,_,_,_,e,ex,_⟩:=I.bJ p _ hk
    refine⟨⟨o,e,ex.1⟩,λa e2=>?_⟩
    cases e2
    exact⟨o,e,ex.2.1⟩
 |_=>exact abp ty
variable {o e:Expr}{es:List Expr}{to:TE}{t:TA}{name:Str}{apos fU:Pos}{T id:String}{r:V->List V->Hp->VK->Prop}
end
noncomputable def Ke (X:Cx)(id:String)(r:V->List V->Hp->VK->Prop):Prop :=
 ∀(pins:List (Addr×Obj)) (s:Y4) (σ:St) (H:Hp) (x:V) (xs:List V) (v:Value) (us:List Value) (Q:VK),Inv X pins σ H s->RelV x v->Vals xs us->r x xs H Q ->
  wpAny (model X.prog X.w) X.A (call (.builtin id) (v::us)) (EP X pins σ Q) X.xe s
theorem Vals.one:∀{x:V} {us:List Value},Vals [x] us->∃u,us = [u]/\RelV x u
 |_,_,.cons r .nil=>⟨_,rfl,r⟩
theorem Vals.zero:∀{us:List Value},Vals [] us->us = []
 |_,.nil=>rfl
theorem Vals.dropLast {xs:List V}{us:List Value}(h:Vals xs us):Vals xs.dropLast us.dropLast:=by
 induction h with
 |nil=>exact .nil
 |cons r t ih =>
  cases t with
  |nil=>exact .nil
  |cons q t'=>exact .cons r ih
theorem Vals.eraseIdx:∀{xs:List V} {us:List Value} (i:Nat),Vals xs us->Vals (xs.eraseIdx i) (us.eraseIdx i)
 |_,_,_,.nil=>.nil
 |_,_,0,.cons _ t=>t
 |_,_,i+1,.cons r t=>.cons r (Vals.eraseIdx i t)
theorem Vals.rep {xs:List V}{us:List Value}(h:Vals xs us):∀k:Nat,Vals (Zo k xs).flatten (Zo k us).flatten
 | 0=>.nil
 |k+1=>by
  rw[aaC,aaC,abn,abn]
  exact Vals.append h (Vals.rep h k)
theorem yJ {α:Type}(l:List α):l.eraseIdx (l.length-1)=l.dropLast:=by
 induction l with
 |nil=>rfl
 |cons a r ih =>
  cases r with
  |nil=>rfl
  |cons b r =>
   have e:(a::b::r).length-1=((b::r).length-1)+1:=by
    have h1:(a::b::r).length=r.length+2:=rfl
    have h2:(b::r).length=r.length+1:=rfl
    omega
   rw[e,adO,ih]
   all_goals rfl
theorem rZ {α:Type}:∀(l:List α) (i:Nat),(l.eraseIdx i).length<=l.length
 | [],_=>Za _
 |_::_,0=>abL _
 |_::r,i+1=>Nat.succ_le_succ (rZ r i)
theorem foldl_rep (av:List Value):∀(k:Nat) (acc:List Value),
  List.foldl (λx1 x2=>x1++x2) acc.toArray (Zo k av.toArray)=(acc++(Zo k av).flatten).toArray
 | 0,acc=>by simp
 |k+1,acc=>by
  have e:acc.toArray++av.toArray=(acc++av).toArray:=by simp
  have e2:(acc++av)++(Zo k av).flatten=acc++(Zo (k+1) av).flatten:=by
   rw[aaC,abn,aaI]
  rw[<- e2,<- foldl_rep av k (acc++av),<- e,aaC,acM]
section
variable {X:Cx}{pins:List (Addr×Obj)}{σ:St}{H:Hp}{s:Y4}{l b:Addr}{xs ys zs:List V}
theorem Inv.Cy {av its':List Value}{n:Nat}{f:Array Value->Array Value}{t':Nat}(I:Inv X pins σ H s)(hH:H l=some (.lst xs))
  (e:s.heap.get? l=some { cls:=.type "list",data:=.seq av.toArray n }) (hf:f av.toArray=its'.toArray) (hv:Vals ys its') (hz:ys.length<=Zl):
  Inv X pins σ (upd H l (.lst ys)) { s with heap:=s.heap.update l (aaW f),toks:=t' }:=by
 have q:=PySem.IsL.update e f
 rw[hf]at q
 refine I.write (x:=l) (e:=l) (by rw[hH];exact trivial) (.inl rfl) (λb' u hb hu=>(abb s.heap (aaW f) (aa0 hb)).trans hu) ⟨_,q⟩ ?_
 exact⟨hz,its',_,hv,q⟩
theorem Inv.RQ {av:List Value}{t':Nat}(I:Inv X pins σ H s)(hv:Vals ys av)(hz:ys.length<=Zl):
  Inv X pins σ (upd H s.heap.objs.size (.lst ys)) { s with heap:=s.heap.push { cls:=.type "list",data:=.seq av.toArray },toks:=t' }:=
 I.laid (λ_ _ q=>Y6 _ q) (Za _) ⟨hz,av,0,hv,Zg _ rfl⟩
theorem Inv.fresh (I:Inv X pins σ H s):H s.heap.objs.size=none:=I.bJ.fresh (Za _)
theorem Inv.Cz (I:Inv X pins σ H s)(hH:H l=some (.lst xs)):xs.length<=Zl /\ ∃(av:List Value) (n:Nat),Vals xs av/\xs.length=av.length/\s.heap.get? l=some { cls:=.type "list",data:=.seq av.toArray n }:=by
 obtain⟨z,av,n,r,e⟩:=I.bJ l _ hH
 exact⟨z,av,n,r,r.length,e⟩
end
section
variable {X:Cx}
noncomputable def Hc:V->List V->Hp->VK->Prop:=λx vs H Q=>∃l xs y,x = .ref l/\vs = [y]/\H l=some (.lst xs)/\xs.length<Zl/\Q .aA (upd H l (.lst (xs ++ [y])))
theorem r6:Ke X "list.append" Hc:=by
 intro pins s σ H x vs v us Q I rx rv h
 obtain⟨l,xs,y,rfl,rfl,hH,hz,q⟩:=h
 cases rx
 obtain⟨u,rfl,ru⟩:=rv.one
 obtain⟨z,av,n,r,hl,e⟩:=I.Cz hH
 refine ab0 F.slot_list_append ⟨_,e,rfl⟩ F.entry_list_append (F.args_list_append_2 _ _) (PySem.list_append l av.toArray n u (by rw[Y_];omega)) ⟨e,?_⟩
 refine⟨.aA,_,I.Cy (its':=av ++ [u]) hH e (by simp) (r.append (.cons ru .nil)) ?_,rfl,q⟩
 rw[aav,ad8]
 omega
noncomputable def RR:V->List V->Hp->VK->Prop:=λx vs H Q=>∃l xs y,x = .ref l/\vs = []/\H l=some (.lst xs)/\xs[xs.length-1]? = some y/\Q y (upd H l (.lst xs.dropLast))
theorem Kf:Ke X "list.pop" RR:=by
 intro pins s σ H x vs v us Q I rx rv h
 obtain⟨l,xs,y,rfl,rfl,hH,hy,q⟩:=h
 cases rx
 have VD:=rv.zero
 subst VD
 obtain⟨z,av,n,r,hl,e⟩:=I.Cz hH
 obtain⟨u,hu,ru⟩:=r.get hy
 have Kg:av.toArray[av.toArray.size-1]? = some u:=by
   show av.toArray[av.length-1]? = some u
   rw[<- aaQ,<- hl]
   exact hu
 refine ab0 F.slot_list_pop ⟨_,e,rfl⟩ F.entry_list_pop (F.args_list_pop_1 _) (MeetsSeq.list_pop_last l av.toArray n u Kg (by rw[Y_];omega)) ⟨e,?_⟩
 refine⟨y,_,I.Cy (its':=av.dropLast) hH e ?_ r.dropLast ?_,ru,q⟩
 . show av.toArray.eraseIdxIfInBounds (av.toArray.size-1)=av.dropLast.toArray
   rw[Y_,acG,yJ]
 . rw[List.length_dropLast]
   omega
noncomputable def Kh:V->List V->Hp->VK->Prop:=λx vs H Q=>∃l xs i k y,x = .ref l/\vs = [.int i]/\H l=some (.lst xs) /\ -(2 ^ 63)<=i/\i<2 ^ 63/\ac9 i xs.length=some k/\xs[k]? = some y/\Q y (upd H l (.lst (xs.eraseIdx k)))
theorem CA:Ke X "list.pop" Kh:=by
 intro pins s σ H x vs v us Q I rx rv h
 obtain⟨l,xs,i,k,y,rfl,rfl,hH,h1,h2,hk,hy,q⟩:=h
 cases rx
 obtain⟨u,rfl,ru⟩:=rv.one
 obtain⟨t,rfl⟩:=ru
 obtain⟨z,av,n,r,hl,e⟩:=I.Cz hH
 obtain⟨w,hw,oV⟩:=r.get hy
 refine ab0 F.slot_list_pop ⟨_,e,rfl⟩ F.entry_list_pop (F.args_list_pop_2 _ _)
   (MeetsSeq.list_pop_at l av.toArray n i t k w (fitsIndex_both h1 h2) (by rw[Y_,<- hl];exact hk) (by rw[<- aaQ];exact hw) (by rw[Y_];omega)) ⟨e,?_⟩
 refine⟨y,_,I.Cy (its':=av.eraseIdx k) hH e ?_ (r.eraseIdx k) ?_,oV,q⟩
 . show av.toArray.eraseIdxIfInBounds k=(av.eraseIdx k).toArray
   rw[acG]
 . have:=rZ xs k
   omega
theorem len_rep {α:Type}(xs:List α)(k:Nat):(Zo k xs).flatten.length=k*xs.length:=by
 induction k with
 |zero=>simp
 |succ k ih=>rw[aaC,abn,aav,ih,Nat.succ_mul,aeS]
end
end L2
namespace Aj
open PySem PySem.W PySem.Calls PyProof.Rows
theorem pd {P:Params}{h:Heap}:∀(ns:List Int) (vs:List Value),WellAll P h vs (ns.map WData.int)->abu vs ns:=by
 intro ns
 induction ns with
 |nil =>
  intro vs w
  rw[List.map_nil]at w
  cases w
  exact .nil
 |cons n ns ih =>
  intro vs w
  rw[Zw]at w
  cases w with
  |cons a b =>
   cases a
   exact .cons _ _ (ih _ b)
theorem Ak {l:OpenLaw}{n:Nat}(hn:l.most=some n){P:Params}{h:Heap}{args:List WData}{vals:List Value}
  (yK:l.row.toRowW.claim.pre args=true) (Ki:WellAll P h vals args):
  ∃a vs ns,vals = [abX a]/\args = [WData.list (ns.map WData.int)]/\h.get? a=some { cls:=.type "list",data:=.seq vs.toArray }/\abu vs ns/\ns.length<=n:=by
 have VE:WShape.hasAll [] args [.list .int]=true:=(pre_splitW yK).1
 have hc:l.pre.holds [] { args:=args }=true:=(pre_splitW yK).2
 obtain⟨d,r,rfl,h1,h2⟩:=hasAllW_cons VE
 obtain rfl:=hasAllW_nil h2
 obtain⟨xs,rfl,h3⟩:=hasW_list h1
 obtain⟨ns,rfl⟩:=items_int h3
 have hlen:ns.length<=n:=by
  unfold OpenLaw.pre at hc
  have h4:(WTm.not (.lt (.lit (.int (n:Int))) (.len (.arg 0)))).holds [] { args:=[.list (ns.map .int)] }=true:=by
   have h4:=(holds_andW hc).1
   rw[hn]at h4
   exact h4
  have h5:=condW_of h4 (w_not (w_lt w_lit (w_len_list (w_arg rfl))))
  rw[Zr]at h5
  refine Nat.le_of_not_lt λq=>?_
  have q':(n:Int)<((ns.length:Nat):Int):=by omega
  first
   | (rw[decide_eq_true q']at h5;exact absurd h5 (by decide))
   | (simp at h5;omega)
 cases Ki with
 |cons w1 w2 =>
  cases w2
  cases w1 with
  |list ho lh=>exact⟨_,_,ns,rfl,rfl,ho,pd ns _ lh,hlen⟩
theorem Al (l:OpenLaw)(args:List WData):l.row.toRowW.claim.post args (.bool true) args=true :=
 postW_of (r:=l.row.toRowW) (X:=(true == true))
  (show WShape.has [] (.bool true) .bool=true by first|rfl|decide|simp[WShape.has,WShape.arms,WShape.armsAll])
  (show(WTm.eq .res (.lit (.bool true))).value [] { args:=args,res:=some (.bool true),after:=args }=some (.bool (true == true)) from w_eq_bool (w_res rfl) w_lit) rfl
theorem wB {l:OpenLaw}{n:Nat}{q:ZC}{loose:List Str}{XP:(Str->Option Value)->Heap->Prop}{YP:World->Heap->Prop}{d:DefRec}
  (hn:l.most=some n) (uv:d.params.defaults = [])
  (call:∀(w:World) (s₀ s₁:Y4) (mg mb:Str->Option Value) (fa:Addr) (o:Obj) (pm cd doc:Value) (a:Addr) (vs:List Value) (ns:List Int),
   Ground q loose [] XP w s₀ mg mb s₁.heap->YP w s₁.heap ->
   s₁.heap.get? fa=some o->o.data = .func (docDef d.name d.params d.body d.scope pm cd doc)->s₁.heap.CodeRec cd d.name->mg d.name=some (.ref fa) ->
   s₁.heap.get? a=some { cls:=.type "list",data:=.seq vs.toArray }->abu vs ns->ns.length<=n->s₁.gens = #[] ->
   ac0 (model l.prog w) ac1 (.call (.ref fa) ⟨[.ref a],[]⟩) (λr s'=>r = .ok (.ret (.bool true))/\OldK s₁.heap s'.heap/\s'.os=s₁.os/\acC s'.gens) s₁):
  WalkO q loose XP YP l.row.toRowW d [] (λf vs=>PySem.call f vs):=by
 intro w s₀ s₁ mg mb G Y fa o pm cd doc dV kV ho hd nO hD Kj hg args vals as yK Yc Yr Ki wY
 obtain rfl:dV = .none:=Dflts.none hD uv
 obtain rfl:kV = .none:=Dflts.noKw hD
 obtain⟨a,vs,ns,rfl,rfl,CB,hints,hlen⟩:=Ak hn yK Ki
 refine enter_call (acJ (call w s₀ s₁ mg mb fa o pm cd doc a vs ns G Y ho (fd_plain hd) nO Kj CB hints hlen hg) λr s' hq=>?_)
 obtain⟨rfl,h2,h3,h4⟩:=hq
 exact⟨.inl ⟨.bool true,.bool true,[],rfl,λ_=>rfl,.bool true,Al l _,λ_=>⟨List.Pairwise.nil,λ_ hm=>(nomatch hm)⟩⟩,h2,h3,h4⟩
end Aj
namespace L2
open PySem PySem.Spec PyProof.Rows
theorem gG:∀{vs:List Value} {ns:List Int},abu vs ns->Vals (ns.map V.int) vs
 |_,_,.nil=>.nil
 |_,_,.cons n t h=>.cons ⟨t,rfl⟩ (gG h)
noncomputable def CD (H:Hp):Prop:=∀b,H b=none \/ ∃o xs,H b=some (.kz o (.lst xs))
theorem CF {P:ZC}{w:World}{K:PySem.W.Frag}{mg mb:Str->Option Value}{CX:lQ}{k:Nat}{fa a:Addr}{fd:aae}{x:Str}{sp:Sp}{s₁:Y4}{vs:List Value}{ns:List Int}
  (KX:K.In s₁.heap) (Ew:s₁.heap.Ns ZX mg) (hb:s₁.heap.Ns adt mb) (PY:∀x:Str,x ≠ "__name__"->mb x=aaK x) (RS:s₁.heap.NoLimit) (hg:s₁.gens = #[])
  (ha:s₁.heap.get? a=some { cls:=.type "list",data:=.seq vs.toArray }) (hi:abu vs ns) (hl:ns.length<=Zl) (hr:aO k ac1)
  (F:∀base:Heap,K.In base->base.Ns ZX mg->dN P w K mg base CX k fa fd [x] sp) (OH:∀(s:Y4) (u:Value),ad7 s fd ⟨[u],[]⟩ [(x,u)])
  (rX:∀H:Hp,CD H->dq K H a (ns.map V.int)->sp [.ref a] H (λv _=>v = .bl true) λ_ _ _=>False)
  (Kk:∀H e s',CX [] H s₁ (λ_ _ _=>False) e s'->False):
  ac0 (model P w) ac1 (.call (.ref fa) ⟨[.ref a],[]⟩) (λr s'=>r = .ok (.ret (.bool true))/\OldK s₁.heap s'.heap/\s'.os=s₁.os/\acC s'.gens) s₁:=by
 have rv:=gG hi
 have RT:=hi.length
 have core:∀H:Hp,CD H->dq K H a (ns.map V.int)->fE P w H s₁.heap->(∀b,H b≠none->b=a)->(H a≠none->K.lookup a=none) ->
    ac0 (model P w) ac1 (.call (.ref fa) ⟨[.ref a],[]⟩) (λr s'=>r = .ok (.ret (.bool true))/\OldK s₁.heap s'.heap/\s'.os=s₁.os/\acC s'.gens) s₁:=by
  intro H hO hS bJ hA hK
  have base_of:∀{b:Addr} {o:Obj},s₁.heap.get? b=some o->H b=none->(lb s₁.heap H).get? b=some o:=λe n=>Cc e n
  have Ae:∀{b:Addr} {o:Obj} {es:Array ZE} {ep:Nat},s₁.heap.get? b=some o->o.data = .dict es ep->H b=none:=fun {b o es ep} e d=>by
    cases q:H b with
    |none=>rfl
    |some u =>
      have e':b=a:=hA b (by rw[q];simp)
      subst e'
      rw[ha]at e;cases e
      have d':Data.seq vs.toArray _=aeT es ep:=d
      cases d'
  have Ex:∀{b:Addr} {m:Str->Option Value},s₁.heap.Ns b m->(lb s₁.heap H).Ns b m:=fun {b m} ⟨o,es,ep,e,d,r⟩=>⟨o,es,ep,base_of e (Ae e d),d,r⟩
  have PZ:K.In (lb s₁.heap H):=λb o e=>base_of (KX b o e) (by
    cases q:H b with
    |none=>rfl
    |some u =>
      have e':b=a:=hA b (by rw[q];simp)
      subst e'
      rw[hK (by rw[q];simp)]at e;cases e)
  have hM:Mod K mg (lb s₁.heap H):=⟨PZ,Ex Ew,⟨mb,Ex hb,PY⟩,let⟨mc,h1,h2⟩:=RS;⟨mc,Ex h1,h2⟩⟩
  have e0:yD P w K mg (lb s₁.heap H) ac1 [] s₁ H:=⟨rfl,hM,λb o e=>GD e,Nat.le_of_eq (zO _ _),trivial,λb hb=>absurd (show b∈([]:List Addr) from hb) (by simp),bJ,.of_eq hg⟩
  refine acJ ((F _ PZ (Ex Ew)).run ac1 [] s₁ H ⟨[.ref a],[]⟩ [.ref a] [.ref a] _ _ hr e0 (OH s₁ (.ref a)) (.cons rfl .nil) (rX H hO hS)) λr s' h=>?_
  cases r with
  |error e=>exact(Kk H e s' h).elim
  |ok fl =>
    cases fl with
    |next=>exact abp h
    |brk=>exact abp h
    |cont=>exact abp h
    |ret u =>
      obtain⟨v,H',os,bare,un,RU,r',q⟩:=h
      have q':v = .bl true:=q
      subst q'
      obtain rfl:u=aa9 true:=r'
      refine⟨rfl,OldK.of_keep λb o e=>?_,os,bare⟩
      cases q:H b with
      |none=>exact un.keep b o e q (by intro z;exact absurd (show b∈([]:List Addr) from z) (by simp)) (by simp)
      |some u =>
       rcases hO b with z|⟨ob,xs,z⟩
       . rw[q]at z;cases z
       . have z2:=un.la b ob _ z
         obtain⟨e1,_⟩:=bJ b _ z
         obtain⟨e2,_⟩:=RU b _ z2
         rw[e]at e1;cases e1
         exact e2
 cases hk:K.lookup a with
 |some o =>
  have e:=KX a o hk
  rw[ha]at e
  cases e
  refine core (λ_=>none) (λ_=>.inl rfl) (.inr ⟨_,vs.toArray,_,hk,rfl,rfl,rfl,by rw[Y_,RT];exact hl,by simpa using rv⟩) (λb u z=>by have z':(none:Option HO)=some u:=z;cases z') (λb z=>absurd rfl z) λz=>absurd rfl z
 |none =>
  refine core (λb=>if b=a then some (.kz { cls:=.type "list",data:=.seq vs.toArray } (.lst (ns.map V.int)))else none) (λb=>?_) (.inl (.inr ⟨{ cls:=.type "list",data:=.seq vs.toArray },if_pos rfl⟩)) (λb u z=>?_) (λb z=>?_) λ_=>hk
  . by_cases hb:b=a
    . exact .inr ⟨_,_,if_pos hb⟩
    . exact .inl (if_neg hb)
  . by_cases hb:b=a
    . have z':=(if_pos hb).symm.trans z
      cases z'
      subst hb
      exact⟨ha,by rw[Zr];exact hl,vs,_,rv,ha⟩
    . have z':=(if_neg hb).symm.trans z
      cases z'
  . by_cases hb:b=a
    . exact hb
    . exact absurd (if_neg hb) z
theorem He {l:PySem.W.OpenLaw}{n k:Nat}{q:ZC}{loose:List Str}{XP:(Str->Option Value)->Heap->Prop}{YP:World->Heap->Prop}{d:DefRec}{K:Params->PySem.W.Frag}{CX:World->lQ}{sp:World->Sp}{x:Str}
  (hn:l.most=some n) (VF:n<=Zl) (uv:d.params.defaults = []) (hr:aO k ac1)
  (hY:∀(w:World) (h:Heap),YP w h->(K w.params).In h)
  (F:∀(w:World) (mg:Str->Option Value) (fa:Addr) (h:Heap),(K w.params).In h->h.Ns ZX mg->mg d.name=some (.ref fa) ->
   ∃fd:aae,(∀(s:Y4) (u:Value),ad7 s fd ⟨[u],[]⟩ [(x,u)]) /\
    ∀base:Heap,(K w.params).In base->base.Ns ZX mg->dN l.prog w (K w.params) mg base (CX w) k fa fd [x] (sp w))
  (rX:∀(w:World) (H:Hp) (a:Addr) (ns:List Int),ns.length<=n->CD H->dq (K w.params) H a (ns.map V.int)->sp w [.ref a] H (λv _=>v = .bl true) λ_ _ _=>False)
  (Kk:∀(w:World) (H:Hp) (s:Y4) (e:Value) (s':Y4),CX w [] H s (λ_ _ _=>False) e s'->False):
  PySem.W.WalkO q loose XP YP l.row.toRowW d [] (λf vs=>PySem.call f vs):=by
 refine Aj.wB hn uv λw s₀ s₁ mg mb fa o pm cd doc a vs ns G Y ho hd nO Kj CB hints hlen hg=>?_
 have KX:=hY w _ Y
 obtain⟨fd,hb,hF⟩:=F w mg fa _ KX G.T.g Kj
 exact CF KX G.T.g G.T.b G.T.builtins G.T.nolimit hg CB hints (aaa hlen VF) hr hF hb (λH hO hS=>rX w H a ns hlen hO hS) λH e s'=>Kk w H s₁ e s'
noncomputable def ju (s:Stmt):Arguments:=match s with
 |.FunctionDef _ a _ _ _ _ _ _ _ _=>a
 |_=>{ posonlyargs:=[],args:=[],vararg:=none,kwonlyargs:=[],kw_defaults:=[],kwarg:=none,defaults:=[] }
noncomputable def eZ (s:Stmt):List Stmt:=match s with
 |.FunctionDef _ _ b _ _ _ _ _ _ _=>b
 |_=>[]
noncomputable def bN (s:Stmt):Scope:=match s with
 |.FunctionDef _ _ _ _ _ _ sc _ _ _=>sc
 |_=>{ kind:=.function,names:=[],isGenerator:=false,isCoroutine:=false }
noncomputable abbrev i_:lQ:=λ_ _ _ _ _ _=>False
noncomputable abbrev E0:XK:=λ_ _ _=>False
theorem Ey {X:Cx}:Passes i_ X E0:=λ_ _ _ _ _ _ _ h=>h.elim
structure wZ (K:PySem.W.Frag)(x qual:Str)(st:Stmt)(f:Addr)(fd:aae):Prop where
 ex:∃(oc:Value) (od:Option Addr) (kV doc pm:Value) (an:Option Addr) (et ct:Value) (uf:Array (Option Value)),
  fd=PySem.W.fnOf x qual (ju st) (eZ st) (bN st) .none kV doc pm an et ct/\K.lookup f=some ⟨oc,od,.func fd,uf⟩/\PySem.W.codeIn K et qual=true
 kp:PySem.W.keepIn K (.ref f)=true
section
variable {P:ZC}{w:World}{K:PySem.W.Frag}{mg:Str->Option Value}{base:Heap}
theorem wZ.ok {x qual:Str}{st:Stmt}{f:Addr}{fd:aae}{N ps:List Str}{k:Nat}{sp:Sp}(F:wZ K x qual st f fd)(S:jt N ps (bN st))(len:∀vs H Q E,sp vs H Q E->vs.length=ps.length)
  (yF:∀(et:Value) (A:Zz) (outer:List Env) (s:Y4) (H:Hp) (vs:List V) (Q:VK) (E:XK),aO k (A.deeper (acK qual (bN st) s.heap.objs.size f et))->sp vs H Q E ->
   ∃t,gR (mh i_ P w K mg base N qual (bN st) f et A outer s H E).wQ (eZ st) t/\t { nx:=λ_ H'=>Q .aA H',rt:=Q } (start N vs) H):dN P w K mg base i_ (k+1) f fd ps sp:=by
 obtain⟨oc,od,kV,doc,pm,an,et,ct,uf,rfl,lk,nO⟩:=F.ex
 refine OC lk nO S len λA outer s H vs Q E hr rX=>?_
 obtain⟨t,h,q⟩:=yF et A outer s H vs Q E hr rX
 exact⟨t,h.wQ,q⟩
theorem Kl {x qual:Str}{st:Stmt}{f:Addr}{oc:Value}{od an:Option Addr}{uf:Array (Option Value)}{kV doc pm et ct:Value}(l:K.lookup f=some ⟨oc,od,.func (PySem.W.fnOf x qual (ju st) (eZ st) (bN st) .none kV doc pm an et ct),uf⟩)
 (c:PySem.W.codeIn K et qual=true) (k:PySem.W.keepIn K (.ref f)=true):wZ K x qual st f (PySem.W.fnOf x qual (ju st) (eZ st) (bN st) .none kV doc pm an et ct):=⟨⟨oc,od,kV,doc,pm,an,et,ct,uf,rfl,l,c⟩,k⟩
end
end L2
namespace L3
open PySem PySem.Spec PyProof.Rows L2
inductive D where
 |aA|bl (b:Bool)|int (i:Int)|str (x:Str)|tup (xs:List D)|lst (xs:List D)|dw|ref (n:Nat)|aM (n:Nat)|fn (x:Str)
structure KW where
 fr:PySem.W.Frag
 w:World
 mg:Str->Option Value
instance:Coe KW PySem.W.Frag:=⟨KW.fr⟩
noncomputable abbrev _root_.L2.Cx.kw (X:L2.Cx):KW:=⟨X.K,X.w,X.mg⟩
noncomputable abbrev G:=List (List D)
noncomputable abbrev Sg:=List (Option D)
structure Ix where
 ix:List Addr
 hd:List Addr
 kd:Nat->Nat
noncomputable def kb:Nat->Bool
 | 0=>false
 |_+1=>true
noncomputable def dZ (ι:Ix)(n:Nat)(a:Addr)(b:Bool):Prop:=ι.ix[n]? = some a/\kb (ι.kd n)=b
noncomputable def Ix.more (ι:Ix)(p:Addr)(b:Nat):Ix:=⟨ι.ix ++ [p],ι.hd,λi=>if i=ι.ix.length then b else ι.kd i⟩
mutual
noncomputable def bC:Nat->D->Bool
 |_,.aA=>true
 |_,.int _=>true
 |_,.str _=>true
 |n+1,.tup xs=>fq n xs
 |_,_=>false
noncomputable def fq:Nat->List D->Bool
 |_,[]=>true
 |n,d::ds=>bC n d&&fq n ds
end
mutual
noncomputable def hD (w:World):D->Int
 |.int i=>hashInt i
 |.str x=>hashStr w x
 |.aA=>reduceHash 0xFCA86420
 |.tup xs=>reduceHash (adw (Am w xs))
 |_=>0
noncomputable def Am (w:World):List D->List Int
 | []=>[]
 |d::ds=>hD w d::Am w ds
end
noncomputable def dO (a:Addr)(es:List ZE)(c:Nat):HO:=.ext λh=>h.get? a=some { cls:=.type "dict",data:=.dict es.toArray (es.length-c) }
noncomputable def jl:List ZE->List Value
 | []=>[]
 |e::es=>e.key::e.val::jl es
noncomputable def aS:List D->List D
 |k::_::r=>k::aS r
 |_=>[]
inductive jC (w:World):List D->List ZE->Prop
 |nil:jC w [] []
 |cons {k v:D} {r:List D} {e:ZE} {es:List ZE}:bC 6 k=true->e.hash=hD w k->jC w r es->jC w (k::v::r) (e::es)
inductive OV (K:KW)(a:Addr)(xs:List D):Nat->HO->List V->Prop
 |l (vs:List V):OV K a xs 0 (.lst vs) vs
 |d (c:Nat) (es:List ZE) (vs:List V):c<=es.length->Vals vs (jl es)->jC K.w xs es->(aS xs).Nodup->(a == aa_)=false->es.length<=Zl->OV K a xs (c+1) (dO a es c) vs
noncomputable def kE (K:KW)(H:Hp)(ι:Ix)(a:Addr)(xs:List V):Prop :=
 (Rd H a (.lst xs)/\a ∉ ι.ix/\a ∉ ι.hd) \/
  ∃(o:Obj) (av:Array Value) (n:Nat),K.fr.lookup a=some o/\o.cls = .type "list" /\ o.dict=none/\o.data = .seq av n/\av.size<=Zl/\Vals xs av.toList
theorem kE.sq {K H ι a xs}(h:kE K H ι a xs):dq K H a xs:=by
 rcases h with⟨h,_⟩|h
 . exact .inl h
 . exact .inr h
noncomputable def jD (K:KW)(H:Hp)(ι:Ix)(a:Addr)(xs:List V):Prop :=
 (Rd H a (.tup xs)/\a ∉ ι.ix) \/
  ∃(o:Obj) (av:Array Value) (n:Nat),K.fr.lookup a=some o/\o.cls = .type "tuple" /\ o.dict=none/\o.data = .seq av n/\av.size<=Zl/\Vals xs av.toList
theorem jD.sq {K H ι a xs}(h:jD K H ι a xs):dP K H a xs:=by
 rcases h with⟨h,_⟩|h
 . exact .inl h
 . exact .inr h
mutual
noncomputable def Rel (K:KW)(H:Hp)(ι:Ix):D->V->Prop
 |.aA,v=>v = .aA
 |.bl b,v=>v = .bl b
 |.int i,v=>v = .int i
 |.str x,v=>v = .str x
 |.tup xs,v=>∃a vs,v = .ref a/\jD K H ι a vs/\aj K H ι xs vs
 |.lst xs,v=>∃a vs,v = .ref a/\kE K H ι a vs/\aj K H ι xs vs
 |.dw,v=>∃a,v = .ref a/\H a=some (.dK [])/\a ∉ ι.ix
 |.ref n,v=>∃a,v = .ref a/\dZ ι n a false
 |.aM n,v=>∃a,v = .ref a/\dZ ι n a true
 |.fn x,v=>∃a,v = .ref a/\K.mg x=some (.ref a)
noncomputable def aj (K:KW)(H:Hp)(ι:Ix):List D->List V->Prop
 | [],vs=>vs = []
 |x::xs,vs=>∃v vr,vs=v::vr/\Rel K H ι x v/\aj K H ι xs vr
end
structure Ext (H:Hp)(ι:Ix)(H':Hp)(ι':Ix):Prop where
 same:∀a o,H a=some o->a ∉ ι.ix->H' a=some o
 there:∀a,H a≠none->H' a≠none
 more:∃m,ι'.ix=ι.ix++m /\ ∀a∈m,H a=none
 cK:ι'.hd=ι.hd
 lT:∀i,i < ι.ix.length->ι'.kd i=ι.kd i
structure az (K:KW)(H:Hp)(ι:Ix)(g:G):Prop where
 nd:ι.ix.Nodup
 len:ι.ix.length=g.length
 cK:∀b∈ι.hd,b ∉ ι.ix/\H b≠none
 at_:∀(i:Nat) xs,g[i]? = some xs->∃a o vs,ι.ix[i]? = some a/\H a=some o/\OV K a xs (ι.kd i) o vs/\aj K H ι xs vs
noncomputable def bR (K:KW)(H:Hp)(ι:Ix)(σd:Sg)(σ:L2.St):Prop :=
 σd.length=σ.length /\ ∀(i:Nat) d,σd[i]? = some (some d)->∃v,σ[i]? = some (some v)/\Rel K H ι d v
theorem Ext.refl {H ι}:Ext H ι H ι:=⟨λ_ _ h _=>h,λ_ h=>h,⟨[],by simp,λ_ h=>by simp at h⟩,rfl,λ_ _=>rfl⟩
theorem Ext.old {H ι H1 ι1}(a:Ext H ι H1 ι1){c:Addr}{o:HO}(h:H c=some o)(n:c ∉ ι.ix):c ∉ ι1.ix:=λz=>by
 obtain⟨m1,e1,f1⟩:=a.more
 rw[e1]at z
 rcases Ze.mp z with z|z
 . exact n z
 . rw[f1 c z]at h;cases h
theorem Ext.trans {H ι H1 ι1 H2 ι2}(a:Ext H ι H1 ι1)(b:Ext H1 ι1 H2 ι2):Ext H ι H2 ι2:=by
 obtain⟨m1,e1,f1⟩:=a.more
 obtain⟨m2,e2,f2⟩:=b.more
 refine⟨λc o h n=>b.same c o (a.same c o h n) (a.old h n),λc h=>b.there c (a.there c h),⟨m1++m2,by rw[e2,e1,aaI],λc z=>?_⟩,b.cK.trans a.cK,λi hi=>(b.lT i (by rw[e1,aav];omega)).trans (a.lT i hi)⟩
 rcases Ze.mp z with z|z
 . exact f1 c z
 . cases q:H c with
   |none=>rfl
   |some o=>exact absurd (f2 c z) (a.there c (by rw[q];simp))
theorem Ext.at {H ι H1 ι1}(a:Ext H ι H1 ι1){i:Nat}{c:Addr}{b:Bool}(h:dZ ι i c b):dZ ι1 i c b:=by
 obtain⟨m1,e1,_⟩:=a.more
 have hl:=(Y7.mp h.1).1
 refine⟨?_,by rw[a.lT i hl];exact h.2⟩
 rw[e1,Zu hl];exact h.1
theorem kE.ext {K H ι H1 ι1 a xs}(e:Ext H ι H1 ι1)(h:kE K H ι a xs):kE K H1 ι1 a xs:=by
 rcases h with⟨h|⟨o,h⟩,n,k⟩|h
 . exact .inl ⟨.inl (e.same _ _ h n),e.old h n,by rw[e.cK];exact k⟩
 . exact .inl ⟨.inr ⟨o,e.same _ _ h n⟩,e.old h n,by rw[e.cK];exact k⟩
 . exact .inr h
theorem jD.ext {K H ι H1 ι1 a xs}(e:Ext H ι H1 ι1)(h:jD K H ι a xs):jD K H1 ι1 a xs:=by
 rcases h with⟨h|⟨o,h⟩,n⟩|h
 . exact .inl ⟨.inl (e.same _ _ h n),e.old h n⟩
 . exact .inl ⟨.inr ⟨o,e.same _ _ h n⟩,e.old h n⟩
 . exact .inr h
mutual
theorem Rel.ext {K H ι H1 ι1}(e:Ext H ι H1 ι1):∀(d:D) {v:V},Rel K H ι d v->Rel K H1 ι1 d v
 |.aA,v,h=>by simpa[Rel]using h
 |.bl _,v,h=>by simpa[Rel]using h
 |.int _,v,h=>by simpa[Rel]using h
 |.str _,v,h=>by simpa[Rel]using h
 |.tup xs,v,h=>by
  simp only[Rel]at h ⊢
  obtain⟨a,vs,e1,hq,hr⟩:=h
  exact⟨a,vs,e1,hq.ext e,aj.ext e xs hr⟩
 |.lst xs,v,h=>by
  simp only[Rel]at h ⊢
  obtain⟨a,vs,e1,hq,hr⟩:=h
  exact⟨a,vs,e1,hq.ext e,aj.ext e xs hr⟩
 |.dw,v,h=>by
  simp only[Rel]at h ⊢
  obtain⟨a,e1,hq,hr⟩:=h
  exact⟨a,e1,e.same _ _ hq hr,e.old hq hr⟩
 |.ref n,v,h=>by
  simp only[Rel]at h ⊢
  obtain⟨a,e1,hq⟩:=h
  exact⟨a,e1,e.at hq⟩
 |.aM n,v,h=>by
  simp only[Rel]at h ⊢
  obtain⟨a,e1,hq⟩:=h
  exact⟨a,e1,e.at hq⟩
 |.fn x,v,h=>by simpa[Rel]using h
theorem aj.ext {K H ι H1 ι1}(e:Ext H ι H1 ι1):∀(ds:List D) {vs:List V},aj K H ι ds vs->aj K H1 ι1 ds vs
 | [],vs,h=>by simpa[aj]using h
 |d::ds,vs,h=>by
  simp only[aj]at h ⊢
  obtain⟨v,vr,e1,hq,hr⟩:=h
  exact⟨v,vr,e1,Rel.ext e d hq,aj.ext e ds hr⟩
end
theorem bR.ext {K H ι H1 ι1 σd σ}(e:Ext H ι H1 ι1)(h:bR K H ι σd σ):bR K H1 ι1 σd σ :=
 ⟨h.1,λi d q=>let⟨v,a,b⟩:=h.2 i d q;⟨v,a,Rel.ext e d b⟩⟩
theorem aj.length {K H ι}:∀{ds:List D} {vs:List V},aj K H ι ds vs->ds.length=vs.length
 | [],vs,h=>by simp only[aj]at h;subst h;rfl
 |d::ds,vs,h=>by
  simp only[aj]at h
  obtain⟨v,vr,rfl,_,hr⟩:=h
  simp[aj.length hr]
theorem aj.append {K H ι}:∀{ds es:List D} {vs us:List V},aj K H ι ds vs->aj K H ι es us->aj K H ι (ds++es) (vs++us)
 | [],es,vs,us,h,k=>by simp only[aj]at h;subst h;exact k
 |d::ds,es,vs,us,h,k=>by
  simp only[aj]at h
  obtain⟨v,vr,rfl,hv,hr⟩:=h
  simp only[aa7,aj]
  exact⟨v,_,rfl,hv,aj.append hr k⟩
theorem aj.get {K H ι}:∀{ds:List D} {vs:List V} {i:Nat} {d:D},aj K H ι ds vs->ds[i]? = some d->∃v,vs[i]? = some v/\Rel K H ι d v
 | [],_,_,_,_,e=>by simp at e
 |x::ds,vs,0,d,h,e=>by
  simp only[aj]at h
  obtain⟨v,vr,rfl,hv,hr⟩:=h
  simp at e;subst e;exact⟨v,rfl,hv⟩
 |x::ds,vs,i+1,d,h,e=>by
  simp only[aj]at h
  obtain⟨v,vr,rfl,hv,hr⟩:=h
  obtain⟨u,h1,h2⟩:=aj.get (i:=i) hr (by simpa using e)
  exact⟨u,by simpa using h1,h2⟩
theorem aj.set {K H ι d v}(hv:Rel K H ι d v):∀{ds:List D} {vs:List V} (i:Nat),aj K H ι ds vs->aj K H ι (ds.set i d) (vs.set i v)
 | [],_,_,h=>by simp only[aj]at h;subst h;simp[aj]
 |x::ds,vs,0,h=>by
  simp only[aj]at h
  obtain⟨u,vr,rfl,hu,hr⟩:=h
  simp only[List.set_cons_zero,aj]
  exact⟨v,vr,rfl,hv,hr⟩
 |x::ds,vs,i+1,h=>by
  simp only[aj]at h
  obtain⟨u,vr,rfl,hu,hr⟩:=h
  simp only[List.set_cons_succ,aj]
  exact⟨u,_,rfl,hu,aj.set hv i hr⟩
theorem aj.take {K H ι}:∀{ds:List D} {vs:List V} (n:Nat),aj K H ι ds vs->aj K H ι (ds.take n) (vs.take n)
 |_,_,0,_=>by simp[aj]
 | [],_,n+1,h=>by simp only[aj]at h;subst h;simp[aj]
 |x::ds,vs,n+1,h=>by
  simp only[aj]at h
  obtain⟨u,vr,rfl,hu,hr⟩:=h
  simp only[acZ,aj]
  exact⟨u,_,rfl,hu,aj.take n hr⟩
theorem aj.drop {K H ι}:∀{ds:List D} {vs:List V} (n:Nat),aj K H ι ds vs->aj K H ι (ds.drop n) (vs.drop n)
 |_,_,0,h=>h
 | [],_,n+1,h=>by simp only[aj]at h;subst h;simp[aj]
 |x::ds,vs,n+1,h=>by
  simp only[aj]at h
  obtain⟨u,vr,rfl,hu,hr⟩:=h
  simp only[List.drop_succ_cons]
  exact aj.drop n hr
theorem az.at {K H ι g}(h:az K H ι g){n:Nat}{xs:List D}{a:Addr}(e:g[n]? = some xs)(ha:dZ ι n a false):∃vs,H a=some (.lst vs)/\aj K H ι xs vs:=by
 obtain⟨b,o,vs,hb,h1,ov,h2⟩:=h.at_ n xs e
 rw[ha.1]at hb;cases hb
 have hb:=ha.2
 generalize ι.kd n=k at ov hb
 cases ov with
 |l=>exact⟨vs,h1,h2⟩
 |d=>cases hb
theorem az.nV {K H ι g}(h:az K H ι g){n:Nat}{xs:List D}{a:Addr}(e:g[n]? = some xs)(ha:dZ ι n a true):
  ∃es vs c,H a=some (dO a es c)/\ι.kd n=c+1/\c<=es.length/\Vals vs (jl es)/\jC K.w xs es/\(aS xs).Nodup/\(a == aa_)=false/\es.length<=Zl/\aj K H ι xs vs:=by
 obtain⟨b,o,vs,hb,h1,ov,h2⟩:=h.at_ n xs e
 rw[ha.1]at hb;cases hb
 have hb:=ha.2
 generalize ι.kd n=k at ov hb
 cases ov with
 |l=>cases hb
 |d c es vs h0 h3 h4 h5 h6 h7=>exact⟨es,vs,c,h1,rfl,h0,h3,h4,h5,h6,h7,h2⟩
theorem az.rL {K H ι g}(h:az K H ι g){a:Addr}(ha:a∈ι.ix):H a≠none:=by
 obtain⟨i,hi,e⟩:=aax.mp ha
 have hg:i<g.length:=by rw[<- h.len];exact hi
 obtain⟨b,_,vs,hb,h1,_⟩:=h.at_ i _ (Y8 hg)
 rw[Y8 hi,e]at hb
 cases hb
 rw[h1];simp
theorem Ext.lay {H ι p o}(hp:H p=none):Ext H ι (upd H p o) ι :=
 ⟨λa u h _=>by rw[a_ (b9 h hp)];exact h,λa h=>by
  by_cases e:a=p
  . subst e;exact absurd hp h
  . rw[a_ e];exact h,⟨[],by simp,λ_ h=>by simp at h⟩,rfl,λ_ _=>rfl⟩
theorem az.ext {K H ι g H1}(h:az K H ι g)(e:Ext H ι H1 ι)(k:∀a∈ι.ix,H1 a=H a):az K H1 ι g :=
 ⟨h.nd,h.len,λb hb=>⟨(h.cK b hb).1,e.there b (h.cK b hb).2⟩,λi xs q=>by
  obtain⟨a,o,vs,h1,h2,ov,h3⟩:=h.at_ i xs q
  exact⟨a,o,vs,h1,by rw[k a (ZY h1)];exact h2,ov,aj.ext e xs h3⟩⟩
theorem az.lay {K H ι g p o}(h:az K H ι g)(hp:H p=none):az K (upd H p o) ι g :=
 h.ext (Ext.lay hp) λa ha=>a_ λe=>by subst e;exact h.rL ha hp
theorem az.fresh {K H ι g p}(h:az K H ι g)(hp:H p=none):p ∉ ι.ix:=λha=>h.rL ha hp
theorem az.jE {K H ι g p}(h:az K H ι g)(hp:H p=none):p ∉ ι.hd:=λha=>(h.cK p ha).2 hp
theorem Ext.iK {H ι p o b}(hp:H p=none):Ext H ι (upd H p o) (ι.more p b):=by
 have e:=Ext.lay (ι:=ι) (o:=o) hp
 refine⟨e.same,e.there,⟨[p],rfl,λa ha=>by simp at ha;subst ha;exact hp⟩,rfl,λi hi=>?_⟩
 show(if i=ι.ix.length then b else ι.kd i)=ι.kd i
 rw[if_neg (by omega)]
theorem Ext.push {H ι p o}(hp:H p=none):Ext H ι (upd H p o) (ι.more p 0):=Ext.iK hp
theorem az.iK {K H ι g p o xs vs b}(h:az K H ι g)(hp:H p=none)(ov:OV K p xs b o vs)(r:aj K H ι xs vs):az K (upd H p o) (ι.more p b) (g ++ [xs]):=by
 have hn:=h.fresh hp
 refine⟨?_,by simp[Ix.more,h.len],λb hb=>⟨λz=>?_,(Ext.iK (ι:=ι) (o:=o) (b:=0) hp).there b (h.cK b hb).2⟩,λi ys q=>?_⟩
 . show(ι.ix ++ [p]).Nodup
   rw[aaq]
   refine⟨h.nd,by simp,λa ha b hb=>?_⟩
   simp at hb;subst hb
   intro e;subst e;exact hn ha
 . rcases Ze.mp z with z|z
   . exact(h.cK b hb).1 z
   . simp at z;subst z;exact(h.cK _ hb).2 hp
 . by_cases hi:i<g.length
   . rw[Zu hi]at q
     obtain⟨a,o',us,h1,h2,VG,h3⟩:=h.at_ i ys q
     refine⟨a,o',us,(by show(ι.ix ++ [p])[i]? = some a;rw[Zu (by rw[h.len];exact hi)];exact h1),?_,?_,aj.ext (Ext.iK hp) ys h3⟩
     . rw[a_ (b9 h2 hp)];exact h2
     . show OV K _ _ (if i=ι.ix.length then b else ι.kd i) o' us
       rw[if_neg (by rw[h.len];omega)];exact VG
   . rw[aaA (by omega)]at q
     have VH:i-g.length=0:=by
       cases e:i-g.length with
       |zero=>rfl
       |succ k=>rw[e]at q;simp at q
     rw[VH]at q
     have e:xs=ys:=by simpa using q
     subst e
     have An:i=ι.ix.length:=by rw[h.len];omega
     refine⟨p,o,vs,?_,bA,?_,aj.ext (Ext.iK hp) xs r⟩
     . show(ι.ix ++ [p])[i]? = some p
       rw[An];simp
     . show OV K _ _ (if i=ι.ix.length then b else ι.kd i) o vs
       rw[if_pos An];exact ov
theorem az.push {K H ι g p xs vs}(h:az K H ι g)(hp:H p=none)(r:aj K H ι xs vs):az K (upd H p (.lst vs)) (ι.more p 0) (g ++ [xs]):=h.iK hp (.l vs) r
theorem dZ.new {ι:Ix}{p:Addr}{k:Nat}{n:Nat}(h:ι.ix.length=n):dZ (ι.more p k) n p (kb k):=by
 subst h
 exact⟨by show(ι.ix ++ [p])[ι.ix.length]? = some p;simp,by show kb (if ι.ix.length=ι.ix.length then k else ι.kd ι.ix.length)=kb k;rw[if_pos rfl]⟩
theorem Ext.put {H ι}{n:Nat}{a o o'}{b:Bool}(ha:dZ ι n a b)(h:H a=some o):Ext H ι (upd H a o') ι :=
 ⟨λb o q nb=>by rw[a_ (λe=>nb (by rw[e];exact ZY ha.1))];exact q,λb q=>by
  by_cases e:b=a
  . subst e;rw[bA];simp
  . rw[a_ e];exact q,⟨[],by simp,λ_ z=>by simp at z⟩,rfl,λ_ _=>rfl⟩
theorem az.Km {K H ι g}{n:Nat}{a o o' xs ws}{b:Bool}(h:az K H ι g)(ha:dZ ι n a b)(hv:H a=some o)(ov:OV K a xs (ι.kd n) o' ws)(r:aj K H ι xs ws):az K (upd H a o') ι (g.set n xs):=by
 refine⟨h.nd,by simp[h.len],λb hb=>⟨(h.cK b hb).1,(Ext.put ha hv).there b (h.cK b hb).2⟩,λi ys q=>?_⟩
 by_cases e:i=n
 . subst e
   have hi:i<g.length:=by rw[<- h.len];exact(Y7.mp ha.1).1
   rw[aao hi]at q
   cases q
   exact⟨a,o',ws,ha.1,bA,ov,aj.ext (Ext.put ha hv) _ r⟩
 . rw[ZK (aa0 e)]at q
   obtain⟨b,o2,us,h1,h2,VI,h3⟩:=h.at_ i ys q
   refine⟨b,o2,us,h1,?_,VI,aj.ext (Ext.put ha hv) ys h3⟩
   rw[a_ ?_]
   . exact h2
   . intro z
     subst z
     obtain⟨hi,e1⟩:=Y7.mp h1
     obtain⟨hn,e2⟩:=Y7.mp ha.1
     exact e ((adD h.nd).mp (e1.trans e2.symm))
theorem az.put {K H ι g}{n:Nat}{a vs xs ws}(h:az K H ι g)(ha:dZ ι n a false)(hv:H a=some (.lst vs))(r:aj K H ι xs ws):az K (upd H a (.lst ws)) ι (g.set n xs):=h.Km ha hv (by
 have hb:=ha.2
 cases e:ι.kd n with
 |zero=>exact .l ws
 |succ k=>rw[e]at hb;cases hb) r
noncomputable def Ix.hide (ι:Ix)(p:Addr):Ix:=⟨ι.ix,p::ι.hd,ι.kd⟩
mutual
theorem Rel.show {K H ι p}:∀(d:D) {v:V},Rel K H (Ix.hide ι p) d v->Rel K H ι d v
 |.aA,v,h=>by simpa[Rel]using h
 |.bl _,v,h=>by simpa[Rel]using h
 |.int _,v,h=>by simpa[Rel]using h
 |.str _,v,h=>by simpa[Rel]using h
 |.tup xs,v,h=>by
  simp only[Rel]at h ⊢
  obtain⟨a,vs,e1,hq,hr⟩:=h
  exact⟨a,vs,e1,hq,aj.show xs hr⟩
 |.lst xs,v,h=>by
  simp only[Rel]at h ⊢
  obtain⟨a,vs,e1,hq,hr⟩:=h
  refine⟨a,vs,e1,?_,aj.show xs hr⟩
  rcases hq with⟨h,n,k⟩|h
  . exact .inl ⟨h,n,λz=>k (Zs _ z)⟩
  . exact .inr h
 |.dw,v,h=>by simpa[Rel,Ix.hide]using h
 |.ref n,v,h=>by simpa[Rel,Ix.hide,dZ]using h
 |.aM n,v,h=>by simpa[Rel,Ix.hide,dZ]using h
 |.fn x,v,h=>by simpa[Rel]using h
theorem aj.show {K H ι p}:∀(ds:List D) {vs:List V},aj K H (Ix.hide ι p) ds vs->aj K H ι ds vs
 | [],vs,h=>by simpa[aj]using h
 |d::ds,vs,h=>by
  simp only[aj]at h ⊢
  obtain⟨v,vr,e1,hq,hr⟩:=h
  exact⟨v,vr,e1,Rel.show d hq,aj.show ds hr⟩
end
mutual
theorem Rel.hide {K H ι p o}(hp:H p=none):∀(d:D) {v:V},Rel K H ι d v->Rel K (upd H p o) (Ix.hide ι p) d v
 |.aA,v,h=>by simpa[Rel]using h
 |.bl _,v,h=>by simpa[Rel]using h
 |.int _,v,h=>by simpa[Rel]using h
 |.str _,v,h=>by simpa[Rel]using h
 |.tup xs,v,h=>by
  simp only[Rel]at h ⊢
  obtain⟨a,vs,e1,hq,hr⟩:=h
  refine⟨a,vs,e1,?_,aj.hide hp xs hr⟩
  rcases hq with⟨h|⟨u,h⟩,n⟩|h
  . exact .inl ⟨.inl (by rw[a_ (b9 h hp)];exact h),n⟩
  . exact .inl ⟨.inr ⟨u,by rw[a_ (b9 h hp)];exact h⟩,n⟩
  . exact .inr h
 |.lst xs,v,h=>by
  simp only[Rel]at h ⊢
  obtain⟨a,vs,e1,hq,hr⟩:=h
  refine⟨a,vs,e1,?_,aj.hide hp xs hr⟩
  have out:∀{u:HO},H a=some u->a ∉ ι.hd->a ∉ (Ix.hide ι p).hd:=λh k z=>by
    rcases Zd.mp z with z|z
    . exact b9 h hp z
    . exact k z
  rcases hq with⟨h|⟨u,h⟩,n,k⟩|h
  . exact .inl ⟨.inl (by rw[a_ (b9 h hp)];exact h),n,out h k⟩
  . exact .inl ⟨.inr ⟨u,by rw[a_ (b9 h hp)];exact h⟩,n,out h k⟩
  . exact .inr h
 |.dw,v,h=>by
  simp only[Rel]at h ⊢
  obtain⟨a,e1,hq,hr⟩:=h
  exact⟨a,e1,by rw[a_ (b9 hq hp)];exact hq,hr⟩
 |.ref n,v,h=>by simpa[Rel,Ix.hide,dZ]using h
 |.aM n,v,h=>by simpa[Rel,Ix.hide,dZ]using h
 |.fn x,v,h=>by simpa[Rel]using h
theorem aj.hide {K H ι p o}(hp:H p=none):∀(ds:List D) {vs:List V},aj K H ι ds vs->aj K (upd H p o) (Ix.hide ι p) ds vs
 | [],vs,h=>by simpa[aj]using h
 |d::ds,vs,h=>by
  simp only[aj]at h ⊢
  obtain⟨v,vr,e1,hq,hr⟩:=h
  exact⟨v,vr,e1,Rel.hide hp d hq,aj.hide hp ds hr⟩
end
mutual
theorem Rel.grow {K H ι p us ws}(hp:H p=some (.lst us)):∀(d:D) {v:V},Rel K H (Ix.hide ι p) d v->Rel K (upd H p (.lst ws)) (Ix.hide ι p) d v
 |.aA,v,h=>by simpa[Rel]using h
 |.bl _,v,h=>by simpa[Rel]using h
 |.int _,v,h=>by simpa[Rel]using h
 |.str _,v,h=>by simpa[Rel]using h
 |.tup xs,v,h=>by
  simp only[Rel]at h ⊢
  obtain⟨a,vs,e1,hq,hr⟩:=h
  refine⟨a,vs,e1,?_,aj.grow hp xs hr⟩
  rcases hq with⟨h|⟨u,h⟩,n⟩|h
  . exact .inl ⟨.inl (by rw[a_ (yt h hp (by simp))];exact h),n⟩
  . exact .inl ⟨.inr ⟨u,by rw[a_ (yt h hp (by simp))];exact h⟩,n⟩
  . exact .inr h
 |.lst xs,v,h=>by
  simp only[Rel]at h ⊢
  obtain⟨a,vs,e1,hq,hr⟩:=h
  refine⟨a,vs,e1,?_,aj.grow hp xs hr⟩
  rcases hq with⟨h,n,k⟩|h
  . have ne:a≠p:=λz=>k (by rw[z];exact Zp)
    rcases h with h|⟨u,h⟩
    . exact .inl ⟨.inl (by rw[a_ ne];exact h),n,k⟩
    . exact .inl ⟨.inr ⟨u,by rw[a_ ne];exact h⟩,n,k⟩
  . exact .inr h
 |.dw,v,h=>by
  simp only[Rel]at h ⊢
  obtain⟨a,e1,hq,hr⟩:=h
  exact⟨a,e1,by rw[a_ (yt hq hp (by simp))];exact hq,hr⟩
 |.ref n,v,h=>by simpa[Rel,Ix.hide,dZ]using h
 |.aM n,v,h=>by simpa[Rel,Ix.hide,dZ]using h
 |.fn x,v,h=>by simpa[Rel]using h
theorem aj.grow {K H ι p us ws}(hp:H p=some (.lst us)):∀(ds:List D) {vs:List V},aj K H (Ix.hide ι p) ds vs->aj K (upd H p (.lst ws)) (Ix.hide ι p) ds vs
 | [],vs,h=>by simpa[aj]using h
 |d::ds,vs,h=>by
  simp only[aj]at h ⊢
  obtain⟨v,vr,e1,hq,hr⟩:=h
  exact⟨v,vr,e1,Rel.grow hp d hq,aj.grow hp ds hr⟩
end
theorem az.hide {K H ι p o g}(hp:H p=none)(h:az K H ι g):az K (upd H p o) (Ix.hide ι p) g :=
 ⟨h.nd,h.len,λb hb=>by
  rcases Zd.mp hb with rfl|hb
  . exact⟨h.fresh hp,by rw[bA];simp⟩
  . refine⟨(h.cK b hb).1,?_⟩
    by_cases e:b=p
    . subst e;rw[bA];simp
    . rw[a_ e];exact(h.cK b hb).2,λi xs q=>by
  obtain⟨a,o,vs,h1,h2,ov,h3⟩:=h.at_ i xs q
  exact⟨a,o,vs,h1,by rw[a_ (b9 h2 hp)];exact h2,ov,aj.hide hp xs h3⟩⟩
theorem az.show {K H ι p g}(h:az K H (Ix.hide ι p) g):az K H ι g :=
 ⟨h.nd,h.len,λb hb=>h.cK b (Zs _ hb),λi xs q=>by
  obtain⟨a,o,vs,h1,h2,ov,h3⟩:=h.at_ i xs q
  exact⟨a,o,vs,h1,h2,ov,aj.show xs h3⟩⟩
theorem az.grow {K H ι p us ws g}(hp:H p=some (.lst us))(h:az K H (Ix.hide ι p) g):az K (upd H p (.lst ws)) (Ix.hide ι p) g :=
 ⟨h.nd,h.len,λb hb=>⟨(h.cK b hb).1,by
   by_cases e:b=p
   . subst e;rw[bA];simp
   . rw[a_ e];exact(h.cK b hb).2⟩,λi xs q=>by
  obtain⟨a,o,vs,h1,h2,ov,h3⟩:=h.at_ i xs q
  refine⟨a,o,vs,h1,?_,ov,aj.grow hp xs h3⟩
  rw[a_ (λe=>(h.cK p Zp).1 (by rw[<- e];exact ZY h1))];exact h2⟩
noncomputable abbrev FE:=Sg->G->Option (D×G)
noncomputable abbrev FT:=Sg->G->Option (Bool×G)
noncomputable abbrev FA:=Sg->G->Option (List D×G)
noncomputable def gA (K:KW)(H:Hp)(ι:Ix)(d:D)(g':G)(Q:VK):Prop:=∀H' ι' v,Ext H ι H' ι'->az K H' ι' g'->Rel K H' ι' d v->Q v H'
noncomputable def OI (K:KW)(H:Hp)(ι:Ix)(ds:List D)(g':G)(Q:List V->Hp->Prop):Prop:=∀H' ι' vs,Ext H ι H' ι'->az K H' ι' g'->aj K H' ι' ds vs->Q vs H'
noncomputable def pe (K:KW)(H:Hp)(ι:Ix)(g':G)(Q:Hp->Prop):Prop:=∀H' ι',Ext H ι H' ι'->az K H' ι' g'->Q H'
inductive tD (K:KW)(f:FE)(σ:L2.St)(H:Hp)(Q:VK):Prop
 |mk (ι:Ix) (σd:Sg) (g:G) (d:D) (g':G) (h0:az K H ι g) (h1:bR K H ι σd σ) (h2:f σd g=some (d,g')) (h3:gA K H ι d g' Q):tD K f σ H Q
inductive ij (K:KW)(f:FA)(σ:L2.St)(H:Hp)(Q:(List V->Hp->Prop)):Prop
 |mk (ι:Ix) (σd:Sg) (g:G) (d:List D) (g':G) (h0:az K H ι g) (h1:bR K H ι σd σ) (h2:f σd g=some (d,g')) (h3:OI K H ι d g' Q):ij K f σ H Q
inductive kF (K:KW)(f:FT)(σ:L2.St)(H:Hp)(Q:(Bool->Hp->Prop)):Prop
 |mk (ι:Ix) (σd:Sg) (g:G) (b:Bool) (g':G) (h0:az K H ι g) (h1:bR K H ι σd σ) (h2:f σd g=some (b,g')) (h3:pe K H ι g' (Q b)):kF K f σ H Q
structure DE (X:Cx)(e:Expr)(f:FE):Prop where of ::
 un:PE X e (tD X.kw f)
structure DA (X:Cx)(es:List Expr)(f:FA):Prop where of ::
 un:PA X es (ij X.kw f)
structure DT (X:Cx)(e:Expr)(f:FT):Prop where of ::
 un:PT X e (kF X.kw f)
structure DW (X:Cx)(e:Expr)(f:FT):Prop where of ::
 un:PW X e (kF X.kw f)
theorem PE.imp {X:Cx}{e:Expr}{t t':TE}(h:PE X e t)(i:∀σ H Q,t' σ H Q->t σ H Q):PE X e t':=λpins s σ H Q I q=>h pins s σ H Q I (i σ H Q q)
theorem PT.imp {X:Cx}{e:Expr}{t t':TT}(h:PT X e t)(i:∀σ H Q,t' σ H Q->t σ H Q):PT X e t':=λpins s σ H Q I q=>h pins s σ H Q I (i σ H Q q)
theorem PW.imp {X:Cx}{e:Expr}{t t':TT}(h:PW X e t)(i:∀σ H Q,t' σ H Q->t σ H Q):PW X e t':=λw pins s σ H Q I q=>h w pins s σ H Q I (i σ H Q q)
theorem PA.imp {X:Cx}{e:List Expr}{t t':TA}(h:PA X e t)(i:∀σ H Q,t' σ H Q->t σ H Q):PA X e t':=λpos pins s σ H Q I q=>h pos pins s σ H Q I (i σ H Q q)
theorem gA.mono {K H ι H1 ι1 d g' Q}(e:Ext H ι H1 ι1)(p:gA K H ι d g' Q):gA K H1 ι1 d g' Q:=λH' ι' v e' r q=>p H' ι' v (e.trans e') r q
theorem pe.mono {K H ι H1 ι1 g' Q}(e:Ext H ι H1 ι1)(p:pe K H ι g' Q):pe K H1 ι1 g' Q:=λH' ι' e' r=>p H' ι' (e.trans e') r
theorem tD.bind {K f}{σ:L2.St}{H:Hp}{Q:VK}{ι σd g d g'}(G0:az K H ι g)(S0:bR K H ι σd σ)(h:f σd g=some (d,g'))
  (k:∀H1 ι1 v,Ext H ι H1 ι1->az K H1 ι1 g'->bR K H1 ι1 σd σ->Rel K H1 ι1 d v->Q v H1):tD K f σ H Q :=
 ⟨ι,σd,g,d,g',G0,S0,h,λH' ι' v e r q=>k H' ι' v e r (S0.ext e) q⟩
theorem ij.bind {K f}{σ:L2.St}{H:Hp}{Q:List V->Hp->Prop}{ι σd g d g'}(G0:az K H ι g)(S0:bR K H ι σd σ)(h:f σd g=some (d,g'))
  (k:∀H1 ι1 v,Ext H ι H1 ι1->az K H1 ι1 g'->bR K H1 ι1 σd σ->aj K H1 ι1 d v->Q v H1):ij K f σ H Q :=
 ⟨ι,σd,g,d,g',G0,S0,h,λH' ι' v e r q=>k H' ι' v e r (S0.ext e) q⟩
theorem kF.bind {K f}{σ:L2.St}{H:Hp}{Q:Bool->Hp->Prop}{ι σd g d g'}(G0:az K H ι g)(S0:bR K H ι σd σ)(h:f σd g=some (d,g'))
  (k:∀H1 ι1,Ext H ι H1 ι1->az K H1 ι1 g'->bR K H1 ι1 σd σ->Q d H1):kF K f σ H Q :=
 ⟨ι,σd,g,d,g',G0,S0,h,λH' ι' e r=>k H' ι' e r (S0.ext e)⟩
section
variable {X:Cx}{a b c e:Expr}{es rest:List Expr}{pos:Pos}{fa fb fc:FE}{fr:FA}{ga gb:FT}
noncomputable def fC (d:D):FE:=λ_ g=>some (d,g)
noncomputable def af (i:Nat):FE:=λσ g=>match σ[i]? with|some (some d)=>some (d,g)|_=>none
theorem Kn {i j pos}:DE X (.Constant (.int i) j pos) (fC (.int i)):=.of (PE.imp Jo λσ H Q h=>by
 obtain⟨ι,σd,g,d,g',G0,S0,h,p⟩:=h
 cases h;exact p H ι _ Ext.refl G0 (by simp[Rel]))
theorem Ko {i j pos}:DE X (.Constant (.str i) j pos) (fC (.str i)):=.of (PE.imp Jq λσ H Q h=>by
 obtain⟨ι,σd,g,d,g',G0,S0,h,p⟩:=h
 cases h;exact p H ι _ Ext.refl G0 (by simp[Rel]))
theorem OJ {i j pos}:DE X (.Constant (.bool i) j pos) (fC (.bl i)):=.of (PE.imp Oe λσ H Q h=>by
 obtain⟨ι,σd,g,d,g',G0,S0,h,p⟩:=h
 cases h;exact p H ι _ Ext.refl G0 (by simp[Rel]))
theorem Kp {j pos}:DE X (.Constant .none j pos) (fC .aA):=.of (PE.imp Jp λσ H Q h=>by
 obtain⟨ι,σd,g,d,g',G0,S0,h,p⟩:=h
 cases h;exact p H ι _ Ext.refl G0 (by simp[Rel]))
theorem Kq (i:Nat){x:Str}{pos:Pos}(hN:X.N[i]? = some x:=by rfl)(hv:Jj X.env.scope x:=by first|exact Or.inl rfl|exact Or.inr (Or.inl rfl)|exact Or.inr (Or.inr rfl))(hd:(x == ("__debug__":Str))=false:=by decide)
   (nO:(x == ("__classdict__":Str))=false:=by decide):DE X (.Name x pos) (af i):=.of (PE.imp (Jn hN hv hd nO) λσ H Q h=>by
 obtain⟨ι,σd,g,d,g',G0,S0,h,p⟩:=h
 unfold af at h
 split at h
 . rename_i d' e
   obtain⟨rfl,rfl⟩:d'=d/\g=g':=by cases h;exact⟨rfl,rfl⟩
   obtain⟨v,h1,h2⟩:=S0.2 i _ e
   exact⟨v,h1,p H ι v Ext.refl G0 h2⟩
 . cases h)
theorem Hf {x:Str}{v:V}{u:Value}{d:D}(hg:Gl X x)(hm:X.mg x=some u)(r:RelV v u)(rd:∀K H ι,Rel K H ι d v)(hd:(x == ("__debug__":Str))=false:=by decide):DE X (.Name x pos) (fC d):=.of (
 PE.imp (wO hg hm r hd) λσ H Q h=>by
  obtain⟨ι,σd,g,d,g',G0,S0,h,p⟩:=h
  cases h;exact p H ι _ Ext.refl G0 (rd _ _ _))
inductive cG (K:KW)(o:D->D->G->Option (D×G))(x:V)(y:V)(H:Hp)(Q:VK):Prop
 |mk (ι:Ix) (g:G) (d1:D) (d2:D) (d:D) (g':G) (h0:az K H ι g) (h1:Rel K H ι d1 x) (h2:Rel K H ι d2 y) (h3:o d1 d2 g=some (d,g')) (h4:gA K H ι d g' Q):cG K o x y H Q
inductive Kr (K:KW)(o:D->G->Option (D×G))(x:V)(H:Hp)(Q:VK):Prop
 |mk (ι:Ix) (g:G) (d1:D) (d:D) (g':G) (h0:az K H ι g) (h1:Rel K H ι d1 x) (h2:o d1 g=some (d,g')) (h3:gA K H ι d g' Q):Kr K o x H Q
inductive ik (K:KW)(o:List D->G->Option (D×G))(xs:List V)(H:Hp)(Q:VK):Prop
 |mk (ι:Ix) (g:G) (ds:List D) (d:D) (g':G) (h0:az K H ι g) (h1:aj K H ι ds xs) (h2:o ds g=some (d,g')) (h3:gA K H ι d g' Q):ik K o xs H Q
noncomputable def aq (o:D->D->G->Option (D×G))(fa fb:FE):FE:=λσ g=>(fa σ g).bind λr=>(fb σ r.2).bind λq=>o r.1 q.1 q.2
noncomputable def mr (o:D->G->Option (D×G))(fa:FE):FE:=λσ g=>(fa σ g).bind λr=>o r.1 r.2
theorem bind_some {α β:Type}{x:Option α}{f:α->Option β}{b:β}(h:x.bind f=some b):∃a,x=some a/\f a=some b:=by
 cases x with
 |none=>cases h
 |some a=>exact⟨a,rfl,h⟩
theorem pf {K}{o:D->D->G->Option (D×G)}{σ:L2.St}{H:Hp}{Q:VK}(h:tD K (aq o fa fb) σ H Q):zZ (cG K o) (tD K fa) (tD K fb) σ H Q:=by
 obtain⟨ι,σd,g,d,g',G0,S0,h,p⟩:=h
 obtain⟨⟨d1,g1⟩,h1,h⟩:=bind_some h
 obtain⟨⟨d2,g2⟩,h2,h⟩:=bind_some h
 refine tD.bind G0 S0 h1 λH1 ι1 v e1 G1 S1 r1=>?_
 refine tD.bind G1 S1 h2 λH2 ι2 u e2 G2 S2 r2=>?_
 exact⟨ι2,g2,d1,d2,d,g',G2,Rel.ext e2 _ r1,r2,h,p.mono (e1.trans e2)⟩
theorem jm {op:Operator}{o:D->D->G->Option (D×G)}(ho:bz X (ZT op) (cG X.kw o))(ha:DE X a fa)(hb:DE X b fb):DE X (.BinOp a op b pos) (aq o fa fb):=.of (
 PE.imp (Ou ho ha.un hb.un) λσ H Q h=>pf h)
theorem Ao {op:CmpOp}{o:D->D->G->Option (D×G)}(ho:bz X (ZF op) (cG X.kw o))(ha:DE X a fa)(hb:DE X b fb)(hm:abD op b=false:=by first|exact Ks _|with_unfolding_all rfl):DE X (.Compare a [op] [b] pos) (aq o fa fb):=.of (
 PE.imp (GR ho ha.un hb.un hm) λσ H Q h=>pf h)
theorem OK {op:UnaryOp}{o:D->G->Option (D×G)}(ho:zY X (unaryOp op) (Kr X.kw o))(ha:DE X a fa):DE X (.UnaryOp op a pos) (mr o fa):=.of (
 PE.imp (Ov ho ha.un) λσ H Q h=>by
  obtain⟨ι,σd,g,d,g',G0,S0,h,p⟩:=h
  obtain⟨⟨d1,g1⟩,h1,h⟩:=bind_some h
  refine tD.bind G0 S0 h1 λH1 ι1 v e1 G1 S1 r1=>?_
  exact⟨ι1,g1,d1,d,g',G1,r1,h,p.mono e1⟩)
noncomputable def ja (r:Option (D×G)):Option (Bool×G):=r.bind λr=>match r.1 with|.bl b=>some (b,r.2)|_=>none
theorem lj {r:Option (D×G)}{b:Bool}{g:G}(h:ja r=some (b,g)):r=some (.bl b,g):=by
 obtain⟨⟨d,g1⟩,h1,h⟩:=bind_some h
 cases d with
 |bl k=>cases h;exact h1
 |_=>cases h
noncomputable def aH (f:FE):FT:=λσ g=>ja (f σ g)
theorem uw {K f}{σ:L2.St}{H:Hp}{Q:Bool->Hp->Prop}(h:kF K (aH f) σ H Q):oX (tD K f) σ H Q:=by
 obtain⟨ι,σd,g,b,g',G0,S0,h,p⟩:=h
 obtain⟨⟨d,g1⟩,h1,h⟩:=bind_some h
 cases d with
 |bl k =>
  cases h
  exact tD.bind G0 S0 h1 λH1 ι1 v e1 G1 S1 r1=>⟨b,by simpa[Rel]using r1,p H1 ι1 e1 G1⟩
 |_=>cases h
theorem ph {t t':TE}(i:∀σ H Q,t' σ H Q->t σ H Q){σ:L2.St}{H:Hp}{Q:Bool->Hp->Prop}(h:oX t' σ H Q):oX t σ H Q:=i σ H _ h
theorem Ap {op:CmpOp}{o:D->D->G->Option (D×G)}(ho:bz X (ZF op) (cG X.kw o))(ha:DE X a fa)(hb:DE X b fb)(hm:abD op b=false:=by first|exact Ks _|with_unfolding_all rfl):DT X (.Compare a [op] [b] pos) (aH (aq o fa fb)):=.of (
 PT.imp (GS ho ha.un hb.un hm) λσ H Q h=>ph (λ_ _ _=>pf) (uw h))
noncomputable def gU (o o':D->D->G->Option (D×G))(fa fb fc:FE):FE:=λσ g=>(fa σ g).bind λr=>(fb σ r.2).bind λq=>(ja (o r.1 q.1 q.2)).bind λk =>
 if k.1=true then(fc σ k.2).bind λw=>o' q.1 w.1 w.2 else some (.bl false,k.2)
theorem r_ {K}{o o':D->D->G->Option (D×G)}{σ:L2.St}{H:Hp}{Q:VK}(h:tD K (gU o o' fa fb fc) σ H Q):ud (cG K o) (cG K o') (tD K fa) (tD K fb) (tD K fc) σ H Q:=by
 obtain⟨ι,σd,g,d,g',G0,S0,h,p⟩:=h
 obtain⟨⟨d1,g1⟩,h1,h⟩:=bind_some h
 obtain⟨⟨d2,g2⟩,h2,h⟩:=bind_some h
 obtain⟨⟨k,g3⟩,h3,h⟩:=bind_some h
 have h3:=lj h3
 refine tD.bind G0 S0 h1 λH1 ι1 v e1 G1 S1 r1=>?_
 refine tD.bind G1 S1 h2 λH2 ι2 u e2 G2 S2 r2=>?_
 refine⟨ι2,g2,d1,d2,_,g3,G2,Rel.ext e2 _ r1,r2,h3,λH3 ι3 z e3 G3 r3=>⟨k,by simpa[Rel]using r3,?_⟩⟩
 clear h3
 cases k with
 |true =>
  simp only[if_true]at h ⊢
  obtain⟨⟨d4,g4⟩,h4,h⟩:=bind_some h
  refine tD.bind G3 (S2.ext e3) h4 λH4 ι4 w' e4 G4 S4 r4=>?_
  exact⟨ι4,g4,d2,d4,d,g',G4,Rel.ext (e3.trans e4) _ r2,r4,h,p.mono (e1.trans (e2.trans (e3.trans e4)))⟩
 |false =>
  simp only[Zh,if_false]at h ⊢
  cases h
  exact p H3 ι3 _ (e1.trans (e2.trans e3)) G3 (by simp[Rel])
theorem CG {op cu:CmpOp}{o o':D->D->G->Option (D×G)}(ho:bz X (ZF op) (cG X.kw o))(ig:bz X (ZF cu) (cG X.kw o'))(ha:DE X a fa)(hb:DE X b fb)(hc:DE X c fc)
  (hm:aeQ [op,cu] [b,c]=false:=by with_unfolding_all rfl):DE X (.Compare a [op,cu] [b,c] pos) (gU o o' fa fb fc):=.of (
 PE.imp (Co ho ig ha.un hb.un hc.un hm) λσ H Q h=>r_ h)
theorem CH {op cu:CmpOp}{o o':D->D->G->Option (D×G)}(ho:bz X (ZF op) (cG X.kw o))(ig:bz X (ZF cu) (cG X.kw o'))(ha:DE X a fa)(hb:DE X b fb)(hc:DE X c fc)
  (hm:aeQ [op,cu] [b,c]=false:=by with_unfolding_all rfl):DT X (.Compare a [op,cu] [b,c] pos) (aH (gU o o' fa fb fc)):=.of (
 PT.imp (Cp ho ig ha.un hb.un hc.un hm) λσ H Q h=>ph (λ_ _ _=>r_) (uw h))
noncomputable def kg (d:D)(g:G):Option Bool:=match d with
 |.aA=>some false
 |.bl b=>some b
 |.int i=>some (i != 0)
 |.tup xs=>some (!xs.isEmpty)
 |.lst xs=>some (!xs.isEmpty)
 |.dw=>some false
 |.ref n=>match g[n]? with|some xs=>some (!xs.isEmpty)|none=>none
 |.str _=>none
 |.aM _=>none
 |.fn _=>none
noncomputable def bW (f:FE):FT:=λσ g=>(f σ g).bind λr=>(kg r.1 r.2).map λb=>(b,r.2)
theorem aj.isEmpty {K H ι}{ds:List D}{vs:List V}(h:aj K H ι ds vs):ds.isEmpty=vs.isEmpty:=by
 have:=h.length
 cases ds<;>cases vs<;>simp_all
theorem Hg {K H ι g d v b}(G0:az K H ι g)(r:Rel K H ι d v)(h:kg d g=some b):Cq K v H b:=by
 cases d with
 |aA=>simp only[Rel]at r;subst r;cases h;rfl
 |bl x=>simp only[Rel]at r;subst r;cases h;rfl
 |int x=>simp only[Rel]at r;subst r;cases h;rfl
 |str x=>cases h
 |tup xs =>
  simp only[Rel]at r;obtain⟨a,vs,rfl,hq,hr⟩:=r;cases h
  exact .inr (.inl ⟨vs,hq.sq,by rw[hr.isEmpty]⟩)
 |lst xs =>
  simp only[Rel]at r;obtain⟨a,vs,rfl,hq,hr⟩:=r;cases h
  exact .inl ⟨vs,hq.sq,by rw[hr.isEmpty]⟩
 |dw =>
  simp only[Rel]at r;obtain⟨a,rfl,hq,_⟩:=r;cases h
  exact .inr (.inr ⟨[],hq,rfl⟩)
 |ref n =>
  simp only[Rel]at r;obtain⟨a,rfl,ha⟩:=r
  simp only[kg]at h
  split at h
  . rename_i xs e
    cases h
    obtain⟨vs,h1,h2⟩:=G0.at e ha
    exact .inl ⟨vs,.of h1,by rw[h2.isEmpty]⟩
  . cases h
 |aM n=>cases h
 |fn x=>cases h
theorem Kt (ha:DE X a fa)(he:∀whole,isTrue a X.env whole=(do let v <- whole;ad5 a.pos;abS [v] (truthy v)):=by intro _;rfl):DT X a (bW fa):=.of (
 PT.imp (Cr ha.un he) λσ H Q h=>by
  obtain⟨ι,σd,g,b,g',G0,S0,h,p⟩:=h
  obtain⟨⟨d,g1⟩,h1,h⟩:=bind_some h
  cases ht:kg d g1 with
  |none=>rw[ht]at h;cases h
  |some k =>
   rw[ht]at h;cases h
   exact tD.bind G0 S0 h1 λH1 ι1 v e1 G1 S1 r1=>⟨b,Hg G1 r1 ht,p H1 ι1 e1 G1⟩)
noncomputable def i4 (ga gb:FT):FT:=λσ g=>(ga σ g).bind λr=>if r.1=true then gb σ r.2 else some (false,r.2)
noncomputable def gW (ga gb:FT):FT:=λσ g=>(ga σ g).bind λr=>if r.1=true then some (true,r.2)else gb σ r.2
noncomputable def cz (ga:FT):FT:=λσ g=>(ga σ g).bind λr=>some (!r.1,r.2)
theorem Hh (ha:DT X a ga):DW X (.BoolOp .And [a] pos) ga:=.of (GH ha.un)
theorem Ku (ha:DT X a ga):DW X (.BoolOp .Or [a] pos) ga:=.of (Jr ha.un)
theorem Kv (ha:DT X a ga)(hb:DW X (.BoolOp .And (b::rest) pos) gb):DW X (.BoolOp .And (a::b::rest) pos) (i4 ga gb):=.of (
 PW.imp (Js ha.un hb.un) λσ H Q h=>by
  obtain⟨ι,σd,g,k,g',G0,S0,h,p⟩:=h
  obtain⟨⟨k1,g1⟩,h1,h⟩:=bind_some h
  refine kF.bind G0 S0 h1 λH1 ι1 e1 G1 S1=>?_
  cases k1 with
  |true=>simp only[if_true]at h ⊢;exact⟨ι1,σd,g1,k,g',G1,S1,h,p.mono e1⟩
  |false=>simp only[Zh,if_false]at h ⊢;cases h;exact p H1 ι1 e1 G1)
theorem OL (ha:DT X a ga)(hb:DW X (.BoolOp .Or (b::rest) pos) gb):DW X (.BoolOp .Or (a::b::rest) pos) (gW ga gb):=.of (
 PW.imp (Of ha.un hb.un) λσ H Q h=>by
  obtain⟨ι,σd,g,k,g',G0,S0,h,p⟩:=h
  obtain⟨⟨k1,g1⟩,h1,h⟩:=bind_some h
  refine kF.bind G0 S0 h1 λH1 ι1 e1 G1 S1=>?_
  cases k1 with
  |false=>simp only[Zh,if_false]at h ⊢;exact⟨ι1,σd,g1,k,g',G1,S1,h,p.mono e1⟩
  |true=>simp only[if_true]at h ⊢;cases h;exact p H1 ι1 e1 G1)
theorem DW.dt (h:DW X a ga):DT X a ga:=.of (PW.pt h.un)
theorem Kw (ha:DT X a ga):DT X (.UnaryOp .Not a pos) (cz ga):=.of (
 PT.imp (Jt ha.un) λσ H Q h=>by
  obtain⟨ι,σd,g,k,g',G0,S0,h,p⟩:=h
  obtain⟨⟨k1,g1⟩,h1,h⟩:=bind_some h
  cases h
  exact kF.bind G0 S0 h1 λH1 ι1 e1 G1 S1=>p H1 ι1 e1 G1)
noncomputable def dA (fa fb:FE):FE:=λσ g=>(ja (fa σ g)).bind λr=>if r.1=true then fb σ r.2 else some (.bl false,r.2)
noncomputable def mv (fa fb:FE):FE:=λσ g=>(ja (fa σ g)).bind λr=>if r.1=true then some (.bl true,r.2)else fb σ r.2
noncomputable def jn (fa:FE):FE:=λσ g=>(ja (fa σ g)).bind λr=>some (.bl (!r.1),r.2)
theorem Kx {op}(h:DE X a fa):DE X (.BoolOp op [a] pos) fa:=.of (Ju h.un)
theorem Aq (ha:DE X a fa)(hb:DE X (.BoolOp .And (b::rest) pos) fb):DE X (.BoolOp .And (a::b::rest) pos) (dA fa fb):=.of (
 PE.imp (Jv ha.un hb.un) λσ H Q h=>by
  obtain⟨ι,σd,g,d,g',G0,S0,h,p⟩:=h
  obtain⟨⟨k1,g1⟩,h1,h⟩:=bind_some h
  have h1:=lj h1
  refine tD.bind G0 S0 h1 λH1 ι1 v e1 G1 S1 r1=>⟨k1,by simpa[Rel]using r1,?_⟩
  cases k1 with
  |true=>simp only[if_true]at h ⊢;exact⟨ι1,σd,g1,d,g',G1,S1,h,p.mono e1⟩
  |false=>simp only[Zh,if_false]at h ⊢;cases h;exact p H1 ι1 _ e1 G1 (by simp[Rel]))
theorem Ez (ha:DE X a fa)(hb:DE X (.BoolOp .Or (b::rest) pos) fb):DE X (.BoolOp .Or (a::b::rest) pos) (mv fa fb):=.of (
 PE.imp (Oi ha.un hb.un) λσ H Q h=>by
  obtain⟨ι,σd,g,d,g',G0,S0,h,p⟩:=h
  obtain⟨⟨k1,g1⟩,h1,h⟩:=bind_some h
  have h1:=lj h1
  refine tD.bind G0 S0 h1 λH1 ι1 v e1 G1 S1 r1=>⟨k1,by simpa[Rel]using r1,?_⟩
  cases k1 with
  |false=>simp only[Zh,if_false]at h ⊢;exact⟨ι1,σd,g1,d,g',G1,S1,h,p.mono e1⟩
  |true=>simp only[if_true]at h ⊢;cases h;exact p H1 ι1 _ e1 G1 (by simp[Rel]))
theorem Ky (ha:DE X a fa):DE X (.UnaryOp .Not a pos) (jn fa):=.of (
 PE.imp (Jw ha.un) λσ H Q h=>by
  obtain⟨ι,σd,g,d,g',G0,S0,h,p⟩:=h
  obtain⟨⟨k1,g1⟩,h1,h⟩:=bind_some h
  have h1:=lj h1
  cases h
  exact tD.bind G0 S0 h1 λH1 ι1 v e1 G1 S1 r1=>⟨k1,by simpa[Rel]using r1,p H1 ι1 _ e1 G1 (by simp[Rel])⟩)
noncomputable def ux (ga:FT)(fa fb:FE):FE:=λσ g=>(ga σ g).bind λr=>if r.1=true then fa σ r.2 else fb σ r.2
theorem Kz (hc:DT X c ga)(ha:DE X a fa)(hb:DE X b fb):DE X (.IfExp c a b pos) (ux ga fa fb):=.of (
 PE.imp (Cd hc.un ha.un hb.un) λσ H Q h=>by
  obtain⟨ι,σd,g,d,g',G0,S0,h,p⟩:=h
  obtain⟨⟨k1,g1⟩,h1,h⟩:=bind_some h
  refine kF.bind G0 S0 h1 λH1 ι1 e1 G1 S1=>?_
  cases k1 with
  |true=>simp only[if_true]at h ⊢;exact⟨ι1,σd,g1,d,g',G1,S1,h,p.mono e1⟩
  |false=>simp only[Zh,if_false]at h ⊢;exact⟨ι1,σd,g1,d,g',G1,S1,h,p.mono e1⟩)
noncomputable def ag:FA:=λ_ g=>some ([],g)
noncomputable def aa (fa:FE)(fr:FA):FA:=λσ g=>(fa σ g).bind λr=>(fr σ r.2).bind λq=>some (r.1::q.1,q.2)
theorem uy:DA X [] ag:=.of (PA.imp oZ λσ H Q h=>by
 obtain⟨ι,σd,g,d,g',G0,S0,h,p⟩:=h
 cases h;exact p H ι _ Ext.refl G0 (by simp[aj]))
theorem nj (ha:DE X e fa)(hr:DA X es fr)(hs:Zv (e::es) X.env=(false,eval e X.env)::Zv es X.env:=by rfl):DA X (e::es) (aa fa fr):=.of (
 PA.imp (kB ha.un hr.un hs) λσ H Q h=>by
  obtain⟨ι,σd,g,d,g',G0,S0,h,p⟩:=h
  obtain⟨⟨d1,g1⟩,h1,h⟩:=bind_some h
  obtain⟨⟨d2,g2⟩,h2,h⟩:=bind_some h
  cases h
  refine tD.bind G0 S0 h1 λH1 ι1 v e1 G1 S1 r1=>?_
  refine ij.bind G1 S1 h2 λH2 ι2 u e2 G2 S2 r2=>?_
  refine p H2 ι2 _ (e1.trans e2) G2 ?_
  simp only[aj]
  exact⟨_,_,rfl,Rel.ext e2 _ r1,r2⟩)
noncomputable def aG (n:Nat):Bool:=decide (n<=16777216)
theorem aG.le {n:Nat}(h:aG n=true):n<=Zl:=by rw[aaU];exact of_decide_eq_true h
noncomputable def aJ (ds:List D)(g:G):Option (D×G):=if aG ds.length=true then some (.tup ds,g)else none
noncomputable def cj (ds:List D)(g:G):Option (D×G):=if aG ds.length=true then some (.lst ds,g)else none
noncomputable def mkRef (ds:List D)(g:G):Option (D×G):=if aG ds.length=true then some (.ref g.length,g ++ [ds])else none
theorem CI {K H ι g ds vs d g' Q}(G0:az K H ι g)(r:aj K H ι ds vs)(h:aJ ds g=some (d,g'))(p:gA K H ι d g' Q):vs.length<=Zl /\ ∀q,H q=none->Q (.ref q) (upd H q (.tup vs)):=by
 unfold aJ at h
 split at h
 . rename_i z
   cases h
   refine⟨by rw[<- r.length];exact aG.le z,λq hq=>p _ _ _ (Ext.lay hq) (G0.lay hq) ?_⟩
   simp only[Rel]
   exact⟨q,vs,rfl,.inl ⟨.inl bA,G0.fresh hq⟩,aj.ext (Ext.lay hq) _ r⟩
 . cases h
theorem CJ {K H ι g ds vs d g' Q}(G0:az K H ι g)(r:aj K H ι ds vs)(h:cj ds g=some (d,g'))(p:gA K H ι d g' Q):vs.length<=Zl /\ ∀q,H q=none->Q (.ref q) (upd H q (.lst vs)):=by
 unfold cj at h
 split at h
 . rename_i z
   cases h
   refine⟨by rw[<- r.length];exact aG.le z,λq hq=>p _ _ _ (Ext.lay hq) (G0.lay hq) ?_⟩
   simp only[Rel]
   exact⟨q,vs,rfl,.inl ⟨.inl bA,G0.fresh hq,G0.jE hq⟩,aj.ext (Ext.lay hq) _ r⟩
 . cases h
theorem CK {K H ι g ds vs d g' Q}(G0:az K H ι g)(r:aj K H ι ds vs)(h:mkRef ds g=some (d,g'))(p:gA K H ι d g' Q):vs.length<=Zl /\ ∀q,H q=none->Q (.ref q) (upd H q (.lst vs)):=by
 unfold mkRef at h
 split at h
 . rename_i z
   cases h
   refine⟨by rw[<- r.length];exact aG.le z,λq hq=>p _ _ _ (Ext.push hq) (G0.push hq r) ?_⟩
   simp only[Rel]
   exact⟨q,rfl,dZ.new G0.len⟩
 . cases h
noncomputable def aK (m:List D->G->Option (D×G))(fr:FA):FE:=λσ g=>(fr σ g).bind λr=>m r.1 r.2
theorem Ar {x1}(h:DA X es fr):DE X (.Tuple es x1 pos) (aK aJ fr):=.of (PE.imp (JY h.un) λσ H Q h=>by
 obtain⟨ι,σd,g,d,g',G0,S0,h,p⟩:=h
 obtain⟨⟨d1,g1⟩,h1,h⟩:=bind_some h
 exact ij.bind G0 S0 h1 λH1 ι1 v e1 G1 S1 r1=>CI G1 r1 h (p.mono e1))
theorem KA (h:DA X es fr):DE X (.List es pos) (aK cj fr):=.of (PE.imp (Aa h.un) λσ H Q h=>by
 obtain⟨ι,σd,g,d,g',G0,S0,h,p⟩:=h
 obtain⟨⟨d1,g1⟩,h1,h⟩:=bind_some h
 exact ij.bind G0 S0 h1 λH1 ι1 v e1 G1 S1 r1=>CJ G1 r1 h (p.mono e1))
theorem As (h:DA X es fr):DE X (.List es pos) (aK mkRef fr):=.of (PE.imp (Aa h.un) λσ H Q h=>by
 obtain⟨ι,σd,g,d,g',G0,S0,h,p⟩:=h
 obtain⟨⟨d1,g1⟩,h1,h⟩:=bind_some h
 exact ij.bind G0 S0 h1 λH1 ι1 v e1 G1 S1 r1=>CK G1 r1 h (p.mono e1))
end
inductive F where
 |nx|rt (d:D)|bk|ct
noncomputable abbrev FS:=Sg->G->Option (F×Sg×G)
noncomputable def tw (K:KW)(H:Hp)(ι:Ix)(r:F)(b5:Sg)(g':G)(Dn:Ends):Prop :=
 ∀H' ι',Ext H ι H' ι'->az K H' ι' g'->match r with
  |.nx=>∀σ',bR K H' ι' b5 σ'->Dn.nx σ' H'
  |.bk=>∀σ',bR K H' ι' b5 σ'->Dn.bk σ' H'
  |.ct=>∀σ',bR K H' ι' b5 σ'->Dn.ct σ' H'
  |.rt d=>∀v,Rel K H' ι' d v->Dn.rt v H'
inductive EA (K:KW)(f:FS)(Dn:Ends)(σ:L2.St)(H:Hp):Prop
 |mk (ι:Ix) (σd:Sg) (g:G) (r:F) (b5:Sg) (g':G) (h0:az K H ι g) (h1:bR K H ι σd σ) (h2:f σd g=some (r,b5,g')) (h3:tw K H ι r b5 g' Dn):EA K f Dn σ H
structure DS (X:Cx)(st:Stmt)(f:FS):Prop where of ::
 un:PS X st (EA X.kw f)
structure jW (X:Cx)(nW:List Stmt)(f:FS):Prop where of ::
 un:gR X nW (EA X.kw f)
theorem PS.imp {X:Cx}{e:Stmt}{t t':TS}(h:PS X e t)(i:∀Dn σ H,t' Dn σ H->t Dn σ H):PS X e t':=λpins s σ H Q I q=>h pins s σ H Q I (i Q σ H q)
theorem gR.imp {X:Cx}{e:List Stmt}{t t':TS}(h:gR X e t)(i:∀Dn σ H,t' Dn σ H->t Dn σ H):gR X e t':=λpins s σ H Q I q=>h pins s σ H Q I (i Q σ H q)
theorem tw.mono {K H ι H1 ι1 r b5 g' Dn}(e:Ext H ι H1 ι1)(p:tw K H ι r b5 g' Dn):tw K H1 ι1 r b5 g' Dn:=λH' ι' e' G'=>p H' ι' (e.trans e') G'
noncomputable def aN:FS:=λσ g=>some (.nx,σ,g)
noncomputable def aw (f1 f2:FS):FS:=λσ g=>(f1 σ g).bind λr=>match r.1 with|.nx=>f2 r.2.1 r.2.2|_=>some r
noncomputable def aF (f:FE):FS:=λσ g=>(f σ g).bind λr=>some (.rt r.1,σ,r.2)
noncomputable def cX (f:FE):FS:=λσ g=>(f σ g).bind λr=>some (.nx,σ,r.2)
noncomputable def bK (c:FT)(f1 f2:FS):FS:=λσ g=>(c σ g).bind λr=>if r.1=true then f1 σ r.2 else f2 σ r.2
section
variable {X:Cx}{st:Stmt}{rest:List Stmt}{f1 f2:FS}{e:Expr}{fe:FE}{pos:Pos}{gc:FT}
theorem Hi:jW X [] aN:=.of (gR.imp GI λDn σ H h=>by
 obtain⟨ι,σd,g,r,b5,g',G0,S0,h,p⟩:=h
 cases h
 exact p H ι Ext.refl G0 σ S0)
theorem CL (h1:DS X st f1)(h2:jW X rest f2):jW X (st::rest) (aw f1 f2):=.of (gR.imp (Ce h1.un h2.un) λDn σ H h=>by
 obtain⟨ι,σd,g,r,b5,g',G0,S0,h,p⟩:=h
 obtain⟨⟨r1,σ1,g1⟩,h1,h⟩:=bind_some h
 refine⟨ι,σd,g,r1,σ1,g1,G0,S0,h1,λH1 ι1 e1 G1=>?_⟩
 cases r1 with
 |nx=>exact λσ' S1=>⟨ι1,σ1,g1,r,b5,g',G1,S1,h,p.mono e1⟩
 |bk=>cases h;exact p H1 ι1 e1 G1
 |ct=>cases h;exact p H1 ι1 e1 G1
 |rt d=>cases h;exact p H1 ι1 e1 G1)
theorem Hj (h1:DS X st f1):jW X [st] f1:=.of (GJ h1.un)
theorem Hk:DS X (.Pass pos) aN:=.of (PS.imp GK λDn σ H h=>by
 obtain⟨ι,σd,g,r,b5,g',G0,S0,h,p⟩:=h
 cases h
 exact p H ι Ext.refl G0 σ S0)
theorem KC (he:DE X e fe):DS X (.Return (some e) pos) (aF fe):=.of (PS.imp (Jz he.un) λDn σ H h=>by
 obtain⟨ι,σd,g,r,b5,g',G0,S0,h,p⟩:=h
 obtain⟨⟨d1,g1⟩,h1,h⟩:=bind_some h
 cases h
 exact tD.bind G0 S0 h1 λH1 ι1 v e1 G1 S1 r1=>p H1 ι1 e1 G1 v r1)
theorem Hl (he:DE X e fe)(hs:abY e none pos.line X.env=pure false:=by rfl):DS X (.Expr e pos) (cX fe):=.of (PS.imp (GL he.un hs) λDn σ H h=>by
 obtain⟨ι,σd,g,r,b5,g',G0,S0,h,p⟩:=h
 obtain⟨⟨d1,g1⟩,h1,h⟩:=bind_some h
 cases h
 exact tD.bind G0 S0 h1 λH1 ι1 v e1 G1 S1 r1=>p H1 ι1 e1 G1 σ S1)
theorem KD {x j pos pos'}:DS X (.Expr (.Constant (.str x) j pos) pos') aN:=.of (PS.imp Jy λDn σ H h=>by
 obtain⟨ι,σd,g,r,b5,g',G0,S0,h,p⟩:=h
 cases h
 exact p H ι Ext.refl G0 σ S0)
theorem OM {c:Expr}{a b:List Stmt}(hc:DT X c gc)(ha:jW X a f1)(hb:jW X b f2):DS X (.If c a b pos) (bK gc f1 f2):=.of (PS.imp (Ol hc.un ha.un hb.un) λDn σ H h=>by
 obtain⟨ι,σd,g,r,b5,g',G0,S0,h,p⟩:=h
 obtain⟨⟨k,g1⟩,h1,h⟩:=bind_some h
 refine kF.bind G0 S0 h1 λH1 ι1 e1 G1 S1=>?_
 cases k with
 |true=>simp only[if_true]at h ⊢;exact⟨ι1,σd,g1,r,b5,g',G1,S1,h,p.mono e1⟩
 |false=>simp only[Zh,if_false]at h ⊢;exact⟨ι1,σd,g1,r,b5,g',G1,S1,h,p.mono e1⟩)
noncomputable abbrev FG:=D->Sg->G->Option (Sg×G)
noncomputable abbrev nX:=List D->Sg->G->Option (Sg×G)
inductive KG (K:KW)(f:FG)(v:V)(σ:L2.St)(H:Hp)(Q:(L2.St->Hp->Prop)):Prop
 |mk (ι:Ix) (σd:Sg) (g:G) (d:D) (b5:Sg) (g':G) (h0:az K H ι g) (h1:bR K H ι σd σ) (h2:Rel K H ι d v) (h3:f d σd g=some (b5,g')) (h4:∀H' ι' σ',Ext H ι H' ι'->az K H' ι' g'->bR K H' ι' b5 σ'->Q σ' H'):KG K f v σ H Q
inductive KH (K:KW)(f:nX)(v:List V)(σ:L2.St)(H:Hp)(Q:(L2.St->Hp->Prop)):Prop
 |mk (ι:Ix) (σd:Sg) (g:G) (d:List D) (b5:Sg) (g':G) (h0:az K H ι g) (h1:bR K H ι σd σ) (h2:aj K H ι d v) (h3:f d σd g=some (b5,g')) (h4:∀H' ι' σ',Ext H ι H' ι'->az K H' ι' g'->bR K H' ι' b5 σ'->Q σ' H'):KH K f v σ H Q
structure DG (X:Cx)(tg:Expr)(f:FG):Prop where of ::
 un:PG X tg (KG X.kw f)
structure Au (X:Cx)(tg:List Expr)(f:nX):Prop where of ::
 un:nQ X tg (KH X.kw f)
theorem PG.imp {X:Cx}{e:Expr}{t t':TG}(h:PG X e t)(i:∀v σ H Q,t' v σ H Q->t v σ H Q):PG X e t':=λpins s σ H v u Q I r q=>h pins s σ H v u Q I r (i v σ H Q q)
theorem nQ.imp {X:Cx}{e:List Expr}{t t':rQ}(h:nQ X e t)(i:∀v σ H Q,t' v σ H Q->t v σ H Q):nQ X e t':=λpins s σ H v u Q I r q=>h pins s σ H v u Q I r (i v σ H Q q)
noncomputable def gN (i:Nat):FG:=λd σ g=>some (σ.set i (some d),g)
theorem bR.set {K H ι σd σ d v}(S:bR K H ι σd σ)(r:Rel K H ι d v)(i:Nat):bR K H ι (σd.set i (some d)) (σ.set i (some v)):=by
 refine⟨by simp[S.1],λj d' q=>?_⟩
 by_cases e:i=j
 . subst e
   have hi:i < σd.length:=by
    by_cases hi:i < σd.length
    . exact hi
    . rw[acd.mpr (by simpa using hi)]at q;cases q
   rw[aao hi]at q
   cases q
   exact⟨v,by rw[aao (by rw[<- S.1];exact hi)],r⟩
 . rw[ZK e]at q ⊢
   exact S.2 j d' q
theorem w4 {i:Nat}{x:Str}(hN:X.N.Nodup)(hi:X.N[i]? = some x)(hx:Loc X.env.scope x)(hf:X.fn x=true\/X.env.scope.names.lookup x=some .local:=by first|exact .inl rfl|exact .inr rfl|assumption):DG X (.Name x pos) (gN i):=.of (
 PG.imp (GN hN hi hx hf) λv σ H Q h=>by
  obtain⟨ι,σd,g,d,b5,g',G0,S0,r,h,p⟩:=h
  cases h
  exact p H ι _ Ext.refl G0 (S0.set r i))
noncomputable def aP:nX:=λds σ g=>match ds with| []=>some (σ,g)|_=>none
noncomputable def au (t:FG)(u:nX):nX:=λds σ g=>match ds with|d::r=>(t d σ g).bind λq=>u r q.1 q.2| []=>none
theorem Hm:Au X [] aP:=.of (nQ.imp GO λv σ H Q h=>by
 obtain⟨ι,σd,g,d,b5,g',G0,S0,r,h,p⟩:=h
 cases d with
 |nil=>cases h;simp only[aj]at r;exact⟨r,p H ι _ Ext.refl G0 S0⟩
 |cons _ _=>cases h)
theorem CM {e:Expr}{es:List Expr}{t:FG}{u:nX}(h1:DG X e t)(h2:Au X es u)
  (hs:(aaw (e::es) X.env).map (·.2)=ab6 e X.env::(aaw es X.env).map (·.2):=by rfl):Au X (e::es) (au t u):=.of (nQ.imp (Ci h1.un h2.un hs) λv σ H Q h=>by
 obtain⟨ι,σd,g,d,b5,g',G0,S0,r,h,p⟩:=h
 cases d with
 |nil=>cases h
 |cons d ds =>
  simp only[aj]at r
  obtain⟨v0,vr,rfl,r0,rr⟩:=r
  obtain⟨⟨σ1,g1⟩,h1,h⟩:=bind_some h
  exact⟨v0,vr,rfl,ι,σd,g,d,σ1,g1,G0,S0,r0,h1,λH1 ι1 σ' e1 G1 S1=>⟨ι1,σ1,g1,ds,b5,g',G1,S1,aj.ext e1 _ rr,h,λH2 ι2 σ2 e2 G2 S2=>p H2 ι2 σ2 (e1.trans e2) G2 S2⟩⟩)
noncomputable def gT (n:Nat)(t:nX):FG:=λd σ g=>match d with|.tup xs=>if xs.length=n then t xs σ g else none|_=>none
theorem KI {es:List Expr}{k:Nat}{t:nX}{n:Nat}(hc:X.calm=true)(h:Au X es t)
  (hn:(aaw es X.env).length=n:=by rfl) (cU:(aaw es X.env).findIdx? (·.1)=none:=by rfl):DG X (.Tuple es k pos) (gT n t):=.of (PG.imp (JA hc h.un hn cU) λv σ H Q h=>by
 obtain⟨ι,σd,g,d,b5,g',G0,S0,r,h,p⟩:=h
 cases d with
 |tup xs =>
  simp only[Rel]at r
  obtain⟨a,vs,rfl,hq,hr⟩:=r
  simp only[gT]at h
  split at h
  . rename_i z
    exact⟨a,vs,rfl,hq.sq,by rw[<- hr.length];exact z,ι,σd,g,xs,b5,g',G0,S0,hr,h,p⟩
  . cases h
 |_=>cases h)
noncomputable def aC (f:FE)(t:FG):FS:=λσ g=>(f σ g).bind λr=>(t r.1 σ r.2).bind λq=>some (.nx,q.1,q.2)
theorem Hn {K t}{fe:FE}{Dn σ H}(h:EA K (aC fe t) Dn σ H):Cj (tD K fe) (KG K t) Dn σ H:=by
 obtain⟨ι,σd,g,r,b5,g',G0,S0,h,p⟩:=h
 obtain⟨⟨d1,g1⟩,h1,h⟩:=bind_some h
 obtain⟨⟨σ1,g2⟩,h2,h⟩:=bind_some h
 cases h
 exact tD.bind G0 S0 h1 λH1 ι1 v e1 G1 S1 r1=>⟨ι1,σd,g1,d1,σ1,g2,G1,S1,r1,h2,λH2 ι2 σ' e2 G2 S2=>p H2 ι2 (e1.trans e2) G2 σ' S2⟩
theorem uz {tg:Expr}{t:FG}(he:DE X e fe)(hg:DG X tg t)(hs:abi [tg] e pos.line X.env=pure false:=by rfl)(hw:aa2 [tg] e X.env=pure none:=by rfl)
 (h1:(aaw [tg] X.env).map (·.2)= [ab6 tg X.env]:=by rfl):DS X (.Assign [tg] e pos) (aC fe t):=.of (PS.imp (JC he.un hg.un hs hw h1) λDn σ H h=>Hn h)
theorem Av {i:Nat}{x:Str}{pos':Pos}(hN:X.N.Nodup)(hi:X.N[i]? = some x)(hx:Loc X.env.scope x)(he:DE X e fe)(hs:abY e (some (.Name x pos')) pos.line X.env=pure false:=by rfl)(hf:X.fn x=true\/X.env.scope.names.lookup x=some .local:=by first|exact .inl rfl|exact .inr rfl|assumption):
  DS X (.Assign [.Name x pos'] e pos) (aC fe (gN i)):=.of (PS.imp (JD hN hi hx he.un hs hf) λDn σ H h=>by
 obtain⟨ι,σd,g,r,b5,g',G0,S0,h,p⟩:=h
 obtain⟨⟨d1,g1⟩,h1,h⟩:=bind_some h
 cases h
 exact tD.bind G0 S0 h1 λH1 ι1 v e1 G1 S1 r1=>p H1 ι1 e1 G1 _ (S1.set r1 i))
noncomputable def putD (o i v:D)(g:G):Option G:=match o,i with
 |.ref n,.int k=>match g[n]? with
  |some xs=>match kC xs.length k with
   |some j=>some (g.set n (xs.set j v))
   |none=>none
  |none=>none
 |_,_=>none
end
noncomputable abbrev FI:=Sg->G->Option (List D×G)
structure il (H:Hp)(ι:Ix)(H':Hp)(ι':Ix):Prop where
 same:∀a o,H a=some o->a ∉ ι.ix->H' a=some o
 there:∀a,H a≠none->H' a≠none
 more:∃m,ι'.ix=ι.ix++m /\ ∀a∈m,H a=none
 cK:∃hs,ι'.hd=hs++ι.hd /\ ∀b∈hs,H b=none
 lT:∀i,i < ι.ix.length->ι'.kd i=ι.kd i
theorem Ext.eu {H ι H1 ι1}(e:Ext H ι H1 ι1):il H ι H1 ι1:=⟨e.same,e.there,e.more,⟨[],e.cK,λ_ z=>by simp at z⟩,e.lT⟩
theorem il.old {H ι H1 ι1}(a:il H ι H1 ι1){c:Addr}{o:HO}(h:H c=some o)(n:c ∉ ι.ix):c ∉ ι1.ix:=λz=>by
 obtain⟨m1,e1,f1⟩:=a.more
 rw[e1]at z
 rcases Ze.mp z with z|z
 . exact n z
 . rw[f1 c z]at h;cases h
theorem il.KJ {H ι H1 ι1}(a:il H ι H1 ι1){c:Addr}{o:HO}(h:H c=some o)(n:c ∉ ι.hd):c ∉ ι1.hd:=λz=>by
 obtain⟨m1,e1,f1⟩:=a.cK
 rw[e1]at z
 rcases Ze.mp z with z|z
 . rw[f1 c z]at h;cases h
 . exact n z
theorem il.at {H ι H1 ι1}(a:il H ι H1 ι1){i:Nat}{c:Addr}{b:Bool}(h:dZ ι i c b):dZ ι1 i c b:=by
 obtain⟨m1,e1,_⟩:=a.more
 have hl:=(Y7.mp h.1).1
 refine⟨?_,by rw[a.lT i hl];exact h.2⟩
 rw[e1,Zu hl];exact h.1
theorem kE.eu {K H ι H1 ι1 a xs}(e:il H ι H1 ι1)(h:kE K H ι a xs):kE K H1 ι1 a xs:=by
 rcases h with⟨h|⟨o,h⟩,n,k⟩|h
 . exact .inl ⟨.inl (e.same _ _ h n),e.old h n,e.KJ h k⟩
 . exact .inl ⟨.inr ⟨o,e.same _ _ h n⟩,e.old h n,e.KJ h k⟩
 . exact .inr h
theorem jD.eu {K H ι H1 ι1 a xs}(e:il H ι H1 ι1)(h:jD K H ι a xs):jD K H1 ι1 a xs:=by
 rcases h with⟨h|⟨o,h⟩,n⟩|h
 . exact .inl ⟨.inl (e.same _ _ h n),e.old h n⟩
 . exact .inl ⟨.inr ⟨o,e.same _ _ h n⟩,e.old h n⟩
 . exact .inr h
mutual
theorem Rel.eu {K H ι H1 ι1}(e:il H ι H1 ι1):∀(d:D) {v:V},Rel K H ι d v->Rel K H1 ι1 d v
 |.aA,v,h=>by simpa[Rel]using h
 |.bl _,v,h=>by simpa[Rel]using h
 |.int _,v,h=>by simpa[Rel]using h
 |.str _,v,h=>by simpa[Rel]using h
 |.tup xs,v,h=>by
  simp only[Rel]at h ⊢
  obtain⟨a,vs,e1,hq,hr⟩:=h
  exact⟨a,vs,e1,hq.eu e,aj.eu e xs hr⟩
 |.lst xs,v,h=>by
  simp only[Rel]at h ⊢
  obtain⟨a,vs,e1,hq,hr⟩:=h
  exact⟨a,vs,e1,hq.eu e,aj.eu e xs hr⟩
 |.dw,v,h=>by
  simp only[Rel]at h ⊢
  obtain⟨a,e1,hq,hr⟩:=h
  exact⟨a,e1,e.same _ _ hq hr,e.old hq hr⟩
 |.ref n,v,h=>by
  simp only[Rel]at h ⊢
  obtain⟨a,e1,hq⟩:=h
  exact⟨a,e1,e.at hq⟩
 |.aM n,v,h=>by
  simp only[Rel]at h ⊢
  obtain⟨a,e1,hq⟩:=h
  exact⟨a,e1,e.at hq⟩
 |.fn x,v,h=>by simpa[Rel]using h
theorem aj.eu {K H ι H1 ι1}(e:il H ι H1 ι1):∀(ds:List D) {vs:List V},aj K H ι ds vs->aj K H1 ι1 ds vs
 | [],vs,h=>by simpa[aj]using h
 |d::ds,vs,h=>by
  simp only[aj]at h ⊢
  obtain⟨v,vr,e1,hq,hr⟩:=h
  exact⟨v,vr,e1,Rel.eu e d hq,aj.eu e ds hr⟩
end
noncomputable def ll (K:KW)(J:It)(H:Hp)(ι:Ix)(ds:List D):Prop :=
 ∀(i:Nat) H1 ι1 g1,il H ι H1 ι1->az K H1 ι1 g1->(ds.length<=i->J.stop i H1) /\ ∀d,ds[i]? = some d->J.go i H1 /\ ∀x H2,J.ub i H1 x H2->Ext H1 ι1 H2 ι1/\az K H2 ι1 g1/\Rel K H2 ι1 d x
inductive P0 (K:KW)(f:FI)(σ:L2.St)(H:Hp)(R:(It->Hp->Prop)):Prop
 |mk (ι:Ix) (σd:Sg) (g:G) (ds:List D) (g':G) (h0:az K H ι g) (h1:bR K H ι σd σ) (h2:f σd g=some (ds,g')) (h3:∀H' ι' J,Ext H ι H' ι'->az K H' ι' g'->ll K J H' ι' ds->R J H'):P0 K f σ H R
structure DI (X:Cx)(tg iter:Expr)(f:FI):Prop where of ::
 un:PI X tg iter (P0 X.kw f)
theorem PI.imp {X:Cx}{tg e:Expr}{t t':TI}(h:PI X tg e t)(i:∀σ H Q,t' σ H Q->t σ H Q):PI X tg e t':=λpins s σ H Q I q=>h pins s σ H Q I (i σ H Q q)
theorem ll.lst {K H ι a vs ds}(hq:kE K H ι a vs)(hr:aj K H ι ds vs):ll K (Et K a) H ι ds:=λi H1 ι1 g1 e1 G1 =>
 ⟨λhl=>⟨vs,(hq.eu e1).sq,by rw[<- hr.length];exact hl⟩,λd hd=>by
  obtain⟨v,hv,rv⟩:=(aj.eu e1 _ hr).get hd
  refine⟨⟨vs,v,(hq.eu e1).sq,hv⟩,λx H2 y=>?_⟩
  obtain⟨rfl,y⟩:=y
  have:=y vs (hq.eu e1).sq
  rw[hv]at this;cases this
  exact⟨Ext.refl,G1,rv⟩⟩
theorem ll.RV {K H ι a vs ds}(hq:jD K H ι a vs)(hr:aj K H ι ds vs):ll K (JH K a) H ι ds:=λi H1 ι1 g1 e1 G1 =>
 ⟨λhl=>⟨vs,(hq.eu e1).sq,by rw[<- hr.length];exact hl⟩,λd hd=>by
  obtain⟨v,hv,rv⟩:=(aj.eu e1 _ hr).get hd
  refine⟨⟨vs,v,(hq.eu e1).sq,hv⟩,λx H2 y=>?_⟩
  obtain⟨rfl,y⟩:=y
  have:=y vs (hq.eu e1).sq
  rw[hv]at this;cases this
  exact⟨Ext.refl,G1,rv⟩⟩
theorem ll.cZ {K H ι}{lo:Int}{n:Nat}:ll K (zT lo n) H ι ((Y9 n).map λ(k:Nat)=>D.int (lo+k)):=λi H1 ι1 g1 e1 G1 =>
 ⟨λhl=>(by show n<=i;simpa using hl),λd hd=>by
  have hi:i<n:=by
   have:=(Y7.mp hd).1
   simpa using this
  refine⟨hi,λx H2 y=>?_⟩
  obtain⟨rfl,rfl⟩:=y
  have e:d=D.int (lo+i):=by simpa[ZS,aeE hi]using hd.symm
  subst e
  exact⟨Ext.refl,G1,by simp[Rel]⟩⟩
section
variable {X:Cx}{tg l a b:Expr}{fe:FE}{fr:FA}{pos p:Pos}
noncomputable def tx (f:FE):FI:=λσ g=>(f σ g).bind λr=>match r.1 with|.tup xs=>some (xs,r.2)|_=>none
noncomputable def tE (f:FE):FI:=λσ g=>(f σ g).bind λr=>match r.1 with|.lst xs=>some (xs,r.2)|_=>none
theorem KL (hl:DE X l fe):DI X tg l (tx fe):=.of (PI.imp (JI hl.un) λσ H Q h=>by
 obtain⟨ι,σd,g,ds,g',G0,S0,h,p⟩:=h
 obtain⟨⟨d1,g1⟩,h1,h⟩:=bind_some h
 cases d1 with
 |tup xs =>
  cases h
  refine tD.bind G0 S0 h1 λH1 ι1 v e1 G1 S1 r1=>?_
  simp only[Rel]at r1
  obtain⟨a,vs,rfl,hq,hr⟩:=r1
  exact⟨a,rfl,⟨vs,hq.sq⟩,p H1 ι1 _ e1 G1 (.RV hq hr)⟩
 |_=>cases h)
theorem KN (hl:DE X l fe):DI X tg l (tE fe):=.of (PI.imp (wR hl.un) λσ H Q h=>by
 obtain⟨ι,σd,g,ds,g',G0,S0,h,p⟩:=h
 obtain⟨⟨d1,g1⟩,h1,h⟩:=bind_some h
 cases d1 with
 |lst xs =>
  cases h
  refine tD.bind G0 S0 h1 λH1 ι1 v e1 G1 S1 r1=>?_
  simp only[Rel]at r1
  obtain⟨a,vs,rfl,hq,hr⟩:=r1
  exact⟨a,rfl,⟨vs,hq.sq⟩,p H1 ι1 _ e1 G1 (.lst hq hr)⟩
 |_=>cases h)
noncomputable def gH (i:Int):Bool:=abE i.natAbs 4611686018427387903
theorem gH.and {i:Int}(h:gH i=true):-(2 ^ 62)<=i/\i<2 ^ 62:=by
 have:=Z5 h
 omega
theorem gH.of {i:Int}(h1:-1000000<=i)(h2:i<=1000000):gH i=true:=aaR (by omega)
noncomputable def gI (fr:FA):FI:=λσ g=>(fr σ g).bind λr=>match r.1 with| [.int j]=>if gH j=true then some ((Y9 j.toNat).map λ(k:Nat)=>D.int (0+k),r.2)else none|_=>none
noncomputable def sf (fr:FA):FI:=λσ g=>(fr σ g).bind λr=>match r.1 with| [.int i,.int j]=>if(gH i&&gH j)=true then some ((Y9 (j-i).toNat).map λ(k:Nat)=>D.int (i+k),r.2)else none|_=>none
theorem ON (hg:Gl X "range")(hm:X.mg "range" = none)(ha:DA X [a] fr)(hs:Zv [a] X.env = [(false,eval a X.env)]:=by rfl):DI X tg (.Call (.Name "range" p) [a] [] pos) (gI fr):=.of (
 PI.imp (zV hg hm ha.un hs) λσ H Q h=>by
  obtain⟨ι,σd,g,ds,g',G0,S0,h,p⟩:=h
  obtain⟨⟨d1,g1⟩,h1,h⟩:=bind_some h
  refine ij.bind G0 S0 h1 λH1 ι1 v e1 G1 S1 r1=>?_
  dsimp only at h
  split at h
  . rename_i j
    split at h
    . rename_i z
      cases h
      simp only[aj,Rel]at r1
      obtain⟨_,_,rfl,rfl,rfl⟩:=r1
      exact⟨j,rfl,(gH.and z).1,(gH.and z).2,p H1 ι1 _ e1 G1 .cZ⟩
    . cases h
  . cases h)
theorem OO (hg:Gl X "range")(hm:X.mg "range" = none)(ha:DA X [a,b] fr)(hs:Zv [a,b] X.env = [(false,eval a X.env),(false,eval b X.env)]:=by rfl)(lO:Zv [b] X.env = [(false,eval b X.env)]:=by rfl):DI X tg (.Call (.Name "range" p) [a,b] [] pos) (sf fr):=.of (
 PI.imp (zW hg hm ha.un hs lO) λσ H Q h=>by
  obtain⟨ι,σd,g,ds,g',G0,S0,h,p⟩:=h
  obtain⟨⟨d1,g1⟩,h1,h⟩:=bind_some h
  refine ij.bind G0 S0 h1 λH1 ι1 v e1 G1 S1 r1=>?_
  dsimp only at h
  split at h
  . rename_i i j
    split at h
    . rename_i z
      rw[Y3]at z
      cases h
      simp only[aj,Rel]at r1
      obtain⟨_,_,rfl,rfl,_,_,rfl,rfl,rfl⟩:=r1
      exact⟨i,j,rfl,⟨(gH.and z.1).1,(gH.and z.1).2,(gH.and z.2).1,(gH.and z.2).2⟩,p H1 ι1 _ e1 G1 .cZ⟩
    . cases h
  . cases h)
noncomputable def forL (t:FG)(b:FS):List D->FS
 | [],σ,g=>some (.nx,σ,g)
 |d::ds,σ,g=>(t d σ g).bind λq=>(b q.1 q.2).bind λr=>match r.1 with
  |.nx=>forL t b ds r.2.1 r.2.2
  |.ct=>forL t b ds r.2.1 r.2.2
  |.bk=>some (.nx,r.2.1,r.2.2)
  |.rt d=>some (.rt d,r.2.1,r.2.2)
noncomputable def cS (i:FI)(t:FG)(b:FS):FS:=λσ g=>(i σ g).bind λr=>forL t b r.1 σ r.2
noncomputable def iQ (c:FT)(b:FS):Nat->FS
 | 0,_,_=>none
 |n+1,σ,g=>(c σ g).bind λk=>if k.1=true then(b σ k.2).bind λr=>match r.1 with
   |.nx=>iQ c b n r.2.1 r.2.2
   |.ct=>iQ c b n r.2.1 r.2.2
   |.bk=>some (.nx,r.2.1,r.2.2)
   |.rt d=>some (.rt d,r.2.1,r.2.2)
  else some (.nx,σ,k.2)
noncomputable def kG (n:Nat)(c:FT)(b:FS):FS:=iQ c b n
inductive KO (X:Cx)(gc:FT)(b:FS)(H:Hp)(ι:Ix)(r:F)(b5:Sg)(g':G)(m:Nat)(σ2:L2.St)(H2:Hp):Prop
 |mk (ι2:Ix) (lU:Sg) (g2:G) (e2:Ext H ι H2 ι2) (G2:az X.kw H2 ι2 g2) (S2:bR X.kw H2 ι2 lU σ2) (hf:iQ gc b m lU g2=some (r,b5,g')):KO X gc b H ι r b5 g' m σ2 H2
theorem CN {c:Expr}{body:List Stmt}{gc:FT}{b:FS}(n:Nat)(hp:acD (model X.prog X.w) X.A X.env X.xe)(hc:DT X c gc)(hb:jW X body b):DS X (.While c body [] pos) (kG n gc b):=.of (PS.imp (Ck hp hc.un hb.un) λDn σ H h=>by
 obtain⟨ι,σd,g,r,b5,g',G0,S0,h,p⟩:=h
 refine⟨KO X gc b H ι r b5 g',⟨n,ι,σd,g,Ext.refl,G0,S0,h⟩,?_⟩
 rintro m σ2 H2 ⟨ι2,lU,g2,e2,G2,S2,hf⟩
 cases m with
 |zero=>cases hf
 |succ m =>
  simp only[iQ]at hf
  obtain⟨⟨k,g3⟩,h3,hf⟩:=bind_some hf
  refine kF.bind G2 S2 h3 λH3 ι3 e3 G3 S3=>?_
  cases k with
  |false =>
   simp only[Zh,if_false]at hf ⊢
   cases hf
   exact p H3 ι3 (e2.trans e3) G3 σ2 S3
  |true =>
   simp only[if_true]at hf ⊢
   obtain⟨⟨r4,σ4,g4⟩,h4,hf⟩:=bind_some hf
   refine⟨KO X gc b H ι r b5 g' m,λσ5 H5 q=>⟨m,ab1 _,q⟩,?_⟩
   refine⟨ι3,lU,g3,r4,σ4,g4,G3,S3,h4,λH7 ι7 e7 G7=>?_⟩
   have lq:=e2.trans (e3.trans e7)
   cases r4 with
   |nx=>exact λσ' S7=>⟨ι7,σ4,g4,lq,G7,S7,hf⟩
   |ct=>exact λσ' S7=>⟨ι7,σ4,g4,lq,G7,S7,hf⟩
   |bk=>cases hf;exact λσ' S7=>p H7 ι7 lq G7 σ' S7
   |rt d=>cases hf;exact λv r7=>p H7 ι7 lq G7 v r7)
end
noncomputable abbrev Fn:=List D->G->Option (D×G)
noncomputable def mw (K:KW)(n:Nat)(fn:Fn):Sp:=λvs H Q _=>vs.length=n /\ ∃ι g ds d g',az K H ι g/\aj K H ι ds vs/\fn ds g=some (d,g')/\gA K H ι d g' Q
mutual
noncomputable def bB (n:Nat):D->Bool
 |.ref k=>decide (k<n)
 |.aM k=>decide (k<n)
 |.tup xs=>aW n xs
 |.lst xs=>aW n xs
 |_=>true
noncomputable def aW (n:Nat):List D->Bool
 | []=>true
 |d::ds=>bB n d&&aW n ds
end
noncomputable def settle (n:Nat)(d:D)(g':G):Option (D×G):=
 if g'.length=n then some (d,g')else
  if(g'.take n).all (aW n)then
   match d with
   |.ref k=>if k<n then some (d,g'.take n)else match g'[k]? with
    |some xs=>if aW n xs then some (.lst xs,g'.take n)else none
    |none=>none
   |d=>if bB n d then some (d,g'.take n)else none
  else none
noncomputable def aD (keep:Bool)(nN nP:Nat)(b:FS):Fn:=λds g =>
 if ds.length=nP then(b (ds.map some++Zo (nN-nP) none) g).bind λr=>match r.1 with
  |.rt d=>if keep then some (d,r.2.2)else settle g.length d r.2.2
  |.nx=>if keep then some (.aA,r.2.2)else settle g.length .aA r.2.2
  |_=>none
 else none
noncomputable def Ix.cut (ι:Ix)(n:Nat):Ix:=⟨ι.ix.take n,ι.hd,ι.kd⟩
mutual
theorem Rel.cut {K H ι}(n:Nat):∀(d:D) {v:V},bB n d=true->Rel K H ι d v->Rel K H (Ix.cut ι n) d v
 |.aA,v,_,h=>by simpa[Rel]using h
 |.bl _,v,_,h=>by simpa[Rel]using h
 |.int _,v,_,h=>by simpa[Rel]using h
 |.str _,v,_,h=>by simpa[Rel]using h
 |.tup xs,v,z,h=>by
  simp only[Rel]at h ⊢
  obtain⟨a,vs,e1,hq,hr⟩:=h
  refine⟨a,vs,e1,?_,aj.cut n xs z hr⟩
  rcases hq with⟨hq,hn⟩|hq
  . exact .inl ⟨hq,λm=>hn (aaH m)⟩
  . exact .inr hq
 |.lst xs,v,z,h=>by
  simp only[Rel]at h ⊢
  obtain⟨a,vs,e1,hq,hr⟩:=h
  refine⟨a,vs,e1,?_,aj.cut n xs z hr⟩
  rcases hq with⟨hq,hn,hh⟩|hq
  . exact .inl ⟨hq,λm=>hn (aaH m),hh⟩
  . exact .inr hq
 |.dw,v,_,h=>by
  simp only[Rel]at h ⊢
  obtain⟨a,e1,hq,hr⟩:=h
  exact⟨a,e1,hq,λm=>hr (aaH m)⟩
 |.ref k,v,z,h=>by
  simp only[Rel]at h ⊢
  obtain⟨a,e1,hq⟩:=h
  have z':k<n:=of_decide_eq_true z
  exact⟨a,e1,by show(ι.ix.take n)[k]? = some a;rw[ZH z'];exact hq.1,hq.2⟩
 |.aM k,v,z,h=>by
  simp only[Rel]at h ⊢
  obtain⟨a,e1,hq⟩:=h
  have z':k<n:=of_decide_eq_true z
  exact⟨a,e1,by show(ι.ix.take n)[k]? = some a;rw[ZH z'];exact hq.1,hq.2⟩
 |.fn x,v,_,h=>by simpa[Rel]using h
theorem aj.cut {K H ι}(n:Nat):∀(ds:List D) {vs:List V},aW n ds=true->aj K H ι ds vs->aj K H (Ix.cut ι n) ds vs
 | [],vs,_,h=>by simpa[aj]using h
 |d::ds,vs,z,h=>by
  simp only[aj]at h ⊢
  simp only[aW,Y3]at z
  obtain⟨v,vr,e1,hq,hr⟩:=h
  exact⟨v,vr,e1,Rel.cut n d z.1 hq,aj.cut n ds z.2 hr⟩
end
theorem az.cut {K H ι g}(n:Nat)(h:az K H ι g)(z:(g.take n).all (aW n)=true):az K H (Ix.cut ι n) (g.take n):=by
 refine⟨h.nd.sublist (afa _ _),by simp[Ix.cut,h.len],λb hb=>⟨λm=>(h.cK b hb).1 (aaH m),(h.cK b hb).2⟩,λi xs q=>?_⟩
 have hi:i<n:=by
  have:=(Y7.mp q).1
  rw[aaM]at this;omega
 rw[ZH hi]at q
 obtain⟨a,o,vs,h1,h2,ov,h3⟩:=h.at_ i xs q
 refine⟨a,o,vs,(by show(ι.ix.take n)[i]? = some a;rw[ZH hi];exact h1),h2,ov,aj.cut n xs ?_ h3⟩
 exact Zi.mp z xs (ZY (i:=i) (by rw[ZH hi];exact q))
theorem Ext.cut {H ι H' ι' n}(e:Ext H ι H' ι')(hn:ι.ix.length=n):Ext H ι H' (Ix.cut ι' n):=by
 obtain⟨m,e1,f⟩:=e.more
 refine⟨e.same,e.there,⟨[],?_,λ_ z=>by simp at z⟩,e.cK,e.lT⟩
 subst hn
 show ι'.ix.take _=_
 rw[e1];simp
theorem Aw {K H ι g H' ι' g' d P1 dd v}(G0:az K H ι g)(e:Ext H ι H' ι')(G1:az K H' ι' g')(r:Rel K H' ι' d v)(h:settle g.length d g'=some (dd,P1)):
   ∃kH,Ext H ι H' kH/\az K H' kH P1/\Rel K H' kH dd v:=by
 unfold settle at h
 split at h
 . cases h;exact⟨ι',e,G1,r⟩
 split at h
 . rename_i z
   refine⟨Ix.cut ι' g.length,e.cut G0.len,?_⟩
   have Gc:=G1.cut g.length z
   split at h
   . rename_i k
     split at h
     . rename_i hk
       cases h
       exact⟨Gc,Rel.cut _ _ (decide_eq_true hk) r⟩
     . rename_i hk
       split at h
       . rename_i xs hx
         split at h
         . rename_i hz
           cases h
           refine⟨Gc,?_⟩
           simp only[Rel]at r ⊢
           obtain⟨a,rfl,ha⟩:=r
           obtain⟨vs,hv,hr⟩:=G1.at hx ha
           refine⟨a,vs,rfl,.inl ⟨.inl hv,λm=>?_,λm=>(G1.cK a m).1 (ZY ha.1)⟩,aj.cut _ _ hz hr⟩
           obtain⟨j,hj,ej⟩:=aax.mp (show a∈ι'.ix.take g.length from m)
           have sg:j<g.length:=by rw[aaM]at hj;omega
           have uA:j < ι'.ix.length:=by rw[aaM]at hj;omega
           rw[afc]at ej
           obtain⟨pv,ek⟩:=Y7.mp ha.1
           have:j=k:=(adD G1.nd).mp (ej.trans ek.symm)
           omega
         . cases h
       . cases h
   . split at h
     . rename_i hz
       cases h
       exact⟨Gc,Rel.cut _ _ hz r⟩
     . cases h
 . cases h
section
variable {P:ZC}{w:World}{K:KW}{mg:Str->Option Value}{base:Heap}
theorem Ho {k n f fd ps}{fn:Fn}(hn:∀ds g,fn ds g=none):dN P K.w K.fr K.mg base i_ k f fd ps (mw K n fn):=
 ⟨λvs H Q E ⟨_,ι,g,ds,d,g',_,_,h,_⟩=>(by rw[hn]at h;cases h),λA outer s H args us vs Q E _ _ _ _ ⟨_,ι,g,ds,d,g',_,_,h,_⟩=>(by rw[hn]at h;cases h)⟩
theorem yL {K H ι ds vs}{N:List Str}(r:aj K H ι ds vs)(hl:ds.length<=N.length):bR K H ι (ds.map some++Zo (N.length-ds.length) none) (L2.start N vs):=by
 have e:=r.length
 refine⟨by unfold L2.start;simp[e],λi d q=>?_⟩
 have hi:i<ds.length:=by
  by_cases hi:i<ds.length
  . exact hi
  . rw[aaA (by simpa using hi),adN]at q
    split at q<;>cases q
 rw[Zu (by simpa using hi),ZS]at q
 cases hd:ds[i]? with
 |none=>rw[hd]at q;cases q
 |some d' =>
  rw[hd]at q;cases q
  obtain⟨v,hv,rv⟩:=r.get hd
  refine⟨v,?_,rv⟩
  unfold L2.start
  rw[Zu (by rw[Zr,<- e];exact hi),ZS,hv];rfl
theorem OP {x qual:Str}{st:Stmt}{f:Addr}{fd:aae}{N ps:List Str}{k:Nat}{keep:Bool}{b:FS}(F:wZ K.fr x qual st f fd)(S:jt N ps (bN st))(hN:ps.length<=N.length)
  (hb:∀(et:Value) (A:Zz) (outer:List Env) (s:Y4) (H:Hp) (E:XK),aO k (A.deeper (acK qual (bN st) s.heap.objs.size f et)) ->
   jW (mh i_ P K.w K.fr K.mg base N qual (bN st) f et A outer s H E).wQ (eZ st) b):dN P K.w K.fr K.mg base i_ (k+1) f fd ps (mw K ps.length (aD keep N.length ps.length b)):=by
 refine F.ok S (λvs H Q E h=>h.1) (λet A outer s H vs Q E hr h=>?_)
 obtain⟨hl,ι,g,ds,d,g',G0,r,h,p⟩:=h
 refine⟨_,(hb et A outer s H E hr).un,?_⟩
 unfold aD at h
 have o_:ds.length=ps.length:=by rw[r.length];exact hl
 rw[if_pos o_]at h
 obtain⟨⟨r1,σ1,g1⟩,h1,h⟩:=bind_some h
 refine⟨ι,_,g,r1,σ1,g1,G0,yL r (by rw[o_];exact hN),by rw[o_];exact h1,λH1 ι1 e1 G1=>?_⟩
 have fin:∀{dd v},Rel K H1 ι1 dd v->(if keep then some (dd,g1)else settle g.length dd g1)=some (d,g')->Q v H1:=fun {dd v} rv hh=>by
  cases keep with
  |true=>simp only[if_true]at hh;cases hh;exact p H1 ι1 v e1 G1 rv
  |false =>
   simp only[Zh,if_false]at hh
   obtain⟨ι2,e2,G2,r2⟩:=Aw G0 e1 G1 rv hh
   exact p H1 ι2 v e2 G2 r2
 cases r1 with
 |rt dd=>exact λv rv=>fin rv h
 |nx=>exact λσ' S'=>fin (v:=.aA) (by simp[Rel]) h
 |bk=>cases h
 |ct=>cases h
end
section
variable {X:Cx}{x:Str}{p pos:Pos}{e:Expr}{es:List Expr}{fr:FA}{k:Nat}{f:Addr}{fd:aae}{ps:List Str}{fn:Fn}{n:Nat}
noncomputable def ao (fn:Fn)(fr:FA):FE:=λσ g=>(fr σ g).bind λr=>fn r.1 r.2
theorem uB {K}{n:Nat}(hn:∀ds g r,fn ds g=some r->ds.length=n){σ:L2.St}{H:Hp}{Q:VK}(h:tD K (ao fn fr) σ H Q):yE (mw K n fn) [] E0 (ij K fr) σ H Q:=by
 obtain⟨ι,σd,g,d,g',G0,S0,h,p⟩:=h
 obtain⟨⟨ds,g1⟩,h1,h⟩:=bind_some h
 refine ij.bind G0 S0 h1 λH1 ι1 vs e1 G1 S1 r1=>?_
 rw[abI]
 exact⟨by rw[<- r1.length];exact hn _ _ _ h,ι1,g1,ds,d,g',G1,r1,h,p.mono e1⟩
theorem Hq (F:dN X.prog X.w X.kw X.mg X.base i_ k f fd ps (mw X.kw n fn))(hr:aO k X.A)(hm:X.mg x=some (.ref f))(hk:PySem.W.keepIn X.kw (.ref f)=true)(hb:Binds X.kw fd ps [])(hn:∀ds g r,fn ds g=some r->ds.length=n)
  (ha:DA X (e::es) fr) (hg:Gl X x:=by rfl) (jz:(x == ("__debug__":Str))=false:=by decide) (he:Zv (e::es) X.env=(false,eval e X.env)::Zv es X.env:=by rfl) (jV:(abw pos (Zv es X.env)).any (·.1)=false:=by rfl):
  DE X (.Call (.Name x p) (e::es) [] pos) (ao fn fr):=.of (
 PE.imp (GU F hr hg hm hk hb .nil Ey ha.un jz he jV) λσ H Q h=>uB hn h)
theorem CO (F:dN X.prog X.w X.kw X.mg X.base i_ k f fd ps (mw X.kw n fn))(hr:aO k X.A)(hm:X.mg x=some (.ref f))(hk:PySem.W.keepIn X.kw (.ref f)=true)(hb:Binds X.kw fd ps [])(hn:∀ds g r,fn ds g=some r->ds.length=n)
  (hg:Gl X x:=by rfl) (jz:(x == ("__debug__":Str))=false:=by decide):
  DE X (.Call (.Name x p) [] [] pos) (ao fn ag):=.of (
 PE.imp (Ct F hr hg hm hk hb .nil Ey jz) λσ H Q h=>by
  have q:=uB hn h
  obtain⟨ι,σd,g,d,g',G0,S0,h,p⟩:=q
  cases h
  exact p H ι [] Ext.refl G0 (by simp[aj]))
theorem sj {keep:Bool}{nN nP:Nat}{b:FS}:∀ds g r,aD keep nN nP b ds g=some r->ds.length=nP:=λds g r h=>by
 unfold aD at h
 split at h
 . assumption
 . cases h
theorem CP {id:String}{o:Fn}(hc:cA X (.builtin id) (ik X.kw o))(hm:X.mg x=none)(hv:aaK x=some (.builtin id))(ha:DA X (e::es) fr)(hg:Gl X x:=by rfl)(hn:x ≠ "__name__":=by decide)(jz:(x == ("__debug__":Str))=false:=by decide)
  (he:Zv (e::es) X.env=(false,eval e X.env)::Zv es X.env:=by rfl) (jV:(abw pos (Zv es X.env)).any (·.1)=false:=by rfl):DE X (.Call (.Name x p) (e::es) [] pos) (ao o fr):=.of (
 PE.imp (ug hc hg hm hv ha.un hn jz he jV) λσ H Q h=>by
  obtain⟨ι,σd,g,d,g',G0,S0,h,p⟩:=h
  obtain⟨⟨ds,g1⟩,h1,h⟩:=bind_some h
  exact ij.bind G0 S0 h1 λH1 ι1 vs e1 G1 S1 r1=>⟨ι1,g1,ds,d,g',G1,r1,h,p.mono e1⟩)
theorem Ax {T:String}{o:Fn}(hc:cA X (.type T) (ik X.kw o))(hm:X.mg x=none)(hv:aaK x=some (.type T))(ha:DA X (e::es) fr)(hg:Gl X x:=by rfl)(hn:x ≠ "__name__":=by decide)(jz:(x == ("__debug__":Str))=false:=by decide)
  (he:Zv (e::es) X.env=(false,eval e X.env)::Zv es X.env:=by rfl) (jV:(abw pos (Zv es X.env)).any (·.1)=false:=by rfl):DE X (.Call (.Name x p) (e::es) [] pos) (ao o fr):=.of (
 PE.imp (Af hc hg hm hv ha.un hn jz he jV) λσ H Q h=>by
  obtain⟨ι,σd,g,d,g',G0,S0,h,p⟩:=h
  obtain⟨⟨ds,g1⟩,h1,h⟩:=bind_some h
  exact ij.bind G0 S0 h1 λH1 ι1 vs e1 G1 S1 r1=>⟨ι1,g1,ds,d,g',G1,r1,h,p.mono e1⟩)
end
noncomputable def kh (scope:Scope)(env:Env):List (Str×Addr):=(scope.names.filterMap λx=>if x.2 == .free then(env.cells.lookup x.1).map λc=>(x.1,c)else none).reverse
theorem sX {scope:Scope}{env:Env}(h:∀x∈scope.names,x.2 = .free->∃c,env.cells.lookup x.1=some c):closureFor scope env=pure (kh scope env):=by
 have key:∀(l:List (Str×aa6)) (acc:List (Str×Addr)),(∀x∈l,x.2 = .free->∃c,env.cells.lookup x.1=some c) ->
   (forIn l acc λx r=>if(x.2 == aaj)=true then(do let c <- cellOf env x.1;pure (aaX ((x.1,c)::r)))else pure (aaX r):Sem (List (Str×Addr)))=
     pure ((l.filterMap λx=>if x.2 == .free then(env.cells.lookup x.1).map λc=>(x.1,c)else none).reverse++acc):=by
  intro l
  induction l with
  |nil=>intro acc _;rfl
  |cons x r ih =>
   intro acc hx
   rw[acN]
   by_cases hk:x.2 = .free
   . obtain⟨c,hc⟩:=hx x Zp hk
     have hb:(x.2 == aaj)=true:=by rw[hk];rfl
     rw[if_pos hb]
     simp only[cellOf,hc,pure_bind,aag,hb,if_true,ZP,abP,aaI,abU]
     exact ih _ λy hy=>hx y (Zs _ hy)
   . have hb:(x.2 == aaj)=false:=by simpa using hk
     simp only[hb,Zh,if_false,pure_bind,aag]
     exact ih _ λy hy=>hx y (Zs _ hy)
 have:=key scope.names [] h
 rw[abI]at this
 unfold closureFor kh
 simp only[bind_pure_comp]at this ⊢
 first
  | (simpa using this)
  |exact this
noncomputable def cellsOf (scope:Scope)(env:Env)(C:Addr):List (Str×Addr):=aal (C+1) scope.names (kh scope env)
theorem kI {n:Nat}{y:Str}{k:aa6}{r:List (Str×aa6)}{acc:List (Str×Addr)}:aal n ((y,k)::r) acc=if(k == Z9)=true then aal (n+1) r ((y,n)::acc)else aal n r acc:=rfl
theorem jX {x:Str}{c:Addr}:∀{names:List (Str×aa6)} {n:Nat} {acc:List (Str×Addr)},(aal n names acc).lookup x=some c->((x,Z9)∈names/\n<=c)\/(acc.lookup x=some c/\(x,Z9) ∉ names)
 | [],_,_,h=>.inr ⟨h,by simp⟩
 | (y,k)::r,n,acc,h=>by
  rw[kI]at h
  split at h
  . rename_i hk
    have hk:k=Z9:=by simpa using hk
    subst hk
    rcases jX h with⟨h1,h2⟩|⟨h1,h2⟩
    . exact .inl ⟨Zs _ h1,by omega⟩
    . by_cases e:x=y
      . subst e
        rw[ZQ,show(x == x)=true by simp]at h1
        cases h1
        exact .inl ⟨Zp,Za _⟩
      . rw[ZQ,show(x == y)=false by simpa using e]at h1
        exact .inr ⟨h1,λz=>by rcases Zd.mp z with z|z;(cases z;exact e rfl);exact h2 z⟩
  . rename_i hk
    rcases jX h with⟨h1,h2⟩|⟨h1,h2⟩
    . exact .inl ⟨Zs _ h1,h2⟩
    . exact .inr ⟨h1,λz=>by rcases Zd.mp z with z|z;(cases z;exact hk rfl);exact h2 z⟩
theorem pA {x:Str}{c:Addr}:∀{names:List (Str×aa6)} {n:Nat} {acc:List (Str×Addr)},(x,Z9) ∉ names->acc.lookup x=some c->(aal n names acc).lookup x=some c
 | [],_,_,_,h=>h
 | (y,k)::r,n,acc,hn,h=>by
  have hr:(x,Z9) ∉ r:=λz=>hn (Zs _ z)
  rw[kI]
  split
  . rename_i hk
    have hk:k=Z9:=by simpa using hk
    subst hk
    refine pA hr ?_
    have e:x≠y:=λe=>hn (by rw[e];exact Zp)
    rw[ZQ,show(x == y)=false by simpa using e]
    exact h
  . exact pA hr h
theorem uC {x:Str}:∀{names:List (Str×aa6)} {n:Nat} {acc:List (Str×Addr)},((x,Z9)∈names \/ ∃c,acc.lookup x=some c)->∃c,(aal n names acc).lookup x=some c
 | [],_,_,h=>by rcases h with h|h;(cases h);exact h
 | (y,k)::r,n,acc,h=>by
  rw[kI]
  split
  . rename_i hk
    refine uC ?_
    rcases h with h|⟨c,h⟩
    . rcases Zd.mp h with z|z
      . cases z;exact .inr ⟨n,by simp⟩
      . exact .inl z
    . right
      rw[ZQ]
      split
      . exact⟨_,rfl⟩
      . exact⟨c,h⟩
  . rename_i hk
    refine uC ?_
    rcases h with h|h
    . rcases Zd.mp h with z|z
      . cases z;exact absurd rfl hk
      . exact .inl z
    . exact .inr h
theorem uD:∀{names:List (Str×aa6)} {n:Nat} {acc:List (Str×Addr)},(∀x c,acc.lookup x=some c->c<n)->(∀x y c,acc.lookup x=some c->acc.lookup y=some c->x=y)->∀x y c,(aal n names acc).lookup x=some c->(aal n names acc).lookup y=some c->x=y
 | [],_,_,_,hi=>hi
 | (z,k)::r,n,acc,hl,hi=>by
  intro x y c
  rw[kI]
  split
  . refine uD (λx c h=>?_) (λx y c h1 h2=>?_) x y c
    . rw[ZQ]at h
      split at h
      . cases h;exact ab1 _
      . exact ZW (hl x c h)
    . rw[ZQ]at h1 h2
      split at h1
      . rename_i e1
        cases h1
        split at h2
        . rename_i e2
          rw[eq_of_beq e1,eq_of_beq e2]
        . exact absurd (hl y _ h2) (aaz _)
      . split at h2
        . cases h2;exact absurd (hl x _ h1) (aaz _)
        . exact hi x y c h1 h2
  . exact uD hl hi x y c
theorem oA {M:Model}{A:Zz}{E:Value->Y4->Prop}:∀(names:List (Str×aa6)) (acc:List (Str×Addr)) (s:Y4) (Q:List (Str×Addr)->Y4->Prop),
  (∀x c,acc.lookup x=some c->c<s.heap.objs.size) ->
  (∀h',(∀b o,s.heap.get? b=some o->h'.get? b=some o)->(∀x c,(aal s.heap.objs.size names acc).lookup x=some c->s.heap.objs.size<=c->h'.IsCell c none)->Q (aal s.heap.objs.size names acc) { s with heap:=h' }) ->
  wpAny M A (forIn names acc λx r=>if(x.2 == Z9)=true then(do let c <- alloc { cls:=Z3 "cell",data:=ac6 none };pure (aaX ((x.1,c)::r)))else pure (aaX r)) Q E s
 | [],acc,s,Q,hl,h=>by
  rw[ad9]
  exact Y5 (h s.heap (λ_ _ e=>e) λx c e1 e2=>absurd (hl x c e1) (Nat.not_lt.mpr e2))
 | (y,k)::r,acc,s,Q,hl,h=>by
  rw[acN]
  rw[kI]at h
  dsimp only
  split
  . rename_i hk
    rw[if_pos hk]at h
    refine xv (xv (afn (Y5 ?_)))
    have sz:(s.heap.push { cls:=Z3 "cell",data:=ac6 none }).objs.size=s.heap.objs.size+1:=aaS ..
    refine oA r _ _ Q (λx c e=>?_) λh' k1 k2=>?_
    . show c<(s.heap.push _).objs.size
      rw[sz]
      rw[ZQ]at e
      split at e
      . cases e;exact ab1 _
      . exact ZW (hl x c e)
    . have k2:∀x c,(aal (s.heap.push { cls:=Z3 "cell",data:=ac6 none }).objs.size r ((y,s.heap.objs.size)::acc)).lookup x=some c->(s.heap.push { cls:=Z3 "cell",data:=ac6 none }).objs.size<=c->h'.IsCell c none:=k2
      show Q (aal (s.heap.push { cls:=Z3 "cell",data:=ac6 none }).objs.size r ((y,s.heap.objs.size)::acc)) _
      rw[sz]at k2 ⊢
      refine h h' (λb o e=>k1 b o (Y6 _ e)) λx c e1 e2=>?_
      rcases Nat.lt_or_eq_of_le e2 with e3|e3
      . exact k2 x c e1 e3
      . subst e3
        exact⟨_,k1 _ _ (Zg _ rfl),rfl⟩
  . rename_i hk
    rw[if_neg hk]at h
    refine xv (Y5 ?_)
    exact oA r acc s Q hl h
theorem wC {M:Model}{A:Zz}{E:Value->Y4->Prop}{s:Y4}{scope:Scope}{env:Env}{gl:Addr}{cl:List (Str×Addr)}{qual:Str}{Q:Env->Y4->Prop}(hl:∀x c,cl.lookup x=some c->c<s.heap.objs.size)
   (h:∀h4:Heap,h4.Ns s.heap.objs.size (λ_=>none)->(∀b o,s.heap.get? b=some o->h4.get? b=some o)->(∀x c,(aal (s.heap.objs.size+1) scope.names cl).lookup x=some c->s.heap.objs.size+1<=c->h4.IsCell c none) ->
    Q (newEnv scope s.heap.objs.size gl (aal (s.heap.objs.size+1) scope.names cl) qual none abF (some env) adt) { s with heap:=h4 }):
   wpAny M A (newFunctionEnv scope gl cl [] qual none abF (some env)) Q E s:=by
 unfold newFunctionEnv
 have sz:∀o:Obj,(s.heap.push o).objs.size=s.heap.objs.size+1:=λo=>aaS ..
 refine xv (afn (xv ?_))
 refine oA scope.names cl _ _ (λx c e=>?_) λh' k1 k2=>?_
 . show c<(s.heap.push _).objs.size
   rw[sz];exact ZW (hl x c e)
 . refine xv ?_
   rw[ad9]
   refine Y5 (Y5 ?_)
   have k2:∀x c,(aal (s.heap.push { cls:=Z3 (if(some env).isSome=true then "dict" else "frame"),data:=aeT #[] }).objs.size scope.names cl).lookup x=some c->(s.heap.push { cls:=Z3 (if(some env).isSome=true then "dict" else "frame"),data:=aeT #[] }).objs.size<=c->h'.IsCell c none:=k2
   rw[sz]at k2
   have:=h h' ⟨_,_,_,k1 _ _ (Zg _ rfl),rfl,by intro k hk;simp at hk,λ_=>rfl⟩ (λb o e=>k1 b o (Y6 _ e)) k2
   show Q (newEnv scope s.heap.objs.size gl (aal (s.heap.push { cls:=Z3 (if(some env).isSome=true then "dict" else "frame"),data:=aeT #[] }).objs.size scope.names cl) qual none abF (some env) adt) { s with heap:=h' }
   rw[sz]
   exact this
noncomputable def bP (X:Cx)(N:List Str)(scope:Scope)(C:Addr)(s3:Y4)(H:Hp)(fp:List Addr)(pins:List (Addr×Obj)):Cx where
 prog:=X.prog
 w:=X.w
 K:=X.kw
 mg:=X.mg
 base:=X.base
 A:=X.A
 N:=N
 s₀:=s3
 H₀:=H
 env:=compEnvC scope (cellsOf scope X.env C) C X.env
 outer:=X.stack
 stack:=X.stack
 ex:=fp
 calm:=X.calm
 fn:=λx=>scope.names.any λy=>y.1 == x&&y.2 == .cell
 pn:=X.pn++pins
 xe:=λ_ _=>False
structure fF (X:Cx)(N:List Str)(fr:List (Option Nat))(scope:Scope):Prop where
 kind:scope.kind = .function
 cells:∀y∈scope.names,y.2 = .cell->scope.names.lookup y.1=some .cell
 names:∀y∈scope.names,y.2 = .local->scope.names.lookup y.1=some .local
 free:∀y∈scope.names,y.2 = .free->scope.names.lookup y.1=some .free/\(X.env.kindOf y.1=some .cell\/X.env.kindOf y.1=some .free)
 len:fr.length=N.length
 slots:∀(j i:Nat),fr[j]? = some (some i)->∃x,N[j]? = some x/\X.N[i]? = some x/\scope.names.lookup x=some .free
noncomputable def bL {α:Type}(fr:List (Option Nat))(σ:List (Option α)):List (Option α):=fr.map λo=>match o with|some i=>(σ[i]?).join|none=>none
theorem uE {scope:Scope}{env:Env}:(adB scope env).kind=scope.kind:=rfl
theorem CQ {scope:Scope}{env:Env}{x:Str}{c:Addr}(h:(x,c)∈kh scope env):(x,aaj)∈scope.names/\env.cells.lookup x=some c:=by
 unfold kh at h
 rw[acy,abH]at h
 obtain⟨y,hy,e⟩:=h
 split at e
 . rename_i hk
   cases hc:env.cells.lookup y.1 with
   |none=>rw[hc]at e;cases e
   |some c' =>
    rw[hc]at e
    cases e
    have:y.2=aaj:=by simpa using hk
    exact⟨by rw[<- this];exact hy,hc⟩
 . cases e
theorem lV {α:Type}:∀{l:List (Str×α)} {x:Str} {c:α},(x,c)∈l->∃d,l.lookup x=some d
 | [],_,_,h=>nomatch h
 | (y,d)::r,x,c,h=>by
  by_cases e:x=y
  . subst e;exact⟨d,by simp⟩
  . rcases Zd.mp h with z|z
    . cases z;exact absurd rfl e
    . obtain⟨d',q⟩:=lV z
      exact⟨d',by rw[ZQ];simp[show(x == y)=false by simpa using e,q]⟩
theorem e_ {scope:Scope}{env:Env}{x:Str}{c:Addr}(h:(kh scope env).lookup x=some c):(x,aaj)∈scope.names/\env.cells.lookup x=some c:=CQ (PySem.mem_of_lookup h)
theorem uF {scope:Scope}{env:Env}{x:Str}{c:Addr}(hx:(x,aaj)∈scope.names)(hc:env.cells.lookup x=some c):(kh scope env).lookup x=some c:=by
 have m:(x,c)∈kh scope env:=by
  unfold kh
  rw[acy,abH]
  exact⟨_,hx,by simp[hc]⟩
 obtain⟨d,q⟩:=lV m
 have:=(e_ q).2
 rw[hc]at this;cases this
 exact q
theorem uG {scope:Scope}{env:Env}{x:Str}(h:(adB scope env).names.lookup x=some .cell\/(adB scope env).names.lookup x=some .free):(x,aaj)∈scope.names\/(x,Z9)∈scope.names:=by
 have m:∃k,(x,k)∈(adB scope env).names/\(k = .cell\/k = .free):=by
   rcases h with h|h
   . exact⟨_,PySem.mem_of_lookup h,.inl rfl⟩
   . exact⟨_,PySem.mem_of_lookup h,.inr rfl⟩
 obtain⟨k,m,hk⟩:=m
 unfold adB at m
 rw[Zc]at m
 obtain⟨⟨n,k'⟩,hm,e⟩:=m
 dsimp only at e
 split at e
 . rename_i z
   cases e
   simp only[Y3]at z
   have:k'=aaj:=by simpa using z.1.1
   subst this
   exact .inl hm
 . cases e
   rcases hk with rfl|rfl
   . exact .inr hm
   . exact .inl hm
theorem ip {env:Env}:∀{names:List (Str×aa6)} {x:Str},names.lookup x=some .free ->
  (names.map λ(n,k)=>if(k == aaj&&env.scope.kind == .function&&env.kindOf n == some .cell)then(n,Z9)else(n,k)).lookup x=some .cell \/
  (names.map λ(n,k)=>if(k == aaj&&env.scope.kind == .function&&env.kindOf n == some .cell)then(n,Z9)else(n,k)).lookup x=some .free
 | [],_,h=>by simp at h
 | (n,k)::r,x,h=>by
  have ih:=@ip env r x
  show List.lookup x ((if(k == aaj&&env.scope.kind == .function&&env.kindOf n == some .cell)=true then(n,Z9)else(n,k))::_)=_\/List.lookup x ((if(k == aaj&&env.scope.kind == .function&&env.kindOf n == some .cell)=true then(n,Z9)else(n,k))::_)=_
  cases hx:x == n with
  |true =>
   simp only[ZQ,hx]at h
   cases h
   split
   . left;simp[ZQ,hx]
   . right;simp[ZQ,hx]
  |false =>
   simp only[ZQ,hx]at h
   split
   . simp only[ZQ,hx];exact ih h
   . simp only[ZQ,hx];exact ih h
section
variable {X:Cx}{pins:List (Addr×Obj)}{σ:L2.St}{H:Hp}{s3:Y4}
theorem OQ {scope:Scope}(I:Inv X pins σ H s3):∀x c,(kh scope X.env).lookup x=some c->c<s3.heap.objs.size:=λx c e=>by
 obtain⟨v,o,eo,_⟩:=I.cell x c (e_ e).2
 exact Zf eo
theorem yM {N:List Str}{fr:List (Option Nat)}{scope:Scope}{fp:List Addr}{h1:Heap}{tk:Nat}(ok:fF X N fr scope)(I:Inv X pins σ H s3)(hf:∀b∈fp,iz X pins H b)(w5:∀b∈fp,b<s3.heap.objs.size)
   (Ew:h1.Ns s3.heap.objs.size λ_=>none) (hk:∀b o,s3.heap.get? b=some o->h1.get? b=some o) (dI:∀x c,(cellsOf scope X.env s3.heap.objs.size).lookup x=some c->s3.heap.objs.size+1<=c->h1.IsCell c none):
   Inv (bP X N scope s3.heap.objs.size s3 H fp pins) [] (bL fr σ) H { s3 with heap:=h1,toks:=tk }:=by
 have I1:Inv X pins σ H { s3 with heap:=h1,toks:=tk }:=I.kept hk
 have tY:∀b∈lN X.stack,b∈X.env.locals::X.fs:=I.t8
 have lc:∀x c,(cellsOf scope X.env s3.heap.objs.size).lookup x=some c->(s3.heap.objs.size+1<=c/\h1.IsCell c none)\/X.env.cells.lookup x=some c:=λx c e=>by
   rcases jX e with⟨_,z⟩|⟨z,_⟩
   . exact .inl ⟨z,dI x c e z⟩
   . exact .inr (e_ z).2
 have lo:∀x c,X.env.cells.lookup x=some c->c<s3.heap.objs.size:=λx c e=>by
   obtain⟨v,o,eo,_⟩:=I.cell x c e
   exact Zf eo
 have P2:∀y,(y,aaj)∈scope.names->(y,Z9) ∉ scope.names:=λy h1 h2=>by
   have:=(ok.free _ h1 rfl).1
   rw[show scope.names.lookup y=some .cell from ok.cells _ h2 rfl]at this
   cases this
 refine⟨⟨I.ok.mod,?_,I.ok.glob,I.ok.blt,Za _,?_,?_,?_,I.ok.hd,I.ok.frames,.inl rfl,?_,I.bs,aaa I.ok.rM I.sz,?_,?_,I.stack,I.wM⟩,rfl,I.bare,Un.kept hk,
   ⟨_,Ew,?_⟩,?_,I.bJ.fresh (Za _),?_,?_,I1.bJ,?_⟩
 . show(adB scope X.env).kind = .function
   rw[uE];exact ok.kind
 . refine uD (λx c e=>ZW (lo x c (e_ e).2)) λx y c h1 h2=>?_
   exact I.ok.inj x y c (e_ h1).2 (e_ h2).2
 . intro x hx
   rcases uG (scope:=scope) (env:=X.env) hx with m|m
   . obtain⟨c,hc⟩:=I.ok.has x (ok.free _ m rfl).2
     exact⟨c,pA (P2 x m) (uF m hc)⟩
   . exact uC (.inl m)
 . intro x c hx e
   rcases jX e with⟨_,z⟩|⟨_,z⟩
   . exact acq z
   . refine absurd ?_ z
     have hx:(scope.names.any λy=>y.1 == x&&y.2 == .cell)=true:=hx
     rw[aaN]at hx
     obtain⟨⟨y,k⟩,hy,e2⟩:=hx
     simp only[Y3]at e2
     have e3:k=Z9:=by simpa using e2.2
     rw[<- eq_of_beq e2.1,<- e3]
     exact hy
 . intro b hb
   refine⟨Zk (w5 b hb),λx c e=>?_⟩
   rcases lc x c e with⟨z,_⟩|z
   . exact λq=>absurd (w5 b hb) (Nat.not_lt.mpr (by rw[<- q];exact acq z))
   . exact(hf b hb).2.2.2.2.1 x c z
 . intro b o e hb
   obtain⟨_,_,_,z,_⟩:=hf b hb
   rcases z with z|z
   . exact I.ok.tZ b o e z
   . exact absurd (ZD (ZD (Zf e) I.ok.rM) z) (aaz _)
 . intro b hb z
   obtain⟨_,n1,n2,_⟩:=hf b hb
   rcases Zd.mp (tY b z)with q|q
   . exact n1 q
   . exact n2 q
 . intro j x v h1 h2 h3
   have iR:(bL fr σ)[j]? = some (some v):=h2
   unfold bL at iR
   rw[ZS]at iR
   cases dQ:fr[j]? with
   |none=>rw[dQ]at iR;cases iR
   |some o =>
     rw[dQ]at iR
     cases o with
     |none=>cases iR
     |some i =>
       obtain⟨y,hy,hi,oU⟩:=ok.slots j i dQ
       have e:x=y:=by
         have pB:N[j]? = some x:=h1
         rw[hy]at pB;cases pB;rfl
       subst e
       have hσ:σ[i]? = some (some v):=by
         simp only[ZP,aai]at iR
         cases q:σ[i]? with
         |none=>rw[q]at iR;cases iR
         |some w=>rw[q]at iR;simp at iR;rw[iR]
       have m:=PySem.mem_of_lookup oU
       obtain⟨_,tf⟩:=ok.free _ m rfl
       obtain⟨mm,hn,hl⟩:=I1.loc
       obtain⟨u,ru,lk⟩:=hl i x v hi hσ (by rcases tf with k|k;exact .inr (.inl k);exact .inr (.inr k))
       refine⟨u,ru,.inr ⟨ip oU,?_⟩⟩
       rcases lk with⟨kl,_⟩|⟨_,c,hc,s_⟩
       . rcases tf with k|k<;>(rw[k]at kl;cases kl)
       . exact⟨c,pA (P2 x m) (uF m hc),s_⟩
 . intro x c e
   rcases lc x c e with⟨_,z⟩|z
   . exact⟨_,z⟩
   . exact I1.cell x c z
 . intro x c e
   rcases lc x c e with⟨z,_⟩|z
   . exact I.bJ.fresh (acq z)
   . exact I.iJ x c z
 . intro p hp
   have EB:p∈X.pn++pins:=by
     have q:p∈(X.pn++pins) ++ []:=hp
     simpa using q
   obtain⟨e,n,ne,nf,d⟩:=I1.pin p EB
   refine⟨e,n,Zk ?_,λz=>?_,d⟩
   . exact Zf (I.pin p EB).1
   . rcases Zd.mp (tY _ z)with q|q
     . exact ne q
     . exact nf q
 . show(bL fr σ).length=N.length
   unfold bL;rw[Zr];exact ok.len
end
noncomputable def bZ (t:FG)(c:FT)(e:FE):List D->Sg->G->Option (List D×G)
 | [],_,g=>some ([],g)
 |d::ds,σ,g=>(t d σ g).bind λq=>(c q.1 q.2).bind λk=>if k.1=true then(e q.1 k.2).bind λr=>(bZ t c e ds q.1 r.2).bind λz=>some (r.1::z.1,z.2)else bZ t c e ds q.1 k.2
noncomputable def RW (X:Cx)(ifs:List Expr)(t:TT):Prop :=
 ∀(pins:List (Addr×Obj)) (s:Y4) (σ:L2.St) (H:Hp) (Q:Bool->Hp->Prop),Inv X pins σ H s->t σ H Q ->
  wpAny (model X.prog X.w) X.A (forIn ifs true λc r=>if r=true then do let ok <- isTrue c X.env (eval c X.env);pure (aaX ok)else pure (aaX r)) (TP X pins σ Q) X.xe s
structure iA (X:Cx)(ifs:List Expr)(f:FT):Prop where of ::
 un:RW X ifs (kF X.kw f)
noncomputable def aQ:FT:=λ_ g=>some (true,g)
theorem CS {X:Cx}:iA X [] aQ:=.of (λpins s σ H Q I h=>by
 obtain⟨ι,σd,g,b,g',G0,S0,h,p⟩:=h
 cases h
 exact wpAny_tests_nil ⟨H,I,p H ι Ext.refl G0⟩)
theorem CT {X:Cx}{c:Expr}{f:FT}(h:DT X c f):iA X [c] f:=.of (λpins s σ H Q I q=>wpAny_tests_one (h.un pins s σ H Q I q))
theorem Ext.EC {H1 ι1 H' ιo p H'' kH}(a:Ext H1 ι1 H' ιo)(b:Ext H' (Ix.hide ιo p) H'' kH):Ext H1 ι1 H'' ⟨kH.ix,ιo.hd,kH.kd⟩/\kH=Ix.hide ⟨kH.ix,ιo.hd,kH.kd⟩ p:=by
 have hh:kH.hd=p::ιo.hd:=b.cK
 obtain⟨m1,e1,f1⟩:=a.more
 obtain⟨m2,e2,f2⟩:=b.more
 refine⟨⟨λc o h n=>b.same c o (a.same c o h n) (a.old h n),λc h=>b.there c (a.there c h),⟨m1++m2,?_,λc z=>?_⟩,a.cK,λi hi=>(b.lT i (show i < ιo.ix.length by rw[e1,aav];omega)).trans (a.lT i hi)⟩,?_⟩
 . show kH.ix=_
   rw[e2];show ιo.ix++m2=_
   rw[e1,aaI]
 . rcases Ze.mp z with z|z
   . exact f1 c z
   . cases q:H1 c with
     |none=>rfl
     |some o=>exact absurd (f2 c z) (a.there c (by rw[q];simp))
 . cases kH with
   |mk ix hd kd=>dsimp only at hh;rw[hh];rfl
theorem Ext.ED {H1 ι1 H' ιo p o}(a:Ext H1 ι1 H' ιo)(hp:H1 p=none):Ext H1 ι1 (upd H' p o) ιo :=
 ⟨λc u h n=>by rw[a_ (b9 h hp)];exact a.same c u h n,λc h=>by
  by_cases e:c=p
  . subst e;rw[bA];simp
  . rw[a_ e];exact a.there c h,a.more,a.cK,a.lT⟩
theorem Ext.RX {H1 ι1 H' ιo p}(a:Ext H1 ι1 H' ιo)(hp:H1 p=none):il H1 ι1 H' (Ix.hide ιo p):=
 ⟨a.same,a.there,a.more,⟨[p],by show p::ιo.hd=_;rw[a.cK];rfl,λb z=>by simp at z;subst z;exact hp⟩,a.lT⟩
noncomputable abbrev Sh:=G->Option (List D)
noncomputable abbrev nY:=Sg->G->Option (Sh×Nat×G)
noncomputable def yN (K:KW)(J:It)(H:Hp)(ι:Ix)(sh:Sh)(L:Nat):Prop :=
 ∀(i:Nat) H1 ι1 g1,il H ι H1 ι1->az K H1 ι1 g1->∀xs,sh g1=some xs->xs.length=L->(L<=i->J.stop i H1) /\ ∀d,xs[i]? = some d->J.go i H1 /\ ∀x H2,J.ub i H1 x H2->Ext H1 ι1 H2 ι1/\az K H2 ι1 g1/\Rel K H2 ι1 d x
inductive KP (K:KW)(f:nY)(σ:L2.St)(H:Hp)(R:(It->Hp->Prop)):Prop
 |mk (ι:Ix) (σd:Sg) (g:G) (sh:Sh) (L:Nat) (g':G) (h0:az K H ι g) (h1:bR K H ι σd σ) (h2:f σd g=some (sh,L,g')) (h3:∀H' ι' J,Ext H ι H' ι'->az K H' ι' g'->yN K J H' ι' sh L->R J H'):KP K f σ H R
structure uH (X:Cx)(tg iter:Expr)(f:nY):Prop where of ::
 un:PI X tg iter (KP X.kw f)
noncomputable def cR (sh:Sh)(L:Nat)(t:FG)(c:FT)(e:FE):Nat->Sg->G->Option (List D×G)
 | 0,_,g=>(sh g).bind λxs=>if xs.length=L then some ([],g)else none
 |r+1,σ,g=>(sh g).bind λxs=>if xs.length=L then(xs[L-(r+1)]?).bind λd=>(t d σ g).bind λq=>(c q.1 q.2).bind λk=>if k.1=true then(e q.1 k.2).bind λr'=>(cR sh L t c e r q.1 r'.2).bind λz=>some (r'.1::z.1,z.2)else cR sh L t c e r q.1 k.2 else none
theorem yO {sh:Sh}{L:Nat}{t:FG}{c:FT}{e:FE}{σ:Sg}{g g':G}{all:List D}(h:cR sh L t c e 0 σ g=some (all,g')):∃xs,sh g=some xs/\xs.length=L/\all = []/\g'=g:=by
 simp only[cR]at h
 obtain⟨xs,hx,h⟩:=bind_some h
 split at h
 . rename_i z
   cases h
   exact⟨xs,hx,z,rfl,rfl⟩
 . cases h
theorem yP {sh:Sh}{L r:Nat}{t:FG}{c:FT}{e:FE}{σ:Sg}{g:G}{o:List D×G}(h:cR sh L t c e (r+1) σ g=some o):∃xs d,sh g=some xs/\xs.length=L/\xs[L-(r+1)]? = some d/\((t d σ g).bind λq=>(c q.1 q.2).bind λk=>if k.1=true then(e q.1 k.2).bind λr'=>(cR sh L t c e r q.1 r'.2).bind λz=>some (r'.1::z.1,z.2)else cR sh L t c e r q.1 k.2)=some o:=by
 simp only[cR]at h
 obtain⟨xs,hx,h⟩:=bind_some h
 split at h
 . rename_i z
   obtain⟨d,hd,h⟩:=bind_some h
   exact⟨xs,d,hx,z,hd,h⟩
 . cases h
inductive CompI (X':Cx)(t:FG)(c:FT)(e:FE)(fp:List Addr)(Dl:Addr)(tn:Nat->Heap->Prop)(sh:Sh)(L:Nat)(all:List D)(H1:Hp)(ι1:Ix)(g':G)(n:Nat)(s:Y4):Prop
 |mk (i:Nat) (σ:L2.St) (H:Hp) (ιo:Ix) (σd:Sg) (g:G) (vs:List V) (acc more:List D) (hn:n=L+1-i) (jF:i<=L) (I:Inv X' [] σ H s) (ti:tn i s.heap) (EE:∀b∈fp,H b=none) (E1:Ext H1 ι1 H ιo) (G1:az X'.kw H (Ix.hide ιo Dl) g) (S1:bR X'.kw H (Ix.hide ιo Dl) σd σ)
  (EF:H Dl=some (.lst vs)) (uI:aj X'.kw H (Ix.hide ιo Dl) acc vs) (VJ:acc.length<=i) (hf:cR sh L t c e (L-i) σd g=some (more,g')) (ea:all=acc++more):CompI X' t c e fp Dl tn sh L all H1 ι1 g' n s
theorem Ay {X':Cx}{tg iter elt:Expr}{ifs:List Expr}{scope:Scope}{pos:Pos}{t:FG}{c:FT}{e:FE}{J:It}{fp:List Addr}{it Dl:Addr}{tn:Nat->Heap->Prop}{all:List D}{sh:Sh}{L:Nat}{H1:Hp}{ι1:Ix}{g':G}{R:Result->Y4->Prop}
   (je:X'.xe=λ_ _=>False) (hc:X'.calm=true) (T:Turn X'.prog X'.w X'.kw tg J fp it tn) (VL:∀b∈fp,iz X' [] X'.H₀ b) (J1:yN X'.kw J H1 ι1 sh L) (hD:H1 Dl=none) (hz:L<=Zl)
   (hg:DG X' tg t) (hi:iA X' ifs c) (he:DE X' elt e)
   (fin:∀s' σ' H' ιo vs,Inv X' [] σ' H' s'->(∀b∈fp,H' b=none)->Ext H1 ι1 H' ιo->az X'.kw H' (Ix.hide ιo Dl) g'->H' Dl=some (.lst vs)->aj X'.kw H' (Ix.hide ιo Dl) all vs->R (.ok .next) s'):
   ∀(s:Y4) (σ:L2.St) (H:Hp) (ιo:Ix) (σd:Sg) (g:G),Inv X' [] σ H s->tn 0 s.heap->(∀b∈fp,H b=none)->Ext H1 ι1 H ιo->az X'.kw H (Ix.hide ιo Dl) g->bR X'.kw H (Ix.hide ιo Dl) σd σ->H Dl=some (.lst [])->cR sh L t c e L σd g=some (all,g') ->
    ac0 (model X'.prog X'.w) X'.A (.compLoop (.ListComp elt [⟨tg,iter,ifs,0⟩] scope pos) 0 (.ref it) (.ref Dl) X'.env) R s:=by
 intro s σ H ιo σd g I t0 P4 E0 G0 S0 hH Az
 have oy:∀{H':Hp},(∀b∈fp,H' b=none)->∀b∈fp,iz X' [] H' b:=λhn b hb=>⟨hn b hb,(VL b hb).2⟩
 refine codeAny_loop rfl (CompI X' t c e fp Dl tn sh L all H1 ι1 g') ?_ (L+1)
   ⟨0,σ,H,ιo,σd,g,[],[],all,rfl,ZM _,I,t0,P4,E0,G0,S0,hH,by simp[aj],Za _,by simpa using Az,rfl⟩
 clear Az hH S0 G0 E0 P4 t0 I g σd ιo H σ s
 rintro n s ⟨i,σ,H,ιo,σd,g,vs,acc,more,rfl,jF,I,ti,EE,E1,G1,S1,EF,uI,VJ,hf,rfl⟩
 show wpAny _ X'.A ((compTurn (.ListComp elt [⟨tg,iter,ifs,0⟩] scope pos) 0 (.ref it) (.ref Dl) X'.env).onRaise (λx=>do noteFrame x X'.env;theTreesLotGoes x)) _ _ s
 refine wpAny_noted ?_
 rw[compTurn_list]
 refine xv (ab7 (xv ?_))
 have j1:=J1 i H (Ix.hide ιo Dl) g (E1.RX hD) G1
 by_cases bD:i<L
 . rw[show L-i=(L-(i+1))+1 by omega]at hf
   obtain⟨xs,d0,sm,EG,AA,hf⟩:=yP hf
   rw[show L-(L-(i+1)+1)=i by omega]at AA
   obtain⟨st,go⟩:=j1 xs sm EG
   obtain⟨go,yl⟩:=go d0 AA
   refine aX (T.item X' rfl rfl rfl hc i [] s σ H _ I (oy EE) ti go) λr s4 ⟨u,hr,h4⟩=>?_
   subst hr
   refine xv (aX h4 λ_ s5 ⟨x,H5,I5,r5,y5,t5,JL⟩=>?_)
   obtain⟨e5,G5,VM⟩:=yl x H5 y5
   obtain⟨⟨σ6,g6⟩,h6,hf⟩:=bind_some hf
   obtain⟨⟨k7,g7⟩,h7,hf⟩:=bind_some hf
   have I5':=I5.pinned (oy JL) (T.obj _ _ t5)
   have lift:∀{α:Type} {tr:Sem α} {Q:α->Y4->Prop} {E:Value->Y4->Prop} {s:Y4},wpAny (model X'.prog X'.w) X'.A tr Q X'.xe s->wpAny (model X'.prog X'.w) X'.A tr Q E s:=λh=>acH h (λ_ _ q=>q) λ_ _ z=>by rw[je]at z;exact z.elim
   have again:∀{s9:Y4} {σ9:L2.St} {H9:Hp} {ι9:Ix} {EH:Sg} {g9:G} {EI:List V} {acc9:List D} {nq:List D},Inv X' ([]++me fp s5.heap) σ9 H9 s9->Ext H1 ι1 H9 ι9->az X'.kw H9 (Ix.hide ι9 Dl) g9->bR X'.kw H9 (Ix.hide ι9 Dl) EH σ9 ->
     H9 Dl=some (.lst EI)->aj X'.kw H9 (Ix.hide ι9 Dl) acc9 EI->acc9.length<=i+1->cR sh L t c e (L-(i+1)) EH g9=some (nq,g')->acc++more=acc9++nq ->
     ∃m,m<L+1-i/\CompI X' t c e fp Dl tn sh L (acc++more) H1 ι1 g' m s9:=by
    intro s9 σ9 H9 ι9 EH g9 EI acc9 nq I9 E9 G9 S9 h9 r9 l9 f9 a9
    refine⟨L+1-(i+1),by omega,i+1,σ9,H9,ι9,EH,g9,EI,acc9,nq,rfl,bD,I9.lg,T.keep _ _ _ t5 λb hb o e=>(I9.pin (b,o) (Z4 _ (Z4 _ (jh hb e)))).1,λb hb=>?_,E9,G9,S9,h9,r9,l9,f9,a9⟩
    obtain⟨o,e,d⟩:=T.obj _ _ t5 b hb
    exact(I9.pin (b,o) (Z4 _ (Z4 _ (jh hb e)))).2.1
   refine xv (lift (aX (hg.un _ s5 σ H5 x u (λσ' H'=>∃ι6,Ext H5 (Ix.hide ιo Dl) H' ι6/\az X'.kw H' ι6 g6/\bR X'.kw H' ι6 σ6 σ') I5' r5 ⟨Ix.hide ιo Dl,σd,g,d0,σ6,g6,G5,S1.ext e5,VM,h6,λH6 ι6 EJ e6 G6 S6=>⟨ι6,e6,G6,S6⟩⟩) λ_ s6 q6=>?_))
   obtain⟨EJ,H6,I6,ι6,e6,G6,S6⟩:=q6
   refine xv (lift (aX (hi.un _ s6 EJ H6 (λb H'=>b=k7 /\ ∃ι7,Ext H6 ι6 H' ι7/\az X'.kw H' ι7 g7) I6 ⟨ι6,σ6,g6,k7,g7,G6,S6,h7,λH7 ι7 e7 G7=>⟨rfl,ι7,e7,G7⟩⟩) λok s7 q7=>?_))
   obtain⟨H7,I7,rfl,ι7,e7,G7⟩:=q7
   have EK:=(e5.trans e6).trans e7
   obtain⟨E7,VN⟩:=E1.EC EK
   have VO:H7 Dl=some (.lst vs):=EK.same Dl _ EF (G1.cK Dl Zp).1
   have r7:=aj.ext EK _ uI
   have S7:=S6.ext e7
   cases ok with
   |false =>
    simp only[Zh,if_false]at hf
    refine Y5 ⟨rfl,?_⟩
    rw[VN]at G7 S7 r7
    exact again I7 E7 G7 S7 VO r7 (by omega) hf rfl
   |true =>
    simp only[if_true]at hf
    obtain⟨⟨d8,g8⟩,h8,hf⟩:=bind_some hf
    obtain⟨⟨nq,g9⟩,h9,hf⟩:=bind_some hf
    obtain⟨rfl,rfl⟩:d8::nq=more/\g9=g':=by cases hf;exact⟨rfl,rfl⟩
    refine xv (xv (lift (aX (he.un _ s7 EJ H7 (λv H'=>∃ι8,Ext H7 ι7 H' ι8/\az X'.kw H' ι8 g8/\Rel X'.kw H' ι8 d8 v) I7 ⟨ι7,σ6,g7,d8,g8,G7,S7,h8,λH8 ι8 v e8 G8 r8=>⟨ι8,e8,G8,r8⟩⟩) λy s8 q8=>?_)))
    obtain⟨v8,H8,I8,VP,ι8,e8,G8,r8⟩:=q8
    have KQ:=EK.trans e8
    obtain⟨E8,VQ⟩:=E1.EC KQ
    have AB:H8 Dl=some (.lst vs):=KQ.same Dl _ EF (G1.cK Dl Zp).1
    have EL:=aj.ext KQ _ uI
    have S8:=S7.ext e8
    have hlen:vs.length<Zl:=by rw[<- uI.length];omega
    rw[VQ]at G8 S8 EL r8
    refine xv (lift (aX (r6 (X:=X') _ s8 EJ H8 (.ref Dl) [v8] (.ref Dl) [y] (λ_ H'=>H'=upd H8 Dl (.lst (vs ++ [v8]))) I8 rfl (.cons VP .nil) ⟨Dl,vs,v8,rfl,rfl,AB,hlen,rfl⟩) λ_ s9 q9=>?_))
    obtain⟨_,H9,I9,_,rfl⟩:=q9
    refine Y5 (Y5 ⟨rfl,?_⟩)
    refine again (acc9:=acc ++ [d8]) I9 (E8.ED hD) (G8.grow AB) ⟨S8.1,λj d q=>let⟨v,a,b⟩:=S8.2 j d q;⟨v,a,Rel.grow AB d b⟩⟩ bA ?_ (by simp;omega) h9 (by simp)
    exact aj.append (aj.grow AB _ EL) (by simp only[aj];exact⟨v8,[],rfl,Rel.grow AB _ r8,rfl⟩)
 . have ei:i=L:=by omega
   subst ei
   rw[aby]at hf
   obtain⟨xs,sm,EG,rfl,rfl⟩:=yO hf
   obtain⟨st,go⟩:=j1 xs sm EG
   refine aX (T.done X' rfl rfl rfl hc _ [] s σ H _ I (oy EE) ti (st (Za _))) λr s4 ⟨hr,I4⟩=>?_
   subst hr
   exact Y5 (fin s4 σ H ιo vs I4 EE E1 G1 EF (by simpa using uI))
noncomputable def bh (mk:List D->G->Option (D×G))(fi:FI)(fr:List (Option Nat))(t:FG)(c:FT)(e:FE):FE:=λσ g=>(fi σ g).bind λr=>if aG r.1.length=true then(bZ t c e r.1 (bL fr σ) r.2).bind λq=>mk q.1 q.2 else none
noncomputable def iS (mk:List D->G->Option (D×G))(fi:nY)(fr:List (Option Nat))(t:FG)(c:FT)(e:FE):FE:=λσ g=>(fi σ g).bind λr=>if aG r.2.1=true then(cR r.1 r.2.1 t c e r.2.1 (bL fr σ) r.2.2).bind λq=>mk q.1 q.2 else none
noncomputable def aY (ds:List D)(g:G):Option (D×G):=some (.lst ds,g)
theorem bR.sub {K H ι σd σ}(fr:List (Option Nat))(h:bR K H ι σd σ):bR K H ι (bL fr σd) (bL fr σ):=by
 refine⟨by simp[bL],λj d q=>?_⟩
 unfold bL at q ⊢
 rw[ZS]at q ⊢
 cases hf:fr[j]? with
 |none=>rw[hf]at q;cases q
 |some o =>
  rw[hf]at q
  cases o with
  |none=>cases q
  |some i =>
   have hσ:σd[i]? = some (some d):=by
    simp only[ZP,aai]at q
    cases z:σd[i]? with
    |none=>rw[z]at q;cases q
    |some w=>rw[z]at q;simp at q;rw[q]
   obtain⟨v,hv,rv⟩:=h.2 i d hσ
   exact⟨v,by simp[hv],rv⟩
section
variable {X:Cx}{tg iter elt:Expr}{ifs:List Expr}{scope:Scope}{pos fU:Pos}{N:List Str}{fr:List (Option Nat)}{fi:nY}{t:FG}{c:FT}{e:FE}
theorem sr {pins:List (Addr×Obj)}{s:Y4}{σ:L2.St}{H:Hp}{ι:Ix}{σd:Sg}{g g1 g':G}{all:List D}{sh:Sh}{L:Nat}{use:Option (Value->Sem Unit)}{Q:Value->Y4->Prop}
  (je:X.xe=λ_ _=>False) (hc:X.calm=true) (ok:fF X N fr scope) (hit:uH X tg iter fi) (df:∀C s3 H fp pins,DG (bP X N scope C s3 H fp pins) tg t/\iA (bP X N scope C s3 H fp pins) ifs c/\DE (bP X N scope C s3 H fp pins) elt e)
  (hs:∀x,ZV iter X.env x=pure x) (I:Inv X pins σ H s) (G0:az X.kw H ι g) (S0:bR X.kw H ι σd σ) (h1:fi σd g=some (sh,L,g1)) (hz:aG L=true) (h2:cR sh L t c e L (bL fr σd) g1=some (all,g'))
  (fin:∀s' H' ιo vs Dl C,Inv X pins σ H' s'->iz X pins H' C->(∃m,s'.heap.Ns C m)->Ext H ι H' ιo->az X.kw H' (Ix.hide ιo Dl) g'->H' Dl=some (.lst vs)->aj X.kw H' (Ix.hide ιo Dl) all vs->Dl ∉ ιo.hd->H Dl=none->compPost (model X.prog X.w) X.A X.xe use Q (.ref Dl) C (.ok .next) s'):
  wpAny (model X.prog X.w) X.A (comprehension (.ListComp elt [⟨tg,iter,ifs,0⟩] scope pos) scope X.env fU (newList []) false (eval iter X.env) use) Q X.xe s:=by
 have free:∀x∈scope.names,x.2 = .free->∃c,X.env.cells.lookup x.1=some c:=λx hx hk=>I.ok.has x.1 (ok.free x hx hk).2
 refine wpAny_comprehension_free (use:=use) rfl hs (sX free) ok.kind ok.names (aX (hit.un pins s σ H (λJ H'=>∃ι1,Ext H ι H' ι1/\az X.kw H' ι1 g1/\yN X.kw J H' ι1 sh L) I ⟨ι,σd,g,sh,L,g1,G0,S0,h1,λH1 ι1 J e1 G1 J1=>⟨ι1,e1,G1,J1⟩⟩) λxv s1 pB=>aX pB λJG s2 q2=>?_)
 obtain⟨it,fp,tn,J,H1,rfl,I1,T,t1,f1,ι1,e1,G1,J1⟩:=q2
 refine ZL ?_
 have w6:H1 s2.heap.objs.size=none:=I1.bJ.fresh (Za _)
 generalize KR:({ s2 with heap:=s2.heap.push { cls:=.type "list",dict:=none,data:=.seq ([]:List Value).toArray } }:Y4)=s3
 have I3:Inv X pins σ (upd H1 s2.heap.objs.size (.lst [])) s3:=by
  rw[<- KR]
  exact I1.laid (t':=s2.toks) (λb u e=>Y6 _ e) (Za _) ⟨ZM _,[],0,.nil,Zg _ rfl⟩
 have k3:∀b o,s2.heap.get? b=some o->s3.heap.get? b=some o:=λb o e=>by rw[<- KR];exact Y6 _ e
 have P5:s3.heap.objs.size=s2.heap.objs.size+1:=by rw[<- KR];exact aaS ..
 have w5:∀b∈fp,b<s2.heap.objs.size:=λb hb=>let⟨o,eo,_⟩:=T.obj _ _ t1 b hb;Zf eo
 have f3:∀b∈fp,iz X pins (upd H1 s2.heap.objs.size (.lst [])) b:=λb hb=>⟨by rw[a_ (Zk (w5 b hb))];exact(f1 b hb).1,(f1 b hb).2⟩
 refine wC (OQ I3) λh4 RY k4 kc=>?_
 have I4:=yM (tk:=s3.toks) ok I3 f3 (λb hb=>by rw[P5];exact ZW (w5 b hb)) RY k4 kc
 obtain⟨hg,hi,he⟩:=df s3.heap.objs.size s3 (upd H1 s2.heap.objs.size (.lst [])) fp pins
 have t4:tn 0 h4:=T.keep _ _ _ t1 λb hb o e=>k4 b o (k3 b o e)
 have fx:∀b∈fp,iz (bP X N scope s3.heap.objs.size s3 (upd H1 s2.heap.objs.size (.lst [])) fp pins) [] (upd H1 s2.heap.objs.size (.lst [])) b:=λb hb=>by
  refine⟨(f3 b hb).1,?_,?_,.inl hb,?_,?_⟩
  . exact Zk (by rw[P5];exact ZW (w5 b hb))
  . exact I4.ok.t6 b hb
  . exact(I4.ok.Jk b hb).2
  . intro p hp
    have EB:p∈X.pn++pins:=by
      have q:p∈(X.pn++pins) ++ []:=hp
      simpa using q
    exact(f1 b hb).2.2.2.2.2 p EB
 have loop:ac0 (model X.prog X.w) X.A (.compLoop (.ListComp elt [⟨tg,iter,ifs,0⟩] scope pos) 0 (.ref it) (.ref s2.heap.objs.size) (compEnvC scope (cellsOf scope X.env s3.heap.objs.size) s3.heap.objs.size X.env))
    (compPost (model X.prog X.w) X.A X.xe use Q (.ref s2.heap.objs.size) s3.heap.objs.size) { s3 with heap:=h4 }:=by
  refine Ay (X':=bP X N scope s3.heap.objs.size s3 (upd H1 s2.heap.objs.size (.lst [])) fp pins) (all:=all) (g':=g') rfl hc T fx J1 w6 (aG.le hz) hg hi he ?_ _ _ _ ι1 (bL fr σd) g1 I4 t4 (λb hb=>(f3 b hb).1) ((Ext.refl (H:=H1) (ι:=ι1)).ED w6) (G1.hide w6) ?_ bA h2
  . intro s' σ' H' ιo vs I' Ys E' G' VR r'
    have I5:Inv X pins σ H' s':=I3.Oc (ch:=fp) I'.os I'.base I'.bJ I'.bare λb hb=>⟨(f3 b hb).2.2.2.1,(f3 b hb).2.1,(f3 b hb).2.2.2.2.1,(f3 b hb).2.2.2.2.2⟩
    obtain⟨m,hm,_⟩:=I'.loc
    refine fin s' H' ιo vs _ _ I5 ?_ ⟨m,hm⟩ (e1.trans E') G' VR r' ?_ ?_
    . have z:=I3.ox (H':=H') (b:=s3.heap.objs.size) (Za _) I'.free
      exact z
    . rw[E'.cK];exact G1.jE w6
    . cases q:H s2.heap.objs.size with
      |none=>rfl
      |some o=>exact absurd w6 (e1.there _ (by rw[q];simp))
  . have S1:bR X.kw H1 ι1 (bL fr σd) (bL fr σ):=(S0.ext e1).sub fr
    exact⟨S1.1,λj d q=>let⟨v,a,b⟩:=S1.2 j d q;⟨v,a,Rel.hide w6 d b⟩⟩
 exact codeAny_compStart_list loop (T.self _ 0 _ _ _ t4 loop)
theorem oB {H ι H' ιo K g' all vs Dl d gg Q}(e:Ext H ι H' ιo)(G':az K H' (Ix.hide ιo Dl) g')(hD:H' Dl=some (.lst vs))(r:aj K H' (Ix.hide ιo Dl) all vs)(hn:Dl ∉ ιo.hd)(hm:aY all g'=some (d,gg))(p:gA K H ι d gg Q):Q (.ref Dl) H':=by
 cases hm
 refine p H' ιo _ e G'.show ?_
 simp only[Rel]
 exact⟨Dl,vs,rfl,.inl ⟨.inl hD,(G'.cK Dl Zp).1,hn⟩,aj.show _ r⟩
end
section
variable {X:Cx}{tg iter elt:Expr}{ifs:List Expr}{scope:Scope}{pos fU:Pos}{N:List Str}{fr:List (Option Nat)}{fi:nY}{t:FG}{c:FT}{e:FE}
theorem oC (je:X.xe=λ_ _=>False)(hc:X.calm=true)(ok:fF X N fr scope)(hit:uH X tg iter fi)(df:∀C s3 H fp pins,DG (bP X N scope C s3 H fp pins) tg t/\iA (bP X N scope C s3 H fp pins) ifs c/\DE (bP X N scope C s3 H fp pins) elt e)
   (hs:∀x,ZV iter X.env x=pure x:=by intro _;rfl):DE X (.ListComp elt [⟨tg,iter,ifs,0⟩] scope pos) (iS aY fi fr t c e):=.of (by
 intro pins s σ H Q I h
 obtain⟨ι,σd,g,d,gg,G0,S0,h,p⟩:=h
 obtain⟨⟨sh,L,g1⟩,h1,h⟩:=bind_some h
 dsimp only at h
 split at h
 . rename_i hz
   obtain⟨⟨all,g'⟩,h2,h⟩:=bind_some h
   rw[eval_ListComp]
   refine sr (use:=none) je hc ok hit df hs I G0 S0 h1 hz h2 λs' H' ιo vs Dl C I' fC ⟨m,hm⟩ e' G' hD r hn Az=>?_
   refine⟨m,hm,λKS sb=>⟨.ref Dl,H',?_,rfl,oB e' G' hD r hn h p⟩⟩
   obtain⟨f0,f1,f2,f3,f4,f5⟩:=fC
   exact I'.turned (t':=s'.toks) (λb o hb e=>sb.extBut b o hb e) f0 f1 f3 f4 f5
 . cases h)
theorem mx {mk:List D->G->Option (D×G)}{i:Nat}{x:Str}{px my:Pos}(VS:∀{H ι H' ιo g' all vs Dl d gg Q},Ext H ι H' ιo->H Dl=none->az X.kw H' (Ix.hide ιo Dl) g'->H' Dl=some (.lst vs)->aj X.kw H' (Ix.hide ιo Dl) all vs->Dl ∉ ιo.hd->mk all g'=some (d,gg)->gA X.kw H ι d gg Q->Q (.ref Dl) H')
   (je:X.xe=λ_ _=>False) (hc:X.calm=true) (ok:fF X N fr scope) (hit:uH X tg iter fi) (df:∀C s3 H fp pins,DG (bP X N scope C s3 H fp pins) tg t/\iA (bP X N scope C s3 H fp pins) ifs c/\DE (bP X N scope C s3 H fp pins) elt e)
   (hN:X.N.Nodup) (hi:X.N[i]? = some x) (hx:Loc X.env.scope x)
   (pC:abY (.ListComp elt [⟨tg,iter,ifs,0⟩] scope pos) (some (.Name x px)) my.line X.env=pure true)
   (hs:∀x,ZV iter X.env x=pure x) (hf:X.fn x=true\/X.env.scope.names.lookup x=some .local):DS X (.Assign [.Name x px] (.ListComp elt [⟨tg,iter,ifs,0⟩] scope pos) my) (aC (iS mk fi fr t c e) (gN i)):=.of (by
 intro pins s σ H Dn I h
 obtain⟨ι,σd,g,r,b5,gg,G0,S0,h0,p⟩:=h
 obtain⟨⟨d,VT⟩,pB,hr⟩:=bind_some h0
 have d6:some (F.nx,σd.set i (some d),VT)=some (r,b5,gg):=hr
 clear h0
 obtain⟨⟨sh,L,g1⟩,h1,h3⟩:=bind_some (x:=fi σd g) pB
 dsimp only at h3
 split at h3
 . rename_i hz
   obtain⟨⟨all,g'⟩,h2,h4⟩:=bind_some h3
   rw[exec_Assign_Name_used _ _ _ _ pC]
   refine xv (ab7 (xv ?_))
   show wpAny _ X.A (do let _ <- comprehension (.ListComp elt [⟨tg,iter,ifs,0⟩] scope pos) scope X.env _ (newList []) false (eval iter X.env) (some (ab6 (.Name x px) X.env))) _ _ s
   refine xv (acH (sr (use:=some (ab6 (.Name x px) X.env)) (Q:=λ_ s'=>SP X pins Dn .next s') je hc ok hit df hs I G0 S0 h1 hz h2 λs' H' ιo vs Dl C I' fC ⟨m,hm⟩ e' G' hD r hn Az=>?_) (λ_ s' hq=>Y5 (Y5 hq)) λ_ _ e=>e)
   show wpAny _ X.A (ab6 (.Name x px) X.env (.ref Dl)) _ _ _
   refine wpAny_assign_Name (rN I' hN hi hx (v:=.ref Dl) rfl (λAc I'' ⟨a,sb,ha⟩=>?_) hf)
   obtain⟨f0,f1,f2,f3,f4,f5⟩:=fC
   have VU:C≠a:=by
    rcases ha with rfl|ha
    . exact f1
    . exact λz=>f4 _ _ ha z.symm
   obtain⟨oc,es,ep,ho,rest⟩:=hm
   refine⟨m,⟨oc,es,ep,(sb.2 C VU).trans ho,rest⟩,λKS VV=>?_⟩
   refine⟨σ.set i (some (.ref Dl)),H',I''.turned (t':=Ac.toks) (λb o hb e=>VV.extBut b o hb e) f0 f1 f3 f4 f5,?_⟩
   cases d6
   exact VS (Q:=λv H'=>Dn.nx (σ.set i (some v)) H') e' Az G' hD r hn h4 λH2 ι2 v e2 G2 r2=>p H2 ι2 e2 G2 _ ((S0.ext e2).set r2 i)
 . cases h3)
end
noncomputable def AD (fi:FI):nY:=λσ g=>(fi σ g).map λr=>(λ_=>some r.1,r.1.length,r.2)
theorem uJ {X:Cx}{tg iter:Expr}{fi:FI}(h:DI X tg iter fi):uH X tg iter (AD fi):=.of (PI.imp h.un λσ H Q q=>by
 obtain⟨ι,σd,g,sh,L,g',G0,S0,h2,p⟩:=q
 obtain⟨⟨ds,g1⟩,h1,e⟩:=Zq.mp h2
 cases e
 exact⟨ι,σd,g,ds,g1,G0,S0,h1,λH' ι' J e1 G1 J1=>p H' ι' J e1 G1 λi H1 ι1 g2 e2 G2 xs hx hl=>by
  cases hx
  exact J1 i H1 ι1 g2 e2 G2⟩)
theorem qD {ds:List D}{t:FG}{c:FT}{e:FE}:∀(k:Nat) (σ:Sg) (g:G),k<=ds.length->cR (λ_=>some ds) ds.length t c e k σ g=bZ t c e (ds.drop (ds.length-k)) σ g
 | 0,σ,g,_=>by simp[cR,bZ]
 |k+1,σ,g,h=>by
  have bD:ds.length-(k+1)<ds.length:=by omega
  rw[aaE bD,show ds.length-(k+1)+1=ds.length-k by omega]
  simp only[cR,bZ,Zb,if_true,Y8 bD]
  refine congrArg _ (funext λq=>congrArg _ (funext λk1=>?_))
  split
  . refine congrArg _ (funext λr=>?_)
    rw[qD k _ _ (by omega)]
  . rw[qD k _ _ (by omega)]
theorem w8 {mk:List D->G->Option (D×G)}{fi:FI}{fr:List (Option Nat)}{t:FG}{c:FT}{e:FE}:bh mk fi fr t c e=iS mk (AD fi) fr t c e:=by
 funext σ g
 unfold bh iS AD
 cases fi σ g with
 |none=>rfl
 |some r =>
  simp only[Zb,ZP]
  rw[qD _ _ _ (Za _),aby,abV]
section
variable {X:Cx}{tg iter elt:Expr}{ifs:List Expr}{scope:Scope}{pos fU:Pos}{N:List Str}{fr:List (Option Nat)}{fi:FI}{t:FG}{c:FT}{e:FE}
theorem Hr (je:X.xe=λ_ _=>False)(hc:X.calm=true)(ok:fF X N fr scope)(hit:DI X tg iter fi)(df:∀C s3 H fp pins,DG (bP X N scope C s3 H fp pins) tg t/\iA (bP X N scope C s3 H fp pins) ifs c/\DE (bP X N scope C s3 H fp pins) elt e)
  (hs:∀x,ZV iter X.env x=pure x:=by intro _;rfl):DE X (.ListComp elt [⟨tg,iter,ifs,0⟩] scope pos) (bh aY fi fr t c e):=by
 rw[w8];exact oC je hc ok (uJ hit) df hs
theorem yQ {i:Nat}{x:Str}{px my:Pos}(je:X.xe=λ_ _=>False)(hc:X.calm=true)(ok:fF X N fr scope)(hit:DI X tg iter fi)(df:∀C s3 H fp pins,DG (bP X N scope C s3 H fp pins) tg t/\iA (bP X N scope C s3 H fp pins) ifs c/\DE (bP X N scope C s3 H fp pins) elt e)
  (hN:X.N.Nodup) (hi:X.N[i]? = some x) (hx:Loc X.env.scope x) (pC:abY (.ListComp elt [⟨tg,iter,ifs,0⟩] scope pos) (some (.Name x px)) my.line X.env=pure true:=by rfl)
  (hs:∀x,ZV iter X.env x=pure x:=by intro _;rfl) (hf:X.fn x=true\/X.env.scope.names.lookup x=some .local:=by first|exact .inl rfl|exact .inr rfl|assumption):
  DS X (.Assign [.Name x px] (.ListComp elt [⟨tg,iter,ifs,0⟩] scope pos) my) (aC (bh aY fi fr t c e) (gN i)):=
 by rw[w8];exact mx (λe' _ G' hD r hn h4 p=>oB e' G' hD r hn h4 p) je hc ok (uJ hit) df hN hi hx pC hs hf
end
noncomputable def gv (sh:Sh)(L:Nat)(t:FG)(b:FS):Nat->FS
 | 0,σ,g=>(sh g).bind λxs=>if xs.length=L then some (.nx,σ,g)else none
 |r+1,σ,g=>(sh g).bind λxs=>if xs.length=L then(xs[L-(r+1)]?).bind λd=>(t d σ g).bind λq=>(b q.1 q.2).bind λr'=>match r'.1 with
   |.nx=>gv sh L t b r r'.2.1 r'.2.2
   |.ct=>gv sh L t b r r'.2.1 r'.2.2
   |.bk=>some (.nx,r'.2.1,r'.2.2)
   |.rt d=>some (.rt d,r'.2.1,r'.2.2)
  else none
noncomputable def pD (fi:nY)(t:FG)(b:FS):FS:=λσ g=>(fi σ g).bind λr=>gv r.1 r.2.1 t b r.2.1 σ r.2.2
section
variable {X:Cx}{tg:Expr}{pos:Pos}
inductive CU (X:Cx)(t:FG)(b:FS)(sh:Sh)(L:Nat)(H1:Hp)(ι1:Ix)(r:F)(b5:Sg)(g':G)(i:Nat)(σ2:L2.St)(H2:Hp):Prop
 |mk (ι2:Ix) (lU:Sg) (g2:G) (e2:Ext H1 ι1 H2 ι2) (G2:az X.kw H2 ι2 g2) (S2:bR X.kw H2 ι2 lU σ2) (hf:gv sh L t b (L-i) lU g2=some (r,b5,g')):CU X t b sh L H1 ι1 r b5 g' i σ2 H2
theorem w9 {iter:Expr}{body:List Stmt}{fi:nY}{t:FG}{b:FS}(hp:acD (model X.prog X.w) X.A X.env X.xe)(hc:X.calm=true)(hi:uH X tg iter fi)(hg:DG X tg t)(hb:jW X body b)
   (hs:∀x,ZV iter X.env x=pure x:=by intro _;rfl):DS X (.For tg iter body [] pos) (pD fi t b):=.of (PS.imp (JJ hp hc hi.un hg.un hb.un hs) λDn σ H h=>by
 obtain⟨ι,σd,g,r,b5,g',G0,S0,h,p⟩:=h
 obtain⟨⟨sh,L,g1⟩,h1,h⟩:=bind_some h
 refine⟨ι,σd,g,sh,L,g1,G0,S0,h1,λH1 ι1 J e1 G1 J1=>?_⟩
 dsimp only at h
 refine⟨λi m σ2 H2=>m=L-i/\i<=L/\CU X t b sh L H1 ι1 r b5 g' i σ2 H2,
   ⟨L,by simp,ZM _,ι1,σd,g1,Ext.refl,G1,S0.ext e1,by simpa using h⟩,?_⟩
 rintro i m σ2 H2 ⟨rfl,hi,ι2,lU,g2,e2,G2,S2,hf⟩
 have j1:=J1 i H2 ι2 g2 e2.eu G2
 by_cases bD:i<L
 . rw[show L-i=(L-(i+1))+1 by omega]at hf
   simp only[gv]at hf
   obtain⟨xs,hx,hf⟩:=bind_some hf
   split at hf
   . rename_i hl
     obtain⟨d0,AA,hf⟩:=bind_some hf
     rw[show L-(L-(i+1)+1)=i by omega]at AA
     obtain⟨⟨σ3,g3⟩,h3,hf⟩:=bind_some hf
     obtain⟨⟨r4,σ4,g4⟩,h4,hf⟩:=bind_some hf
     obtain⟨st,go⟩:=j1 xs hx hl
     obtain⟨go,yl⟩:=go d0 AA
     refine .inr ⟨go,λσ5 H5=>CU X t b sh L H1 ι1 r b5 g' (i+1) σ5 H5,?_,?_⟩
     . rintro σ5 H5 ⟨ι5,VX,g5,e5,G5,S5,h5⟩
       exact⟨L-(i+1),by omega,rfl,bD,ι5,VX,g5,e5,G5,S5,h5⟩
     . intro x H' y
       obtain⟨e3,G3,r3⟩:=yl x H' y
       refine⟨ι2,lU,g2,d0,σ3,g3,G3,S2.ext e3,r3,h3,λH6 ι6 σ6 e6 G6 S6=>?_⟩
       refine⟨ι6,σ3,g3,r4,σ4,g4,G6,S6,h4,λH7 ι7 e7 G7=>?_⟩
       have lq:=e2.trans (e3.trans (e6.trans e7))
       cases r4 with
       |nx=>exact λσ' S7=>⟨ι7,σ4,g4,lq,G7,S7,hf⟩
       |ct=>exact λσ' S7=>⟨ι7,σ4,g4,lq,G7,S7,hf⟩
       |bk=>cases hf;exact λσ' S7=>p H7 ι7 (e1.trans lq) G7 σ' S7
       |rt d=>cases hf;exact λv r7=>p H7 ι7 (e1.trans lq) G7 v r7
   . cases hf
 . have e:i=L:=by omega
   subst e
   rw[aby]at hf
   simp only[gv]at hf
   obtain⟨xs,hx,hf⟩:=bind_some hf
   split at hf
   . rename_i hl
     cases hf
     obtain⟨st,_⟩:=j1 xs hx hl
     exact .inl ⟨st (Za _),p H2 ι2 (e1.trans e2) G2 σ2 S2⟩
   . cases hf)
end
theorem w_ {ds:List D}{t:FG}{b:FS}:∀(k:Nat) (σ:Sg) (g:G),k<=ds.length->gv (λ_=>some ds) ds.length t b k σ g=forL t b (ds.drop (ds.length-k)) σ g
 | 0,σ,g,_=>by simp[gv,forL]
 |k+1,σ,g,h=>by
  have bD:ds.length-(k+1)<ds.length:=by omega
  rw[aaE bD,show ds.length-(k+1)+1=ds.length-k by omega]
  simp only[gv,forL,Zb,if_true,Y8 bD,w_ k _ _ (acq h)]<;>rfl
theorem KU {fi:FI}{t:FG}{b:FS}:cS fi t b=pD (AD fi) t b:=by
 funext σ g
 unfold cS pD AD
 cases fi σ g with
 |none=>rfl
 |some r =>
  simp only[Zb,ZP]
  rw[w_ _ _ _ (Za _),aby,abV]
theorem KY {X:Cx}{tg:Expr}{pos:Pos}{iter:Expr}{body:List Stmt}{fi:FI}{t:FG}{b:FS}(hp:acD (model X.prog X.w) X.A X.env X.xe)(hc:X.calm=true)(hi:DI X tg iter fi)(hg:DG X tg t)(hb:jW X body b)
  (hs:∀x,ZV iter X.env x=pure x:=by intro _;rfl):DS X (.For tg iter body [] pos) (cS fi t b):=by
 rw[KU];exact w9 hp hc (uJ hi) hg hb hs
noncomputable def aR (c:Int->Int->Bool)(f:Int->Int->Int)(d1 d2:D)(g:G):Option (D×G):=match d1,d2 with
 |.int i,.int j=>if c i j=true then some (.int (f i j),g)else none
 |_,_=>none
noncomputable def pF (f:Int->Int->Bool)(d1 d2:D)(g:G):Option (D×G):=match d1,d2 with
 |.int i,.int j=>some (.bl (f i j),g)
 |_,_=>none
noncomputable def bp (_ _:Int):Bool:=true
noncomputable def dg (i j:Int):Bool:=abE i.natAbs 18446744073709551615||abE j.natAbs 18446744073709551615
noncomputable def fN (_ j:Int):Bool:=abE 1 j.toNat&&abE j.toNat 1073741823
noncomputable def cY (_ j:Int):Bool:=abE 1 j.toNat
noncomputable def cM (i j:Int):Bool:=(match j with|.ofNat n=>abE n 1000000|.negSucc _=>false)&&abE i.natAbs 18446744073709551615
section
variable {X:Cx}
theorem gX {f:Value->Value->Sem Value}{C:Int->Int->Prop}{c:Int->Int->Bool}{fi:Int->Int->Int}(h:bz X f (rI C λi j=>.int (fi i j)))(hc:∀i j,c i j=true->C i j):bz X f (cG X.kw (aR c fi)):=by
 intro pins s σ H x y v u Q I rx ry q
 obtain⟨ι,g,d1,d2,d,g',G0,r1,r2,q,p⟩:=q
 cases d1 with
 |int i =>
  cases d2 with
  |int j =>
   simp only[Rel]at r1 r2;subst r1;subst r2
   simp only[aR]at q
   split at q
   . rename_i z
     cases q
     exact h pins s σ H _ _ v u Q I rx ry ⟨i,j,rfl,rfl,hc i j z,p H ι _ Ext.refl G0 (by simp[Rel])⟩
   . cases q
  |_=>cases q
 |_=>cases q
theorem nt {g:Int->Int->V}{x y:V}{H:Hp}{Q:VK}(h:rI (λ_ _=>True) g x y H Q):lP g x y H Q:=let⟨i,j,a,b,_,q⟩:=h;⟨i,j,a,b,q⟩
theorem bz.imp {f:Value->Value->Sem Value}{r r':R2}(h:bz X f r)(i:∀x y H Q,r' x y H Q->r x y H Q):bz X f r':=λpins s σ H x y v u Q I rx ry q=>h pins s σ H x y v u Q I rx ry (i _ _ _ _ q)
theorem KZ:bz X (ZT .Sub) (cG X.kw (aR bp (· - ·))):=gX (bz.imp JO λ_ _ _ _=>nt) λ_ _ _=>trivial
theorem Hs:bz X (ZT .Add) (cG X.kw (aR bp (· + ·))):=gX (bz.imp JN λ_ _ _ _=>nt) λ_ _ _=>trivial
theorem Ht:bz X (ZT .Mult) (cG X.kw (aR dg (· * ·))):=gX JP λi j h=>by
 unfold dg at h
 simp only[ZR]at h
 rcases h with h|h
 . have:=Z5 h
   exact .inl ⟨by omega,by omega⟩
 . have:=Z5 h
   exact .inr ⟨by omega,by omega⟩
theorem Hu:bz X (ZT .FloorDiv) (cG X.kw (aR fN (· / ·))):=gX GP λi j h=>by
 unfold fN at h
 simp only[Y3]at h
 have h1:=Z5 h.1
 have h2:=Z5 h.2
 exact⟨by omega,by omega⟩
theorem K0:bz X (ZT .Mod) (cG X.kw (aR cY (· % ·))):=gX JQ λi j h=>by
 have h1:=Z5 (show abE 1 j.toNat=true from h)
 show 0<j
 omega
theorem K1:bz X (ZT .Pow) (cG X.kw (aR cM (λi j=>i ^ j.toNat))):=gX JR λi j h=>by
 unfold cM at h
 simp only[Y3]at h
 have h2:=Z5 h.2
 cases j with
 |ofNat n =>
  have h1:=Z5 (show abE n 1000000=true from h.1)
  exact⟨aeU n,(by show((n:Nat):Int)<=1000000;omega),(by omega)⟩
 |negSucc n=>exact absurd h.1 (by simp)
theorem tF {f:Value->Value->Sem Value}{fi:Int->Int->Bool}(h:bz X f (lP λi j=>.bl (fi i j))):bz X f (cG X.kw (pF fi)):=by
 intro pins s σ H x y v u Q I rx ry q
 obtain⟨ι,g,d1,d2,d,g',G0,r1,r2,q,p⟩:=q
 cases d1 with
 |int i =>
  cases d2 with
  |int j =>
   simp only[Rel]at r1 r2;subst r1;subst r2
   cases q
   exact h pins s σ H _ _ v u Q I rx ry ⟨i,j,rfl,rfl,p H ι _ Ext.refl G0 (by simp[Rel])⟩
  |_=>cases q
 |_=>cases q
theorem OR:bz X (ZF .Lt) (cG X.kw (pF λi j=>decide (i<j))):=tF Ox
theorem OS:bz X (ZF .LtE) (cG X.kw (pF λi j=>decide (i<=j))):=tF Oy
theorem OT:bz X (ZF .Gt) (cG X.kw (pF λi j=>decide (j<i))):=tF Oz
theorem OU:bz X (ZF .GtE) (cG X.kw (pF λi j=>decide (j<=i))):=tF OA
noncomputable def jG (d:D)(g:G):Option (D×G):=match d with|.int i=>some (.int (-i),g)|_=>none
theorem K2:zY X (unaryOp .USub) (Kr X.kw jG):=by
 intro pins s σ H x v Q I rx q
 obtain⟨ι,g,d1,d,g',G0,r1,q,p⟩:=q
 cases d1 with
 |int i =>
  simp only[Rel]at r1;subst r1
  cases q
  exact JU pins s σ H _ v Q I rx ⟨i,rfl,p H ι _ Ext.refl G0 (by simp[Rel])⟩
 |_=>cases q
mutual
noncomputable def flat:D->Bool
 |.ref _=>false
 |.dw=>false
 |.aM _=>false
 |.fn _=>false
 |.tup xs=>aU xs
 |.lst xs=>aU xs
 |_=>true
noncomputable def aU:List D->Bool
 | []=>true
 |d::ds=>flat d&&aU ds
end
mutual
noncomputable def aI:D->D->Bool
 |.aA,.aA=>true
 |.bl a,.bl b=>a == b
 |.bl a,.int b=>(if a then 1 else 0)== b
 |.int a,.bl b=>a == (if b then 1 else 0)
 |.int a,.int b=>a == b
 |.str a,.str b=>a == b
 |.tup xs,.tup ys=>c_ xs ys
 |.lst xs,.lst ys=>c_ xs ys
 |_,_=>false
noncomputable def c_:List D->List D->Bool
 | [],[]=>true
 |x::xs,y::ys=>aI x y&&c_ xs ys
 |_,_=>false
end
mutual
noncomputable def dep:D->Nat
 |.tup xs=>bX xs+1
 |.lst xs=>bX xs+1
 |_=>0
noncomputable def bX:List D->Nat
 | []=>0
 |d::ds=>max (dep d) (bX ds)
end
mutual
theorem fG:∀d:D,flat d=true->aI d d=true
 |.aA,_=>by simp[aI]
 |.bl _,_=>by simp[aI]
 |.int _,_=>by simp[aI]
 |.str _,_=>by simp[aI]
 |.tup xs,h=>by simp only[aI];exact mB xs h
 |.lst xs,h=>by simp only[aI];exact mB xs h
theorem mB:∀ds:List D,aU ds=true->c_ ds ds=true
 | [],_=>by simp[c_]
 |d::ds,h=>by
  simp only[aU,Y3]at h
  simp only[c_,Y3]
  exact⟨fG d h.1,mB ds h.2⟩
end
theorem jH:∀xs ys:List D,c_ xs ys=((Y9 (min xs.length ys.length)).all (λj=>aI (xs[j]?.getD .aA) (ys[j]?.getD .aA))&&xs.length == ys.length)
 | [],[]=>by simp[c_]
 | [],y::ys=>by simp[c_]
 |x::xs,[]=>by simp[c_]
 |x::xs,y::ys=>by
  simp only[c_,jH xs ys,aa8,Nat.succ_min_succ,List.range_succ_eq_map,ab8,adP,afy,acO,aar,List.getElem?_cons_succ]
  rw[ad_]
  congr 2
  simp
theorem nu {pins:List (Addr×Obj)}{σ:L2.St}{H:Hp}{s:Y4}{a:Addr}{xs ys:List V}(I:Inv X pins σ H s)(h:dP X.kw H a xs)(h':dq X.kw H a ys):False:=by
 obtain⟨av,_,ht,_⟩:=I.tuple h
 obtain⟨its',_,hl,_⟩:=I.list h'
 exact SeqAt.ne_of_list_tuple hl.isList ht rfl
mutual
theorem Rel.inj {pins:List (Addr×Obj)}{σ:L2.St}{H:Hp}{s:Y4}{ι:Ix}(I:Inv X pins σ H s):∀(d1 d2:D) {v:V},flat d1=true->flat d2=true->Rel X.kw H ι d1 v->Rel X.kw H ι d2 v->d1=d2
 |.aA,d2,v,_,f2,r1,r2=>by
  simp only[Rel]at r1;subst r1
  cases d2<;>simp_all[Rel,flat]
 |.bl _,d2,v,_,f2,r1,r2=>by
  simp only[Rel]at r1;subst r1
  cases d2<;>simp_all[Rel,flat]
 |.int _,d2,v,_,f2,r1,r2=>by
  simp only[Rel]at r1;subst r1
  cases d2<;>simp_all[Rel,flat]
 |.str _,d2,v,_,f2,r1,r2=>by
  simp only[Rel]at r1;subst r1
  cases d2<;>simp_all[Rel,flat]
 |.tup xs,d2,v,f1,f2,r1,r2=>by
  simp only[Rel]at r1
  obtain⟨a,vs,rfl,hq,hr⟩:=r1
  cases d2 with
  |tup ys =>
   simp only[Rel]at r2
   obtain⟨a',ws,e,b4,d6⟩:=r2
   cases e
   have:=I.md hq.sq b4.sq
   subst this
   rw[aj.inj I xs ys f1 f2 hr d6]
  |lst ys =>
   simp only[Rel]at r2
   obtain⟨a',ws,e,b4,d6⟩:=r2
   cases e
   exact(nu I hq.sq b4.sq).elim
  |dw=>cases f2
  |ref n=>cases f2
  |aM n=>cases f2
  |fn x=>cases f2
  |_=>simp[Rel]at r2
 |.lst xs,d2,v,f1,f2,r1,r2=>by
  simp only[Rel]at r1
  obtain⟨a,vs,rfl,hq,hr⟩:=r1
  cases d2 with
  |lst ys =>
   simp only[Rel]at r2
   obtain⟨a',ws,e,b4,d6⟩:=r2
   cases e
   have:=I.ua hq.sq b4.sq
   subst this
   rw[aj.inj I xs ys f1 f2 hr d6]
  |tup ys =>
   simp only[Rel]at r2
   obtain⟨a',ws,e,b4,d6⟩:=r2
   cases e
   exact(nu I b4.sq hq.sq).elim
  |dw=>cases f2
  |ref n=>cases f2
  |aM n=>cases f2
  |fn x=>cases f2
  |_=>simp[Rel]at r2
 |.dw,d2,v,f1,_,_,_=>by cases f1
 |.ref _,d2,v,f1,_,_,_=>by cases f1
 |.aM _,d2,v,f1,_,_,_=>by cases f1
 |.fn _,d2,v,f1,_,_,_=>by cases f1
theorem aj.inj {pins:List (Addr×Obj)}{σ:L2.St}{H:Hp}{s:Y4}{ι:Ix}(I:Inv X pins σ H s):∀(ds es:List D) {vs:List V},aU ds=true->aU es=true->aj X.kw H ι ds vs->aj X.kw H ι es vs->ds=es
 | [],es,vs,_,_,r1,r2=>by
  simp only[aj]at r1;subst r1
  cases es with
  |nil=>rfl
  |cons e es=>simp[aj]at r2
 |d::ds,es,vs,f1,f2,r1,r2=>by
  simp only[aj]at r1
  obtain⟨v,vr,rfl,hv,hr⟩:=r1
  cases es with
  |nil=>simp[aj]at r2
  |cons e es =>
   simp only[aj]at r2
   obtain⟨v',P6,e1,EM,d6⟩:=r2
   cases e1
   simp only[aU,Y3]at f1 f2
   rw[Rel.inj I d e f1.1 f2.1 hv EM,aj.inj I ds es f1.2 f2.2 hr d6]
end
theorem Rel.xa {K H ι d v b t}(r:Rel K H ι d v)(rv:RelV v (.float b t)):False:=by
 cases d with
 |aA=>simp only[Rel]at r;subst r;cases rv
 |bl _=>simp only[Rel]at r;subst r;cases rv
 |int _=>simp only[Rel]at r;subst r;obtain⟨t,e⟩:=rv;cases e
 |str _=>simp only[Rel]at r;subst r;obtain⟨t,e⟩:=rv;cases e
 |tup _=>simp only[Rel]at r;obtain⟨a,vs,rfl,_⟩:=r;cases rv
 |lst _=>simp only[Rel]at r;obtain⟨a,vs,rfl,_⟩:=r;cases rv
 |dw=>simp only[Rel]at r;obtain⟨a,rfl,_⟩:=r;cases rv
 |ref _=>simp only[Rel]at r;obtain⟨a,rfl,_⟩:=r;cases rv
 |aM _=>simp only[Rel]at r;obtain⟨a,rfl,_⟩:=r;cases rv
 |fn _=>simp only[Rel]at r;obtain⟨a,rfl,_⟩:=r;cases rv
theorem in1_units (A:Zz):A.in1.units=A.units+1:=rfl
section
open SeqAt
variable {pins:List (Addr×Obj)}{σ:L2.St}{H:Hp}{s:Y4}{ι:Ix}
theorem pG {A:Zz}{s:Y4}{u v:Value}{k:Bool}(h:RcAt A s u v k)(hs:u=v->k=true)(VY:∀b t,u ≠ .float b t):EqAt A s u v k:=λprog w E Q hq=>by
 unfold eqBool
 refine ZI ?_
 refine Z6 (λK3=>?_) (λ_=>?_)
 . rw[hs (eq_of_beq K3)]at hq
   exact xv (aaL (Y5 hq))
 . cases u with
   |float b t=>exact absurd rfl (VY b t)
   |_=>exact xv (h prog w E _ (ZU hq))
set_option maxHeartbeats 4000000 in
mutual
theorem uK (I:Inv X pins σ H s):∀(d1 d2:D) {A:Zz} {x y:V} {u v:Value},flat d1=true->flat d2=true->Rel X.kw H ι d1 x->Rel X.kw H ι d2 y->RelV x u->RelV y v->A.units+dep d1<cLine->RcAt A s u v (aI d1 d2)
 |.aA,d2,A,x,y,u,v,_,f2,r1,r2,ru,rv,hu=>by
  simp only[Rel]at r1;subst r1;cases ru
  cases d2 with
  |aA=>simp only[Rel]at r2;subst r2;cases rv;simp only[aI];exact .none_none
  |bl b=>simp only[Rel]at r2;subst r2;cases rv;simp only[aI];exact .none_bool b
  |int b=>simp only[Rel]at r2;subst r2;obtain⟨t,rfl⟩:=rv;simp only[aI];exact .none_int b t
  |str b=>simp only[Rel]at r2;subst r2;obtain⟨t,rfl⟩:=rv;simp only[aI];exact .none_str b t
  |tup ys=>simp only[Rel]at r2;obtain⟨a',ws,rfl,hq,hr⟩:=r2;cases rv;obtain⟨av,_,ht,_⟩:=I.tuple hq.sq;simp only[aI];exact .none_tuple ht (by omega)
  |lst ys=>simp only[Rel]at r2;obtain⟨a',ws,rfl,hq,hr⟩:=r2;cases rv;obtain⟨av,_,ht,_⟩:=I.list hq.sq;simp only[aI];exact .none_list ht.isList (by omega)
  |_=>cases f2
 |.bl a,d2,A,x,y,u,v,_,f2,r1,r2,ru,rv,hu=>by
  simp only[Rel]at r1;subst r1;cases ru
  cases d2 with
  |aA=>simp only[Rel]at r2;subst r2;cases rv;simp only[aI];exact .bool_none a
  |bl b=>simp only[Rel]at r2;subst r2;cases rv;simp only[aI];exact .bool_bool a b
  |int b=>simp only[Rel]at r2;subst r2;obtain⟨t,rfl⟩:=rv;simp only[aI];exact .bool_int a b t
  |str b=>simp only[Rel]at r2;subst r2;obtain⟨t,rfl⟩:=rv;simp only[aI];exact .bool_str a b t
  |tup ys=>simp only[Rel]at r2;obtain⟨a',ws,rfl,hq,hr⟩:=r2;cases rv;obtain⟨av,_,ht,_⟩:=I.tuple hq.sq;simp only[aI];exact .bool_tuple a ht (by omega)
  |lst ys=>simp only[Rel]at r2;obtain⟨a',ws,rfl,hq,hr⟩:=r2;cases rv;obtain⟨av,_,ht,_⟩:=I.list hq.sq;simp only[aI];exact .bool_list a ht.isList (by omega)
  |_=>cases f2
 |.int a,d2,A,x,y,u,v,_,f2,r1,r2,ru,rv,hu=>by
  simp only[Rel]at r1;subst r1;obtain⟨t0,rfl⟩:=ru
  cases d2 with
  |aA=>simp only[Rel]at r2;subst r2;cases rv;simp only[aI];exact .int_none a t0
  |bl b=>simp only[Rel]at r2;subst r2;cases rv;simp only[aI];exact .int_bool a t0 b
  |int b=>simp only[Rel]at r2;subst r2;obtain⟨t,rfl⟩:=rv;simp only[aI];exact .int_int a t0 b t
  |str b=>simp only[Rel]at r2;subst r2;obtain⟨t,rfl⟩:=rv;simp only[aI];exact .int_str a t0 b t
  |tup ys=>simp only[Rel]at r2;obtain⟨a',ws,rfl,hq,hr⟩:=r2;cases rv;obtain⟨av,_,ht,_⟩:=I.tuple hq.sq;simp only[aI];exact .int_tuple a t0 ht (by omega)
  |lst ys=>simp only[Rel]at r2;obtain⟨a',ws,rfl,hq,hr⟩:=r2;cases rv;obtain⟨av,_,ht,_⟩:=I.list hq.sq;simp only[aI];exact .int_list a t0 ht.isList (by omega)
  |_=>cases f2
 |.str a,d2,A,x,y,u,v,_,f2,r1,r2,ru,rv,hu=>by
  simp only[Rel]at r1;subst r1;obtain⟨t0,rfl⟩:=ru
  cases d2 with
  |aA=>simp only[Rel]at r2;subst r2;cases rv;simp only[aI];exact .str_none a t0
  |bl b=>simp only[Rel]at r2;subst r2;cases rv;simp only[aI];exact .str_bool a t0 b
  |int b=>simp only[Rel]at r2;subst r2;obtain⟨t,rfl⟩:=rv;simp only[aI];exact .str_int a t0 b t
  |str b=>simp only[Rel]at r2;subst r2;obtain⟨t,rfl⟩:=rv;simp only[aI];exact .str_str a t0 b t
  |tup ys=>simp only[Rel]at r2;obtain⟨a',ws,rfl,hq,hr⟩:=r2;cases rv;obtain⟨av,_,ht,_⟩:=I.tuple hq.sq;simp only[aI];exact .str_tuple a t0 ht (by omega)
  |lst ys=>simp only[Rel]at r2;obtain⟨a',ws,rfl,hq,hr⟩:=r2;cases rv;obtain⟨av,_,ht,_⟩:=I.list hq.sq;simp only[aI];exact .str_list a t0 ht.isList (by omega)
  |_=>cases f2
 |.tup xs,d2,A,x,y,u,v,f1,f2,r1,r2,ru,rv,hu=>by
  simp only[Rel]at r1;obtain⟨a,vs,rfl,hq,hr⟩:=r1;cases ru
  obtain⟨av,bu,ht,_⟩:=I.tuple hq.sq
  simp only[dep]at hu
  cases d2 with
  |aA=>simp only[Rel]at r2;subst r2;cases rv;simp only[aI];exact .tuple_none ht (by omega)
  |bl b=>simp only[Rel]at r2;subst r2;cases rv;simp only[aI];exact .tuple_bool b ht (by omega)
  |int b=>simp only[Rel]at r2;subst r2;obtain⟨t,rfl⟩:=rv;simp only[aI];exact .tuple_int b t ht (by omega)
  |str b=>simp only[Rel]at r2;subst r2;obtain⟨t,rfl⟩:=rv;simp only[aI];exact .tuple_str b t ht (by omega)
  |tup ys =>
   simp only[Rel]at r2;obtain⟨a',ws,rfl,b4,d6⟩:=r2;cases rv
   obtain⟨its',eQ,gY,_⟩:=I.tuple b4.sq
   simp only[aI,jH]
   have l1:xs.length=av.toArray.size:=by rw[Y_,<- bu.length];exact hr.length
   have l2:ys.length=its'.toArray.size:=by rw[Y_,<- eQ.length];exact d6.length
   rw[l1,l2]
   refine .tuples ht gY (by omega) λj h1 h2=>?_
   have:=kJ I xs ys (A:=A.in1) f1 f2 hr d6 bu eQ (by rw[in1_units];omega) j (by simpa using h1) (by simpa using h2)
   simpa using this
  |lst ys =>
   simp only[Rel]at r2;obtain⟨a',ws,rfl,b4,d6⟩:=r2;cases rv
   obtain⟨its',eQ,gY,_⟩:=I.list b4.sq
   simp only[aI];exact .tuple_list ht gY.isList (by omega)
  |_=>cases f2
 |.lst xs,d2,A,x,y,u,v,f1,f2,r1,r2,ru,rv,hu=>by
  simp only[Rel]at r1;obtain⟨a,vs,rfl,hq,hr⟩:=r1;cases ru
  obtain⟨av,bu,ht,_⟩:=I.list hq.sq
  simp only[dep]at hu
  cases d2 with
  |aA=>simp only[Rel]at r2;subst r2;cases rv;simp only[aI];exact .list_none ht.isList (by omega)
  |bl b=>simp only[Rel]at r2;subst r2;cases rv;simp only[aI];exact .list_bool b ht.isList (by omega)
  |int b=>simp only[Rel]at r2;subst r2;obtain⟨t,rfl⟩:=rv;simp only[aI];exact .list_int b t ht.isList (by omega)
  |str b=>simp only[Rel]at r2;subst r2;obtain⟨t,rfl⟩:=rv;simp only[aI];exact .list_str b t ht.isList (by omega)
  |lst ys =>
   simp only[Rel]at r2;obtain⟨a',ws,rfl,b4,d6⟩:=r2;cases rv
   obtain⟨its',eQ,gY,_⟩:=I.list b4.sq
   simp only[aI,jH]
   have l1:xs.length=av.toArray.size:=by rw[Y_,<- bu.length];exact hr.length
   have l2:ys.length=its'.toArray.size:=by rw[Y_,<- eQ.length];exact d6.length
   rw[l1,l2]
   by_cases hs:av.toArray.size=its'.toArray.size
   . have e0:(av.toArray.size == its'.toArray.size)=true:=by simpa using hs
     rw[e0,adi,<- hs,Nat.min_self]
     refine .lists ht.isList gY.isList hs (by omega) λj h1 h2=>?_
     have:=kJ I xs ys (A:=A.in1) f1 f2 hr d6 bu eQ (by rw[in1_units];omega) j (by simpa using h1) (by simpa using h2)
     simpa using this
   . have e0:(av.toArray.size == its'.toArray.size)=false:=by simpa using hs
     rw[e0,af_]
     exact .lists_lengths ht.isList gY.isList (by simpa using hs) (by omega)
  |tup ys =>
   simp only[Rel]at r2;obtain⟨a',ws,rfl,b4,d6⟩:=r2;cases rv
   obtain⟨its',eQ,gY,_⟩:=I.tuple b4.sq
   simp only[aI];exact .list_tuple ht.isList gY (by omega)
  |_=>cases f2
 |.dw,d2,A,x,y,u,v,f1,_,_,_,_,_,_=>by cases f1
 |.ref _,d2,A,x,y,u,v,f1,_,_,_,_,_,_=>by cases f1
 |.aM _,d2,A,x,y,u,v,f1,_,_,_,_,_,_=>by cases f1
 |.fn _,d2,A,x,y,u,v,f1,_,_,_,_,_,_=>by cases f1
theorem kJ (I:Inv X pins σ H s):∀(xs ys:List D) {A:Zz} {vs ws:List V} {us zs:List Value},aU xs=true->aU ys=true->aj X.kw H ι xs vs->aj X.kw H ι ys ws->Vals vs us->Vals ws zs->A.units+bX xs<cLine ->
  ∀(j:Nat) (h1:j<us.length) (h2:j<zs.length),EqAt A s us[j] zs[j] (aI (xs[j]?.getD .aA) (ys[j]?.getD .aA))
 | [],ys,A,vs,ws,us,zs,_,_,r1,_,ru,_,_,j,h1,_=>by
  simp only[aj]at r1;subst r1;cases ru;simp at h1
 |d::ds,ys,A,vs,ws,us,zs,f1,f2,r1,r2,ru,rz,hu,j,h1,h2=>by
  simp only[aj]at r1
  obtain⟨v,vr,rfl,hv,hr⟩:=r1
  simp only[bX]at hu
  simp only[aU,Y3]at f1
  cases ru with
  |cons jY uL =>
   cases ys with
   |nil=>simp only[aj]at r2;subst r2;cases rz;simp at h2
   |cons e es =>
    simp only[aj]at r2
    obtain⟨w,wr,rfl,hw,AE⟩:=r2
    simp only[aU,Y3]at f2
    cases rz with
    |cons pH AF =>
     cases j with
     |zero =>
      have rc:=uK I d e (A:=A) f1.1 f2.1 hv hw jY pH (by omega)
      simp only[List.getElem_cons_zero,adP,afy]
      refine pG rc (λK4=>?_) (λb t ef=>Rel.xa hv (by rw[ef]at jY;exact jY))
      subst K4
      have K5:=jY.inj pH
      subst K5
      have K6:=Rel.inj I d e f1.1 f2.1 hv hw
      subst K6
      exact fG d f1.1
     |succ j =>
      have:=kJ I ds es (A:=A) f1.2 f2.2 hr AE uL AF (by omega) j (by simpa using h1) (by simpa using h2)
      simpa using this
end
end
noncomputable def oEq (d1 d2:D)(g:G):Option (D×G):=if(flat d1&&flat d2&&decide (dep d1<=60))=true then some (.bl (aI d1 d2),g)else none
theorem OW (hu:X.A.units+64<cLine):bz X (ZF .Eq) (cG X.kw oEq):=by
 intro pins s σ H x y v u Q I rx ry q
 obtain⟨ι,g,d1,d2,d,g',G0,r1,r2,q,p⟩:=q
 unfold oEq at q
 split at q
 . rename_i z
   simp only[Y3,decide_eq_true_eq]at z
   cases q
   exact uK I d1 d2 z.1.1 z.1.2 r1 r2 rx ry (by omega) _ _ _ _ ⟨.bl _,H,I,rfl,p H ι _ Ext.refl G0 (by simp[Rel])⟩
 . cases q
noncomputable def dG:D->Bool
 |.aA=>true
 |_=>false
noncomputable def CV (d1 d2:D)(g:G):Option (D×G):=match d2 with|.aA=>some (.bl (dG d1),g)|_=>none
noncomputable def yR (d1 d2:D)(g:G):Option (D×G):=match d2 with|.aA=>some (.bl (!dG d1),g)|_=>none
theorem xb {K H ι d v}(r:Rel K H ι d v):decide (v=V.aA)=dG d:=by
 cases d with
 |aA=>simp only[Rel]at r;subst r;rfl
 |bl _=>simp only[Rel]at r;subst r;rfl
 |int _=>simp only[Rel]at r;subst r;rfl
 |str _=>simp only[Rel]at r;subst r;rfl
 |tup _=>simp only[Rel]at r;obtain⟨a,vs,rfl,_⟩:=r;rfl
 |lst _=>simp only[Rel]at r;obtain⟨a,vs,rfl,_⟩:=r;rfl
 |dw=>simp only[Rel]at r;obtain⟨a,rfl,_⟩:=r;rfl
 |ref _=>simp only[Rel]at r;obtain⟨a,rfl,_⟩:=r;rfl
 |aM _=>simp only[Rel]at r;obtain⟨a,rfl,_⟩:=r;rfl
 |fn _=>simp only[Rel]at r;obtain⟨a,rfl,_⟩:=r;rfl
theorem K7:bz X (ZF .Is) (cG X.kw CV):=by
 intro pins s σ H x y v u Q I rx ry q
 obtain⟨ι,g,d1,d2,d,g',G0,r1,r2,q,p⟩:=q
 cases d2 with
 |aA =>
  simp only[Rel]at r2;subst r2
  simp only[CV]at q
  cases q
  exact JV pins s σ H _ _ v u Q I rx ry ⟨rfl,by rw[xb r1];exact p H ι _ Ext.refl G0 (by simp[Rel])⟩
 |_=>cases q
theorem Hv:bz X (ZF .IsNot) (cG X.kw yR):=by
 intro pins s σ H x y v u Q I rx ry q
 obtain⟨ι,g,d1,d2,d,g',G0,r1,r2,q,p⟩:=q
 cases d2 with
 |aA =>
  simp only[Rel]at r2;subst r2
  simp only[yR]at q
  cases q
  refine GQ pins s σ H _ _ v u Q I rx ry ⟨rfl,?_⟩
  rw[xb r1]
  exact p H ι _ Ext.refl G0 (by simp[Rel])
 |_=>cases q
noncomputable def cv (d:D)(g:G):Option (List D):=match d with
 |.tup xs=>some xs
 |.lst xs=>some xs
 |.ref n=>g[n]?
 |_=>none
theorem iU {K H ι g d v xs}(G0:az K H ι g)(r:Rel K H ι d v)(h:cv d g=some xs):∃a vs,v = .ref a/\(dq K H a vs\/dP K H a vs)/\aj K H ι xs vs:=by
 cases d with
 |tup ys=>cases h;simp only[Rel]at r;obtain⟨a,vs,rfl,hq,hr⟩:=r;exact⟨a,vs,rfl,.inr hq.sq,hr⟩
 |lst ys=>cases h;simp only[Rel]at r;obtain⟨a,vs,rfl,hq,hr⟩:=r;exact⟨a,vs,rfl,.inl hq.sq,hr⟩
 |ref n =>
  simp only[Rel]at r;obtain⟨a,rfl,ha⟩:=r
  obtain⟨vs,h1,h2⟩:=G0.at h ha
  exact⟨a,vs,rfl,.inl (.of h1),h2⟩
 |_=>cases h
noncomputable def pI (d1 d2:D)(g:G):Option (D×G):=match d2 with
 |.int i=>(cv d1 g).bind λxs=>(dY xs i).map λd=>(d,g)
 |_=>none
theorem Hw {K H ι}{xs:List D}{vs:List V}{i:Int}{d:D}(r:aj K H ι xs vs)(h:dY xs i=some d):∃v,dY vs i=some v/\Rel K H ι d v:=by
 unfold dY at h ⊢
 rw[<- r.length]
 obtain⟨j,h1,h2⟩:=bind_some h
 obtain⟨v,h3,h4⟩:=r.get h2
 exact⟨v,by rw[h1];exact h3,h4⟩
theorem Hx:mq X (cG X.kw pI):=by
 intro value slice pins s σ H x y v u Q I rx ry q hs
 obtain⟨ι,g,d1,d2,d,g',G0,r1,r2,q,p⟩:=q
 cases d2 with
 |int i =>
  simp only[Rel]at r2;subst r2
  simp only[pI]at q
  obtain⟨xs,h1,q⟩:=bind_some q
  cases h2:dY xs i with
  |none=>rw[h2]at q;cases q
  |some e =>
   rw[h2]at q;cases q
   obtain⟨a,vs,rfl,hq,hr⟩:=iU G0 r1 h1
   obtain⟨w,h3,h4⟩:=Hw hr h2
   have fin:=p H ι w Ext.refl G0 h4
   rcases hq with hq|hq
   . exact Ag value slice pins s σ H _ _ v u Q I rx ry (.inl ⟨a,vs,i,w,rfl,rfl,hq,h3,fin⟩) hs
   . exact Ag value slice pins s σ H _ _ v u Q I rx ry (.inr (.inl ⟨a,vs,i,w,rfl,rfl,hq,h3,fin⟩)) hs
 |_=>cases q
noncomputable def cx (ds:List D)(g:G):Option (D×G):=match ds with| [d]=>(cv d g).map λxs=>(.int xs.length,g)|_=>none
theorem K8:cA X (.builtin "len") (ik X.kw cx):=by
 intro pins s σ H xs us Q I r q
 obtain⟨ι,g,ds,d,g',G0,r1,q,p⟩:=q
 cases ds with
 |nil=>cases q
 |cons e kK =>
 cases kK with
 |cons _ _=>cases q
 |nil =>
  simp only[cx]at q
  cases hx:cv e g with
  |none=>rw[hx]at q;cases q
  |some ys =>
   rw[hx]at q;cases q
   simp only[aj]at r1
   obtain⟨v,_,rfl,rv,rfl⟩:=r1
   obtain⟨a,vs,rfl,hq,hr⟩:=iU G0 rv hx
   exact uq pins s σ H _ us Q I r ⟨a,vs,rfl,hq,by rw[<- hr.length];exact p H ι _ Ext.refl G0 (by simp[Rel])⟩
noncomputable def qE (ds:List D)(g:G):Option (D×G):=match ds with| [.int i,.int j]=>some (.int (if j>i then j else i),g)|_=>none
noncomputable def qF (ds:List D)(g:G):Option (D×G):=match ds with| [.int i,.int j]=>some (.int (if j<i then j else i),g)|_=>none
theorem K9 (hc:X.calm=true):cA X (.builtin "max") (ik X.kw qE):=by
 intro pins s σ H xs us Q I r q
 obtain⟨ι,g,ds,d,g',G0,r1,q,p⟩:=q
 unfold qE at q
 split at q
 . cases q
   simp only[aj,Rel]at r1
   obtain⟨_,_,rfl,rfl,_,_,rfl,rfl,rfl⟩:=r1
   exact z9 hc pins s σ H _ us Q I r ⟨_,_,rfl,p H ι _ Ext.refl G0 (by simp[Rel])⟩
 . cases q
theorem K_ (hc:X.calm=true):cA X (.builtin "min") (ik X.kw qF):=by
 intro pins s σ H xs us Q I r q
 obtain⟨ι,g,ds,d,g',G0,r1,q,p⟩:=q
 unfold qF at q
 split at q
 . cases q
   simp only[aj,Rel]at r1
   obtain⟨_,_,rfl,rfl,_,_,rfl,rfl,rfl⟩:=r1
   exact z_ hc pins s σ H _ us Q I r ⟨_,_,rfl,p H ι _ Ext.refl G0 (by simp[Rel])⟩
 . cases q
noncomputable def ki (ds:List D)(g:G):Option (D×G):=match ds with| [.int i]=>some (.int i,g)| [.bl k]=>some (.int (if k then 1 else 0),g)|_=>none
theorem La:cA X (.type "int") (ik X.kw ki):=by
 intro pins s σ H xs us Q I r q
 obtain⟨ι,g,ds,d,g',G0,r1,q,p⟩:=q
 unfold ki at q
 split at q
 . cases q
   simp only[aj,Rel]at r1
   obtain⟨_,_,rfl,rfl,rfl⟩:=r1
   exact rR pins s σ H _ us Q I r (.inl ⟨_,rfl,p H ι _ Ext.refl G0 (by simp[Rel])⟩)
 . cases q
   simp only[aj,Rel]at r1
   obtain⟨_,_,rfl,rfl,rfl⟩:=r1
   exact rR pins s σ H _ us Q I r (.inr ⟨_,rfl,p H ι _ Ext.refl G0 (by simp[Rel])⟩)
 . cases q
noncomputable def da (ds:List D)(g:G):Option (D×G):=match ds with| [d]=>(cv d g).bind λxs=>if aG xs.length=true then some (.tup xs,g)else none|_=>none
noncomputable def jq (ds:List D)(g:G):Option (D×G):=match ds with| [d]=>(cv d g).bind λxs=>if aG xs.length=true then some (.ref g.length,g ++ [xs])else none|_=>none
theorem Lb:cA X (.type "tuple") (ik X.kw da):=by
 intro pins s σ H xs us Q I r q
 obtain⟨ι,g,ds,d,g',G0,r1,q,p⟩:=q
 cases ds with
 |nil=>cases q
 |cons e kK =>
 cases kK with
 |cons _ _=>cases q
 |nil =>
  simp only[da]at q
  obtain⟨ys,hx,q⟩:=bind_some q
  split at q
  . rename_i z
    cases q
    simp only[aj]at r1
    obtain⟨v,_,rfl,rv,rfl⟩:=r1
    cases e with
    |tup zs =>
     cases hx
     simp only[Rel]at rv
     obtain⟨a,vs,rfl,hq,hr⟩:=rv
     exact lS pins s σ H _ us Q I r ⟨a,vs,rfl,.inr ⟨hq.sq,p H ι _ Ext.refl G0 (by simp only[Rel];exact⟨a,vs,rfl,hq,hr⟩)⟩⟩
    |_ =>
     obtain⟨a,vs,rfl,hq,hr⟩:=iU G0 rv hx
     have VZ:dq X.kw H a vs:=by
      rcases hq with hq|hq
      . exact hq
      . exfalso
        first
         | (cases hx;done)
         | (simp only[Rel]at rv;obtain⟨a',V0,e1,b4,_⟩:=rv;cases e1;exact nu I hq b4.sq)
         | (simp only[Rel]at rv;obtain⟨a',e1,ha⟩:=rv;cases e1;obtain⟨ws,h1,h2⟩:=G0.at hx ha;exact nu I hq (.of h1))
     refine lS pins s σ H _ us Q I r ⟨a,vs,rfl,.inl ⟨VZ,λl hl=>p _ _ _ (Ext.lay hl) (G0.lay hl) ?_⟩⟩
     simp only[Rel]
     exact⟨l,vs,rfl,.inl ⟨.inl bA,G0.fresh hl⟩,aj.ext (Ext.lay hl) _ hr⟩
  . cases q
theorem Hy:cA X (.type "list") (ik X.kw jq):=by
 intro pins s σ H xs us Q I r q
 obtain⟨ι,g,ds,d,g',G0,r1,q,p⟩:=q
 cases ds with
 |nil=>cases q
 |cons e kK =>
 cases kK with
 |cons _ _=>cases q
 |nil =>
  simp only[jq]at q
  obtain⟨ys,hx,q⟩:=bind_some q
  split at q
  . rename_i z
    cases q
    simp only[aj]at r1
    obtain⟨v,_,rfl,rv,rfl⟩:=r1
    obtain⟨a,vs,rfl,hq,hr⟩:=iU G0 rv hx
    refine uu pins s σ H _ us Q I r ⟨a,vs,rfl,hq,λl hl=>p _ _ _ (Ext.push hl) (G0.push hl hr) ?_⟩
    simp only[Rel]
    exact⟨l,rfl,dZ.new G0.len⟩
  . cases q
end
section
variable {X:Cx}
inductive Ty|int|bool|str|tuple|list|dict
noncomputable def Ty.name:Ty->String
 |.int=>"int"|.bool=>"bool"|.str=>"str"|.tuple=>"tuple"|.list=>"list"|.dict=>"dict"
noncomputable def gJ:Ty->D->Bool
 |.int,.int _=>true|.int,.bl _=>true|.bool,.bl _=>true|.str,.str _=>true
 |.tuple,.tup _=>true|.list,.lst _=>true|.list,.ref _=>true|.dict,.dw=>true|.dict,.aM _=>true
 |_,_=>false
noncomputable def isFn:D->Bool
 |.fn _=>true
 |_=>false
noncomputable def iB (T:Ty)(f:FE):FE:=λσ g=>(f σ g).bind λr=>if isFn r.1=true then none else some (.bl (gJ T r.1),r.2)
theorem isi_call {pins:List (Addr×Obj)}{s:Y4}{σ:L2.St}{H:Hp}{ι:Ix}{g:G}{d:D}{x:V}{u:Value}{Q:Value->Y4->Prop}(T:Ty)(I:Inv X pins σ H s)(G0:az X.kw H ι g)(r:Rel X.kw H ι d x)(hd:isFn d=false)(ru:RelV x u)(h:∀tk,Q (.bool (gJ T d)) { s with toks:=tk }):
  wpAny (model X.prog X.w) X.A (call (.builtin "isinstance") [u,.type T.name]) Q X.xe s:=by
 cases d with
 |aA=>simp only[Rel]at r;subst r;cases ru;exact PySem.W.kia_one PySem.W.kitx_none I.i9 abJ (b:=gJ T .aA) (by cases T<;>rfl) (λz=>nomatch z) h
 |bl b=>simp only[Rel]at r;subst r;cases ru;exact PySem.W.kia_one PySem.W.kitx_bool I.i9 abJ (b:=gJ T (.bl b)) (by cases T<;>rfl) (λz=>nomatch z) h
 |int b=>simp only[Rel]at r;subst r;obtain⟨t,rfl⟩:=ru;exact PySem.W.kia_one PySem.W.kitx_int I.i9 abJ (b:=gJ T (.int b)) (by cases T<;>rfl) (λz=>nomatch z) h
 |str b=>simp only[Rel]at r;subst r;obtain⟨t,rfl⟩:=ru;exact PySem.W.kia_one PySem.W.kitx_str I.i9 abJ (b:=gJ T (.str b)) (by cases T<;>rfl) (λz=>nomatch z) h
 |tup xs =>
  simp only[Rel]at r;obtain⟨a,vs,rfl,hq,hr⟩:=r;cases ru
  obtain⟨av,_,⟨o,h1,h2,_⟩,_⟩:=I.tuple hq.sq
  exact PySem.W.kia_one PySem.W.kitx_tuple I.i9 ⟨o,h1,h2⟩ (b:=gJ T (.tup xs)) (by cases T<;>rfl) (λz=>nomatch z) h
 |lst xs =>
  simp only[Rel]at r;obtain⟨a,vs,rfl,hq,hr⟩:=r;cases ru
  obtain⟨av,_,⟨o,n,h1,h2,_⟩,_⟩:=I.list hq.sq
  exact PySem.W.kia_one PySem.W.kitx_list I.i9 ⟨o,h1,h2⟩ (b:=gJ T (.lst xs)) (by cases T<;>rfl) (λz=>nomatch z) h
 |ref n =>
  simp only[Rel]at r;obtain⟨a,rfl,ha⟩:=r;cases ru
  have hi:n<g.length:=by rw[<- G0.len];exact(Y7.mp ha.1).1
  obtain⟨vs,h1,h2⟩:=G0.at (Y8 hi) ha
  obtain⟨av,_,⟨o,n,h1,h2,_⟩,_⟩:=I.list (dq.of h1)
  exact PySem.W.kia_one PySem.W.kitx_list I.i9 ⟨o,h1,h2⟩ (b:=true&&gJ T (.lst [])) (by cases T<;>rfl) (λz=>nomatch z) (by cases T<;>exact h)
 |dw =>
  simp only[Rel]at r;obtain⟨a,rfl,ha,_⟩:=r;cases ru
  obtain⟨_,_,vs,_,p⟩:=(show cW X.prog X.w H s.heap a (.dK []) from I.bJ a _ ha)
  obtain⟨o,es,ep,h1,h2,_⟩:=p
  exact PySem.W.kia_one PySem.W.kitx_dict I.i9 ⟨o,h1,h2.1⟩ (b:=gJ T .dw) (by cases T<;>rfl) (λz=>nomatch z) h
 |aM n =>
  simp only[Rel]at r;obtain⟨a,rfl,ha⟩:=r;cases ru
  have hi:n<g.length:=by rw[<- G0.len];exact(Y7.mp ha.1).1
  obtain⟨es,vs,c,h1,_⟩:=G0.nV (Y8 hi) ha
  have h2:=((show cW X.prog X.w H s.heap a (dO a es c) from I.bJ a _ h1)).1
  exact PySem.W.kia_one PySem.W.kitx_dict I.i9 ⟨_,h2,rfl⟩ (b:=gJ T (.aM n)) (by cases T<;>rfl) (λz=>nomatch z) h
 |fn y=>cases hd
theorem Lc {a:Expr}{fa:FE}{p p2 pos:Pos}(T:Ty)(hm:X.mg "isinstance" = none)(V1:X.mg (Zy T.name)=none)(ha:DE X a fa)(hg:Gl X "isinstance":=by rfl)(V2:Gl X (Zy T.name):=by rfl)
   (eL:Zv [a,.Name (Zy T.name) p2] X.env=(false,eval a X.env)::Zv [.Name (Zy T.name) p2] X.env:=by rfl):DE X (.Call (.Name "isinstance" p) [a,.Name (Zy T.name) p2] [] pos) (iB T fa):=.of (by
 have hT:aaK (Zy T.name)=some (.type T.name):=by
   cases T
   . exact af2
   . exact PyProof.Rows.boot_bool
   . exact PyProof.Rows.boot_str
   . exact ad4
   . exact afL
   . exact PyProof.Rows.boot_dict
 have hc:cA X (.builtin "isinstance") (λxs H Q=>∃x ι g d,xs = [x,.ty T.name]/\az X.kw H ι g/\Rel X.kw H ι d x/\isFn d=false/\Q (.bl (gJ T d)) H):=by
   intro pins s σ H xs us Q I r q
   obtain⟨x,ι,g,d,rfl,G0,rd,nf,q⟩:=q
   obtain⟨u,w',rfl,ru,rt⟩:=vals2 r
   cases rt
   exact isi_call T I G0 rd nf ru λtk=>⟨.bl _,H,I.tok _,rfl,q⟩
 refine PE.imp (ug hc hg hm PyProof.Rows.boot_isinstance (kB ha.un (kB (GG (v:=.ty T.name) V2 V1 hT rfl (by cases T<;>decide) (by cases T<;>decide)) oZ (by rfl)) eL) (by decide) (by decide) eL) λσ H Q h=>?_
 obtain⟨ι,σd,g,d,g',G0,S0,h,p⟩:=h
 obtain⟨⟨d1,g1⟩,h1,h⟩:=bind_some h
 dsimp only at h
 split at h
 . cases h
 rename_i nf
 cases h
 exact tD.bind G0 S0 h1 λH1 ι1 v e1 G1 S1 r1=>⟨v,ι1,g',d1,rfl,G1,r1,by simpa using nf,p H1 ι1 _ e1 G1 (by simp[Rel])⟩)
noncomputable def bools:List D->Option (List Bool)
 | []=>some []
 |.bl b::ds=>(bools ds).map (b :: ·)
 |_=>none
noncomputable def fu (ds:List D)(g:G):Option (D×G):=match ds with| [.lst xs]=>(bools xs).map λbs=>(.bl (bs.all id),g)|_=>none
theorem mC {K H ι}:∀{xs:List D} {vs:List V} {us:List Value} {bs:List Bool},bools xs=some bs->aj K H ι xs vs->Vals vs us->us=bs.map aa9
 | [],vs,us,bs,hb,r,rv=>by simp only[aj]at r;subst r;cases rv;cases hb;rfl
 |.bl b::ds,vs,us,bs,hb,r,rv=>by
  simp only[aj,Rel]at r
  obtain⟨v,vr,rfl,rfl,hr⟩:=r
  cases rv with
  |cons r0 rr =>
   cases r0
   simp only[bools]at hb
   cases eE:bools ds with
   |none=>rw[eE]at hb;cases hb
   |some Yt =>
    rw[eE]at hb;cases hb
    rw[mC eE hr rr];rfl
 |.aA::ds,_,_,_,hb,_,_=>by simp[bools]at hb
 |.int _::ds,_,_,_,hb,_,_=>by simp[bools]at hb
 |.str _::ds,_,_,_,hb,_,_=>by simp[bools]at hb
 |.tup _::ds,_,_,_,hb,_,_=>by simp[bools]at hb
 |.lst _::ds,_,_,_,hb,_,_=>by simp[bools]at hb
 |.dw::ds,_,_,_,hb,_,_=>by simp[bools]at hb
 |.ref _::ds,_,_,_,hb,_,_=>by simp[bools]at hb
theorem pJ {s:Y4}{h':Heap}{o:Obj}(hk:∀b x,b ∉ [s.heap.objs.size]->(s.heap.push o).get? b=some x->h'.get? b=some x):∀b x,s.heap.get? b=some x->h'.get? b=some x :=
 λb x e=>hk b x (λhm=>by rw[abK.mp hm]at e;exact aaz _ (Zf e)) (Y6 _ e)
theorem yS (bs:List Bool):((Y9 bs.length).all λi=>(bs[i]?).getD true)=bs.all id:=by
 rw[afT]
 simp only[Zi,Zm,id_eq]
 constructor
 . intro h x hx
   obtain⟨i,hi,e⟩:=aax.mp hx
   have:=h i hi
   rw[Y8 hi,e]at this
   simpa using this
 . intro h i hi
   rw[Y8 hi]
   exact h _ (aaf hi)
theorem yT (bs:List Bool):((Y9 bs.length).any λi=>(bs[i]?).getD false)=bs.any id:=by
 rw[afT]
 simp only[aaN,Zm,id_eq]
 constructor
 . rintro⟨i,hi,h⟩
   rw[Y8 hi]at h
   exact⟨_,aaf hi,by simpa using h⟩
 . rintro⟨x,hx,h⟩
   obtain⟨i,hi,e⟩:=aax.mp hx
   exact⟨i,hi,by rw[Y8 hi,e];simpa using h⟩
theorem Ld (hc:X.calm=true):cA X (.builtin "all") (ik X.kw fu):=by
 intro pins s σ H xs us Q I r q
 obtain⟨ι,g,ds,d,g',G0,r1,q,p⟩:=q
 unfold fu at q
 split at q
 . rename_i ys
   cases hb:bools ys with
   |none=>rw[hb]at q;cases q
   |some bs =>
    rw[hb]at q;cases q
    simp only[aj,Rel]at r1
    obtain⟨_,_,rfl,⟨a,vs,rfl,hq,hr⟩,rfl⟩:=r1
    obtain⟨u,rfl,ru⟩:=vals1 r
    cases ru
    obtain⟨av,bu,pl,hz⟩:=I.list hq.sq
    have e0:=mC hb hr bu
    subst e0
    have hl:=pl.isList
    have bD:a<s.heap.objs.size:=by obtain⟨_,e,_⟩:=hl;exact Zf e
    refine call_all_walk (ado hl ?_)
    refine⟨s.heap.objs.size,[s.heap.objs.size,a],[s.heap.objs.size],_,_,_,λi=>(bs[i]?).getD true,rfl,Walks.list (A:=X.A.in1) (I.ok.hd hc) _ a (Zk bD) _,
      ⟨⟨_,Zg _ rfl,rfl,rfl⟩,hl.push _⟩,λi v s' Q' E' hP hQ=>?_,λh' tk hk=>?_⟩
    . have mD:(bs.map aa9)[i]? = some v:=by simpa using hP
      rw[ZS]at mD
      cases e:bs[i]? with
      |none=>rw[e]at mD;cases mD
      |some b =>
       rw[e]at mD;cases mD
       dsimp only at hQ
       rw[e]at hQ
       exact ZU hQ
    . have e:((Y9 (bs.map aa9).toArray.size).all λi=>(bs[i]?).getD true)=bs.all id:=by
       rw[Y_,Zr];exact yS bs
      rw[e]
      exact⟨.bl _,H,I.kept (pJ hk),rfl,p H ι _ Ext.refl G0 (by simp[Rel])⟩
 . cases q
end
end L3
namespace L3
open PySem PySem.Spec PyProof.Rows L2
open Sem (wp)
open Builtin
theorem tuple_addW0 (l b:Addr)(items fH:Array Value)(n n2:Nat)(dd ml:Option Addr)(sl lR:Array (Option Value))(Yu:items.isEmpty=true):
  Meets (abt.«tuple.__add__» ⟨[.ref l,.ref b],[]⟩) (λ_ R s=>s.heap.get? l=some { cls:=.type "tuple",dict:=dd,data:=.seq items n,slots:=sl }/\s.heap.get? b=some { cls:=.type "tuple",dict:=ml,data:=.seq fH n2,slots:=lR }/\R (.ok (.ret (abX b))) { s with heap:=s.heap,toks:=s.toks }):=
 .of_wp λprog w A R s h=>by obtain⟨hp,g,d,tk,os⟩:=s;obtain⟨hl,hb,h⟩:=h;have f1:=acz;have f2:=aaY;have f3:=AutoSeq1.sub_list_list;have f4:=AutoSeq1.sub_tuple_list;have f5:=AutoSeq1.sub_list_tuple;wp_walk using Z0 hl,Z0 hb;exact⟨_,rfl,h⟩
theorem oD:fillsNumberSlot (.type "tuple") "mul" = pure false :=
 PySem.fillsNumberSlot_seq (id:="tuple.__mul__") (r:=some (.builtin "tuple.__rmul__")) F.slot_tuple_mul.lookup (by decide +kernel) F.slot_tuple_rmul.lookup (by decide +kernel)
theorem uM:seqRepeat? (.type "tuple")=pure (some (.builtin "tuple.__mul__")):=by
 unfold seqRepeat?
 rw[PySem.seqSlot_of (T:="tuple") (name:="__mul__") (id:="tuple.__mul__") F.slot_tuple_mul.lookup (by decide +kernel),PySem.seqSlot_of (T:="tuple") (name:="__rmul__") (id:="tuple.__rmul__") F.slot_tuple_rmul.lookup (by decide +kernel)]
 rfl
theorem qG (a:Int)(t:Tok)(l:Addr)(items:Array Value)(n:Nat)(dd:Option Addr)(sl:Array (Option Value)):
  Meets (abt.«int.__rmul__» ⟨[.int a t,.ref l],[]⟩) (λ_ R s=>s.heap.get? l=some { cls:=.type "tuple",dict:=dd,data:=.seq items n,slots:=sl }/\R (.ok (.ret aeq)) s):=
 .of_wp λprog w A R s h=>by obtain⟨hp,g,d,tk,os⟩:=s;obtain⟨hl,h⟩:=h;wp_walk;exact⟨_,rfl,h⟩
theorem yU (l:Addr)(items:Array Value)(n:Nat)(dd:Option Addr)(sl:Array (Option Value))(x:Int)(u:Tok)(h0:¬(decide (x < -(2 ^ 63))||decide (x>=2 ^ 63))=true)(h1:¬(items.isEmpty||x == 1)=true)(h2:¬(decide (x<=0)||items.isEmpty)=true)
  (h3:¬(items.size:Int)*x>(2 ^ 63-1) / 8) (h4:¬adX ((items.size:Int)*x)=true) (hsz:((Zo x.toNat items).foldl (· ++ ·) #[]).size<=Zl):
  Meets (abt.«tuple.__mul__» ⟨[.ref l,.int x u],[]⟩) (λ_ R s=>s.heap.get? l=some { cls:=.type "tuple",dict:=dd,data:=.seq items n,slots:=sl }/\R (.ok (.ret (abX s.heap.objs.size))) { s with heap:=s.heap.push { cls:=Z3 "tuple",data:=Data.seq ((Zo x.toNat items).foldl (· ++ ·) #[]) },toks:=s.toks }):=
 .of_wp λprog w A R s h=>by
  obtain⟨hp,g,d,tk,os⟩:=s;obtain⟨hl,h⟩:=h
  have f1:=acz;have f2:=aaY
  wp_walk using Z0 hl
  refine acP (decide_eq_false h0) ?_
  wp_walk using Z0 hl
  refine acP (decide_eq_false h3) ?_
  wp_walk using Z0 hl
  exact⟨_,rfl,h⟩
theorem wD (l:Addr)(items:Array Value)(n:Nat)(dd:Option Addr)(sl:Array (Option Value))(x:Int)(u:Tok)(h0:¬(decide (x < -(2 ^ 63))||decide (x>=2 ^ 63))=true)(h1:(items.isEmpty||x == 1)=true):
  Meets (abt.«tuple.__mul__» ⟨[.ref l,.int x u],[]⟩) (λ_ R s=>s.heap.get? l=some { cls:=.type "tuple",dict:=dd,data:=.seq items n,slots:=sl }/\R (.ok (.ret (abX l))) { s with heap:=s.heap,toks:=s.toks }):=
 .of_wp λprog w A R s h=>by
  obtain⟨hp,g,d,tk,os⟩:=s;obtain⟨hl,h⟩:=h
  have f1:=acz;have f2:=aaY
  wp_walk using Z0 hl
  refine acP (decide_eq_false h0) ?_
  wp_walk using Z0 hl
  exact⟨_,rfl,h⟩
theorem wF (l:Addr)(items:Array Value)(n:Nat)(dd:Option Addr)(sl:Array (Option Value))(x:Int)(u:Tok)(h0:¬(decide (x < -(2 ^ 63))||decide (x>=2 ^ 63))=true)(h1:¬(items.isEmpty||x == 1)=true)(h2:(decide (x<=0)||items.isEmpty)=true):
  Meets (abt.«tuple.__mul__» ⟨[.ref l,.int x u],[]⟩) (λ_ R s=>s.heap.get? l=some { cls:=.type "tuple",dict:=dd,data:=.seq items n,slots:=sl }/\R (.ok (.ret (abX s.heap.objs.size))) { s with heap:=s.heap.push { cls:=Z3 "tuple",data:=Data.seq #[] },toks:=s.toks }):=
 .of_wp λprog w A R s h=>by
  obtain⟨hp,g,d,tk,os⟩:=s;obtain⟨hl,h⟩:=h
  have f1:=acz;have f2:=aaY
  wp_walk using Z0 hl
  refine acP (decide_eq_false h0) ?_
  wp_walk using Z0 hl
  exact⟨_,rfl,h⟩
section
variable {X:Cx}
noncomputable def OX (K:KW):R2:=λx y H Q=>∃a k xs,x = .ref a/\y = .int k/\dP K H a xs /\ -(2 ^ 63)<=k/\k<2 ^ 63/\xs.length*k.toNat<=16777216 /\
 ((xs = []\/k=1)->Q (.ref a) H)/\(xs ≠ []->k<=0->∀p,H p=none->Q (.ref p) (upd H p (.tup [])))/\(xs ≠ []->2<=k->∀p,H p=none->Q (.ref p) (upd H p (.tup (Zo k.toNat xs).flatten)))
theorem Hz:bz X (ZT .Mult) (OX X.kw):=by
 intro pins s σ H x y v u Q I rx ry h
 obtain⟨a,k,xs,rfl,rfl,hq,h1,h2,hz,q1,q0,q2⟩:=h
 cases rx
 obtain⟨t,rfl⟩:=ry
 obtain⟨av,r,ht,Le⟩:=I.tuple hq
 have hl:=r.length
 obtain⟨⟨cls,dd,data,sl⟩,ho,hc,n,hd⟩:=id ht
 simp only at hc hd
 subst hc hd
 have hk:¬(decide (k < -(2 ^ 63))||decide (k>=2 ^ 63))=true:=by
   rw[ZR,decide_eq_true_eq,decide_eq_true_eq]
   omega
 refine wpAny_binaryOp_repeat_ref (T:="tuple") (U:="int") (by decide) ⟨_,ho,rfl⟩ (λs'=>adv s' k t) oD F.fills_int_mul F.slot_int_rmul uM F.slot_int_index.lookup
   (ab0 F.slot_int_rmul (adv s k t) F.entry_int_rmul (F.args_int_rmul_2 _ _) (qG k t a av.toArray n dd sl) ⟨ho,rfl,⟨_,ho,rfl⟩,?_⟩)
 by_cases c1:xs = []\/k=1
 . refine ab0 F.slot_tuple_mul ⟨_,ho,rfl⟩ F.entry_tuple_mul (F.args_tuple_mul_2 _ _) (wD a av.toArray n dd sl k t hk ?_) ⟨ho,.ref a,H,I,rfl,q1 c1⟩
   rcases c1 with c1|c1
   . subst c1
     cases r
     simp
   . subst c1;simp
 . have hx:xs ≠ []:=λe=>c1 (.inl e)
   have AG:k≠1:=λe=>c1 (.inr e)
   have hi:av ≠ []:=λe=>hx (by subst e;cases r;rfl)
   have n1:¬(av.toArray.isEmpty||k == 1)=true:=by simp[hi,AG]
   have fresh:H s.heap.objs.size=none:=I.bJ.fresh (Za _)
   by_cases c0:k<=0
   . refine ab0 F.slot_tuple_mul ⟨_,ho,rfl⟩ F.entry_tuple_mul (F.args_tuple_mul_2 _ _) (wF a av.toArray n dd sl k t hk n1 (by simp[c0])) ⟨ho,?_⟩
     refine⟨.ref _,_,I.laid (t':=s.toks) (λb u e=>Y6 _ e) (Za _) ?_,rfl,q0 hx c0 _ fresh⟩
     exact⟨ZM _,[],.nil,⟨_,Zg _ rfl,rfl,⟨_,rfl⟩,rfl⟩⟩
   . have Lf:List.foldl (λx1 x2=>x1++x2) #[] (Zo k.toNat av.toArray)=(Zo k.toNat av).flatten.toArray:=by
       have:=foldl_rep av k.toNat []
       rw[aam]at this
       exact this
     have hs:Zl=16777216:=aaU
     have hsz:(av.length:Int)*k<=16777216:=by
       have e1:((xs.length*k.toNat:Nat):Int)<=16777216:=Int.ofNat_le.mpr hz
       rw[Int.natCast_mul,Int.toNat_of_nonneg (by omega),hl]at e1
       exact e1
     refine ab0 F.slot_tuple_mul ⟨_,ho,rfl⟩ F.entry_tuple_mul (F.args_tuple_mul_2 _ _) (yU a av.toArray n dd sl k t hk n1 (by simp[c0,hi]) (by rw[Y_];omega) ?_ ?_) ⟨ho,?_⟩
     . rw[Y_]
       unfold adX
       simp
       omega
     . rw[Lf,Y_,len_rep,<- hl,adH,hs];exact hz
     . rw[Lf]
       refine⟨.ref _,_,I.laid (t':=s.toks) (λb u e=>Y6 _ e) (Za _) ?_,rfl,q2 hx (by omega) _ fresh⟩
       exact⟨by rw[len_rep,adH,hs];exact hz,_,r.rep k.toNat,⟨_,Zg _ rfl,rfl,⟨_,rfl⟩,rfl⟩⟩
theorem aj.rep {K H ι}{xs:List D}{vs:List V}(r:aj K H ι xs vs):∀k:Nat,aj K H ι (Zo k xs).flatten (Zo k vs).flatten
 | 0=>by simp[aj]
 |k+1=>by
  rw[aaC,aaC,abn,abn]
  exact aj.append r (aj.rep r k)
noncomputable def bU (d1 d2:D)(g:G):Option (D×G):=match d1,d2 with
 |.int i,.int j=>if dg i j=true then some (.int (i*j),g)else none
 |.tup xs,.int k=>if(gH k&&aG (xs.length*k.toNat))=true then some (.tup (Zo k.toNat xs).flatten,g)else none
 |_,_=>none
theorem Lg:bz X (ZT .Mult) (cG X.kw bU):=by
 intro pins s σ H x y v u Q I rx ry q
 obtain⟨ι,g,d1,d2,d,g',G0,r1,r2,q,p⟩:=q
 unfold bU at q
 split at q
 . split at q
   . rename_i i j z
     exact Ht pins s σ H x y v u Q I rx ry ⟨ι,g,.int i,.int j,d,g',G0,r1,r2,by simp only[aR];rw[if_pos z];exact q,p⟩
   . cases q
 . split at q
   . rename_i xs k z
     simp only[Y3]at z
     have z1:=gH.and z.1
     have z2:=aG.le z.2
     cases q
     simp only[Rel]at r1 r2
     obtain⟨a,vs,rfl,hq,hr⟩:=r1
     subst r2
     have hl:=hr.length
     have new:∀{zs:List D} {ws:List V},aj X.kw H ι zs ws->zs=(Zo k.toNat xs).flatten->∀q,H q=none->Q (.ref q) (upd H q (.tup ws)):=fun {zs ws} rz ez q b4=>by
       subst ez
       refine p _ _ _ (Ext.lay b4) (G0.lay b4) ?_
       simp only[Rel]
       exact⟨q,ws,rfl,.inl ⟨.inl bA,G0.fresh b4⟩,aj.ext (Ext.lay b4) _ rz⟩
     refine Hz pins s σ H _ _ v u Q I rx ry ⟨a,k,vs,rfl,rfl,hq.sq,(by omega),(by omega),by rw[<- hl];exact z2,λc=>?_,λhx hk=>?_,λhx hk=>?_⟩
     . refine p H ι _ Ext.refl G0 ?_
       simp only[Rel]
       refine⟨a,vs,rfl,hq,?_⟩
       rcases c with c|c
       . subst c
         have:xs = []:=abM (by simpa using hl)
         subst this
         have e0:(Zo k.toNat ([]:List D)).flatten = []:=by simp
         rw[e0];exact hr
       . subst c
         have e0:(Zo (1:Int).toNat xs).flatten=xs:=by simp
         rw[e0];exact hr
     . refine new (zs:=[]) (by simp[aj]) ?_
       have:k.toNat=0:=by omega
       rw[this];simp
     . exact new (hr.rep k.toNat) rfl
   . cases q
 . cases q
theorem CW:bz X (ZT .Add) (λx y H Q=>∃a b ys,x = .ref a/\y = .ref b/\dP X.kw H a []/\dP X.kw H b ys/\Q (.ref b) H):=by
 intro pins s σ H x y v u Q I rx ry h
 obtain⟨a,b,ys,rfl,rfl,ha,hb,q⟩:=h
 cases rx
 cases ry
 obtain⟨av,r1,p1,_⟩:=I.tuple ha
 obtain⟨oz,r2,p2,_⟩:=I.tuple hb
 obtain⟨⟨cls,dd,data,sl⟩,ho,hc,n,hd⟩:=id p1
 obtain⟨⟨Cu,ml,data2,lR⟩,f_,jA,n2,hd2⟩:=id p2
 simp only at hc hd jA hd2
 subst hc hd jA hd2
 exact adF ⟨_,ho,rfl⟩ ⟨_,f_,rfl⟩ adG aez PySem.F.slot_tuple_add PySem.F.entry_tuple_add (PySem.F.args_tuple_add_2 _ _)
  (tuple_addW0 a b av.toArray oz.toArray n n2 dd ml sl lR (by cases r1;simp)) ⟨ho,f_,.ref b,H,I,rfl,q⟩
theorem HA:bz X (ZT .Add) (λx y H Q=>∃a b xs ys,x = .ref a/\y = .ref b/\dq X.kw H a xs/\dq X.kw H b ys/\xs.length+ys.length<=Zl /\ ∀p,H p=none->Q (.ref p) (upd H p (.lst (xs++ys)))):=by
 intro pins s σ H x y v u Q I rx ry h
 obtain⟨a,b,xs,ys,rfl,rfl,ha,hb,hz,q⟩:=h
 cases rx
 cases ry
 obtain⟨av,r1,p1,_⟩:=I.list ha
 obtain⟨oz,r2,p2,_⟩:=I.list hb
 obtain⟨⟨cls,dd,data,sl⟩,n,ho,hc,P8,hd⟩:=id p1
 obtain⟨⟨Cu,ml,data2,lR⟩,n2,f_,jA,Lh,hd2⟩:=id p2
 simp only at hc hd jA hd2 P8 Lh
 subst hc hd jA hd2 P8 Lh
 have e:av.toArray++oz.toArray=(av++oz).toArray:=by simp
 have hl:av.length+oz.length<=Zl:=by rw[<- r1.length,<- r2.length];exact hz
 refine adF ⟨_,ho,rfl⟩ ⟨_,f_,rfl⟩ noFill_list_add seq_list_add PySem.F.slot_list_add PySem.F.entry_list_add (PySem.F.args_list_add_2 _ _) (list_addW a b av.toArray oz.toArray n n2 none none sl lR (by simpa using hl)) ⟨ho,f_,?_⟩
 rw[e]
 exact⟨.ref _,_,I.RQ (t':=s.toks) (r1.append r2) (by rw[aav];exact hz),rfl,q _ I.fresh⟩
noncomputable def dS (d:D)(g:G):Option (List D):=match d with
 |.lst xs=>some xs
 |.ref n=>g[n]?
 |_=>none
theorem gB {K H ι g d v xs}(G0:az K H ι g)(r:Rel K H ι d v)(h:dS d g=some xs):∃a vs,v = .ref a/\dq K H a vs/\aj K H ι xs vs:=by
 cases d with
 |lst ys =>
  cases h
  simp only[Rel]at r
  obtain⟨a,vs,rfl,hq,hr⟩:=r
  exact⟨a,vs,rfl,hq.sq,hr⟩
 |ref n =>
  simp only[Rel]at r
  obtain⟨a,rfl,ha⟩:=r
  obtain⟨vs,h1,h2⟩:=G0.at h ha
  exact⟨a,vs,rfl,.of h1,h2⟩
 |_=>cases h
noncomputable def aV (d1 d2:D)(g:G):Option (D×G):=match d1,d2 with
 |.int i,.int j=>some (.int (i+j),g)
 |.tup xs,.tup ys=>if aG (xs.length+ys.length)=true then some (.tup (xs++ys),g)else none
 |.str i,.str j=>if aG (i.length+j.length)=true then some (.str (i++j),g)else none
 |d1,d2=>match dS d1 g,dS d2 g with
  |some xs,some ys=>if aG (xs.length+ys.length)=true then some (.lst (xs++ys),g)else none
  |_,_=>none
theorem Li:bz X (ZT .Add) (cG X.kw aV):=by
 intro pins s σ H x y v u Q I rx ry q
 obtain⟨ι,g,d1,d2,d,g',G0,r1,r2,q,p⟩:=q
 unfold aV at q
 split at q
 . rename_i i j
   exact Hs pins s σ H x y v u Q I rx ry ⟨ι,g,.int i,.int j,d,g',G0,r1,r2,q,p⟩
 . split at q
   . rename_i xs ys z
     cases q
     simp only[Rel]at r1 r2
     obtain⟨a,vs,rfl,hq,hr⟩:=r1
     obtain⟨b,ws,rfl,mE,jZ⟩:=r2
     by_cases hx:vs = []
     . subst hx
       have:xs = []:=abM (by simpa using hr.length)
       subst this
       refine CW pins s σ H _ _ v u Q I rx ry ⟨a,b,ws,rfl,rfl,hq.sq,mE.sq,p H ι _ Ext.refl G0 ?_⟩
       simp only[Rel,aam]
       exact⟨b,ws,rfl,mE,jZ⟩
     . refine GZ pins s σ H _ _ v u Q I rx ry ⟨a,b,vs,ws,rfl,rfl,hq.sq,mE.sq,hx,by rw[<- hr.length,<- jZ.length];exact aG.le z,λe=>?_,λe q' b4=>?_⟩
       . subst e
         have:ys = []:=abM (by simpa using jZ.length)
         subst this
         refine p H ι _ Ext.refl G0 ?_
         simp only[Rel,abI]
         exact⟨a,vs,rfl,hq,hr⟩
       . refine p _ _ _ (Ext.lay b4) (G0.lay b4) ?_
         simp only[Rel]
         exact⟨q',_,rfl,.inl ⟨.inl bA,G0.fresh b4⟩,aj.ext (Ext.lay b4) _ (aj.append hr jZ)⟩
   . cases q
 . split at q
   . rename_i x1 y1 z
     cases q
     simp only[Rel]at r1 r2
     subst r1 r2
     exact yC pins s σ H _ _ v u Q I rx ry ⟨x1,y1,rfl,rfl,aG.le z,p H ι _ Ext.refl G0 (by simp[Rel])⟩
   . cases q
 . split at q
   . rename_i xs ys e1 e2
     split at q
     . rename_i z
       cases q
       obtain⟨a,vs,rfl,hq,hr⟩:=gB G0 r1 e1
       obtain⟨b,ws,rfl,mE,jZ⟩:=gB G0 r2 e2
       refine HA pins s σ H _ _ v u Q I rx ry ⟨a,b,vs,ws,rfl,rfl,hq,mE,by rw[<- hr.length,<- jZ.length];exact aG.le z,λq' b4=>?_⟩
       refine p _ _ _ (Ext.lay b4) (G0.lay b4) ?_
       simp only[Rel]
       exact⟨q',_,rfl,.inl ⟨.inl bA,G0.fresh b4,G0.jE b4⟩,aj.ext (Ext.lay b4) _ (aj.append hr jZ)⟩
     . cases q
   . cases q
noncomputable abbrev FO:=Sg->G->Option (Option Int×G)
inductive P9 (K:KW)(f:FO)(σ:L2.St)(H:Hp)(Q:(Option Int->Hp->Prop)):Prop
 |mk (ι:Ix) (σd:Sg) (g:G) (o:Option Int) (g':G) (h0:az K H ι g) (h1:bR K H ι σd σ) (h2:f σd g=some (o,g')) (h3:pe K H ι g' (Q o)):P9 K f σ H Q
structure DO (X:Cx)(e:Option Expr)(f:FO):Prop where of ::
 un:PO X e (P9 X.kw f)
theorem PO.imp {X:Cx}{e:Option Expr}{t t':TO}(h:PO X e t)(i:∀σ H Q,t' σ H Q->t σ H Q):PO X e t':=λpins s σ H Q I q=>h pins s σ H Q I (i σ H Q q)
noncomputable def cN:FO:=λ_ g=>some (none,g)
noncomputable def cC (f:FE):FO:=λσ g=>(f σ g).bind λr=>match r.1 with|.int i=>some (some i,r.2)|_=>none
theorem HB:DO X none cN:=.of (PO.imp GX λσ H Q h=>by
 obtain⟨ι,σd,g,o,g',G0,S0,h,p⟩:=h
 cases h
 exact p H ι Ext.refl G0)
theorem xc {e:Expr}{f:FE}(h:DE X e f):DO X (some e) (cC f):=.of (PO.imp (GY h.un) λσ H Q h=>by
 obtain⟨ι,σd,g,o,g',G0,S0,h,p⟩:=h
 obtain⟨⟨d,g1⟩,h1,h⟩:=bind_some h
 cases d with
 |int i =>
  cases h
  exact tD.bind G0 S0 h1 λH1 ι1 v e1 G1 S1 r1=>⟨i,by simpa[Rel]using r1,p H1 ι1 e1 G1⟩
 |_=>cases h)
noncomputable def cutD (xs:List D)(lo hi:Option Int):List D:=(xs.drop (HT.bG xs.length 0 lo)).take (HT.bG xs.length xs.length hi-HT.bG xs.length 0 lo)
noncomputable def gh (n:Nat)(lo hi:Option Int):Bool:=decide (HT.bG n 0 lo=0)&&decide (HT.bG n n hi=n)
noncomputable def pK (d:D)(lo hi:Option Int)(g:G):Option (D×G):=match d with
 |.tup xs=>if gh xs.length lo hi=true then none else some (.tup (cutD xs lo hi),g)
 |.lst xs=>some (.lst (cutD xs lo hi),g)
 |.ref n=>match g[n]? with|some xs=>some (.lst (cutD xs lo hi),g)|none=>none
 |_=>none
theorem aj.Lj {K H ι}{xs:List D}{vs:List V}(r:aj K H ι xs vs)(lo hi:Option Int):aj K H ι (cutD xs lo hi) (mn vs lo hi):=by
 unfold cutD mn
 rw[<- r.length]
 exact aj.take _ (aj.drop _ r)
noncomputable def Lk (K:KW):V->Option Int->Option Int->Hp->VK->Prop:=λx lo hi H Q=>J5 K x lo hi H Q\/Kc K x lo hi H Q
theorem HC:nT X (Lk X.kw):=by
 intro pins s σ H x v vl vu lo hi sl Q I rx hs pl pu h
 rcases h with h|h
 . exact J6 pins s σ H x v vl vu lo hi sl Q I rx hs pl pu h
 . exact Hb pins s σ H x v vl vu lo hi sl Q I rx hs pl pu h
theorem big {pins:List (Addr×Obj)}{σ:L2.St}{H:Hp}{s:Y4}(I:Inv X pins σ H s):aa_<s.heap.objs.size:=by
 obtain⟨o,es,ep,e,_⟩:=I.mod.glob
 have h1:=Zf (I.bk _ _ e)
 exact Nat.lt_trans (by decide) h1
theorem CY {pos:Pos}:DE X (.Dict [] [] pos) (fC .dw):=.of (by
 intro pins s σ H Q I h
 obtain⟨ι,σd,g,d,g',G0,S0,h,p⟩:=h
 cases h
 have hf:H s.heap.objs.size=none:=I.bJ.fresh (Za _)
 refine wpAny_Dict_empty ⟨.ref s.heap.objs.size,upd H s.heap.objs.size (.dK []),I.laid (t':=s.toks) (λb u e=>Y6 _ e) (Za _) ?_,rfl,p _ _ _ (Ext.lay hf) (G0.lay hf) ?_⟩
 . exact⟨ZM _,beq_eq_false_iff_ne.mpr (aa0 (Zk (big I))),[],.nil,Heap.DictOf.new _⟩
 . simp only[Rel]
   exact⟨_,rfl,bA,G0.fresh hf⟩)
end
end L3
namespace L3
open PySem PySem.Spec PyProof.Rows L2
noncomputable def oLt:=pF λi j=>decide (i<j)
noncomputable def oLe:=pF λi j=>decide (i<=j)
noncomputable def xf:=pF λi j=>decide (j<i)
noncomputable def AH:=pF λi j=>decide (j<=i)
noncomputable def qH (S:Scope)(XN N:List Str)(fr:List (Option Nat))(scope:Scope):Bool :=
 decide (scope.kind = .function)&&scope.names.all (λy=>!decide (y.2 = .cell)||decide (scope.names.lookup y.1=some .cell))&&scope.names.all (λy=>!decide (y.2 = .local)||decide (scope.names.lookup y.1=some .local)) &&
 scope.names.all (λy=>!decide (y.2 = .free)||(decide (scope.names.lookup y.1=some .free)&&(decide (S.names.lookup y.1=some .cell)||decide (S.names.lookup y.1=some .free)))) &&
 decide (fr.length=N.length)&&(Y9 fr.length).all (λj=>match fr[j]? with
  |some (some i)=>match N[j]? with
   |some x=>decide (XN[i]? = some x)&&decide (scope.names.lookup x=some .free)
   |none=>false
  |_=>true)
theorem AI {X:Cx}{N:List Str}{fr:List (Option Nat)}{scope:Scope}{S:Scope}{XN:List Str}(hS:X.env.scope=S)(hN:X.N=XN)(h:qH S XN N fr scope=true):fF X N fr scope:=by
 unfold qH at h
 simp only[Y3,decide_eq_true_eq,Zi,ZR,Zx,decide_eq_false_iff_not]at h
 obtain⟨⟨⟨⟨⟨h1,h2⟩,h3⟩,h4⟩,h5⟩,h6⟩:=h
 refine⟨h1,λy hy e=>?_,λy hy e=>?_,λy hy e=>?_,h5,λj i hf=>?_⟩
 . rcases h2 y hy with z|z
   . exact absurd e z
   . exact z
 . rcases h3 y hy with z|z
   . exact absurd e z
   . exact z
 . rcases h4 y hy with z|z
   . exact absurd e z
   . refine⟨z.1,?_⟩
     show X.env.scope.names.lookup y.1=_\/X.env.scope.names.lookup y.1=_
     rw[hS];exact z.2
 . have hj:j∈Y9 fr.length:=Zm.mpr (Y7.mp hf).1
   have:=h6 j hj
   rw[hf]at this
   dsimp only at this
   split at this
   . rename_i x hx
     simp only[Y3,decide_eq_true_eq]at this
     exact⟨x,hx,by rw[hN];exact this.1,this.2⟩
   . cases this
noncomputable def bQ (f:FE):FI:=λσ g=>(f σ g).bind λr=>match r.1 with|.tup xs=>some (xs,r.2)|.lst xs=>some (xs,r.2)|_=>none
theorem uN {X:Cx}{tg l:Expr}{fe:FE}(hl:DE X l fe):DI X tg l (bQ fe):=.of (by
 intro pins s σ H R I h
 obtain⟨ι,σd,g,ds,g',G0,S0,h,p⟩:=h
 obtain⟨⟨d1,g1⟩,h1,h2⟩:=bind_some h
 cases d1 with
 |tup xs =>
  have h3:tx fe σd g=some (ds,g'):=by unfold tx;rw[h1];exact h2
  exact(KL hl).un pins s σ H R I ⟨ι,σd,g,ds,g',G0,S0,h3,p⟩
 |lst xs =>
  have h3:tE fe σd g=some (ds,g'):=by unfold tE;rw[h1];exact h2
  exact(KN hl).un pins s σ H R I ⟨ι,σd,g,ds,g',G0,S0,h3,p⟩
 |_=>cases h2)
end L3
namespace L3
open PySem L2
section
variable {σ:Sg}{g:G}{fa fb fc:FE}{fr:FA}{ga gb:FT}{f1 f2:FS}{o o':D->D->G->Option (D×G)}{fn:Fn}{t:FG}{ts:nX}
@[simp] theorem EN {d}:fC d σ g=some (d,g):=rfl
@[simp] theorem kL {i:Nat}:af i σ g=(match σ[i]? with|some (some d)=>some (d,g)|_=>none):=rfl
@[simp] theorem V3:aq o fa fb σ g=(fa σ g).bind λr=>(fb σ r.2).bind λq=>o r.1 q.1 q.2:=rfl
@[simp] theorem V4 {o:D->G->Option (D×G)}:mr o fa σ g=(fa σ g).bind λr=>o r.1 r.2:=rfl
@[simp] theorem V5 {b:Bool}:ja (some (.bl b,g))=some (b,g):=rfl
@[simp] theorem RZ:aH fa σ g=ja (fa σ g):=rfl
@[simp] theorem P_:gU o o' fa fb fc σ g=(fa σ g).bind λr=>(fb σ r.2).bind λq=>(ja (o r.1 q.1 q.2)).bind λk=>if k.1=true then(fc σ k.2).bind λw=>o' q.1 w.1 w.2 else some (.bl false,k.2):=rfl
@[simp] theorem UL:bW fa σ g=(fa σ g).bind λr=>(kg r.1 r.2).map λb=>(b,r.2):=rfl
@[simp] theorem Qa {b:Bool}:kg (.bl b) g=some b:=rfl
@[simp] theorem OY {i:Int}:kg (.int i) g=some (i != 0):=rfl
@[simp] theorem UM:i4 ga gb σ g=(ga σ g).bind λr=>if r.1=true then gb σ r.2 else some (false,r.2):=rfl
@[simp] theorem V6:gW ga gb σ g=(ga σ g).bind λr=>if r.1=true then some (true,r.2)else gb σ r.2:=rfl
@[simp] theorem UN:cz ga σ g=(ga σ g).bind λr=>some (!r.1,r.2):=rfl
@[simp] theorem R0:dA fa fb σ g=(ja (fa σ g)).bind λr=>if r.1=true then fb σ r.2 else some (.bl false,r.2):=rfl
@[simp] theorem UO:mv fa fb σ g=(ja (fa σ g)).bind λr=>if r.1=true then some (.bl true,r.2)else fb σ r.2:=rfl
@[simp] theorem R1:jn fa σ g=(ja (fa σ g)).bind λr=>some (.bl (!r.1),r.2):=rfl
@[simp] theorem UP:ux ga fa fb σ g=(ga σ g).bind λr=>if r.1=true then fa σ r.2 else fb σ r.2:=rfl
@[simp] theorem qI:ag σ g=some ([],g):=rfl
@[simp] theorem lr:aa fa fr σ g=(fa σ g).bind λr=>(fr σ r.2).bind λq=>some (r.1::q.1,q.2):=rfl
@[simp] theorem Ll {m:List D->G->Option (D×G)}:aK m fr σ g=(fr σ g).bind λr=>m r.1 r.2:=rfl
theorem HD {n:Nat}:aG n=decide (n<=16777216):=rfl
@[simp] theorem OZ {n:Nat}(h:n<=16777216):aG n=true:=decide_eq_true h
@[simp] theorem Qb {ds:List D}:aJ ds g=if aG ds.length=true then some (.tup ds,g)else none:=rfl
@[simp] theorem Qc {ds:List D}:cj ds g=if aG ds.length=true then some (.lst ds,g)else none:=rfl
@[simp] theorem Qd {ds:List D}:mkRef ds g=if aG ds.length=true then some (.ref g.length,g ++ [ds])else none:=rfl
@[simp] theorem CZ:aN σ g=some (.nx,σ,g):=rfl
@[simp] theorem cP:aw f1 f2 σ g=(f1 σ g).bind λr=>match r.1 with|.nx=>f2 r.2.1 r.2.2|_=>some r:=rfl
@[simp] theorem qJ:aF fa σ g=(fa σ g).bind λr=>some (.rt r.1,σ,r.2):=rfl
@[simp] theorem iV:bK ga f1 f2 σ g=(ga σ g).bind λr=>if r.1=true then f1 σ r.2 else f2 σ r.2:=rfl
@[simp] theorem R3:cX fa σ g=(fa σ g).bind λr=>some (.nx,σ,r.2):=rfl
@[simp] theorem HE:aC fa t σ g=(fa σ g).bind λr=>(t r.1 σ r.2).bind λq=>some (.nx,q.1,q.2):=rfl
@[simp] theorem EO {i:Nat}{d:D}:gN i d σ g=some (σ.set i (some d),g):=rfl
@[simp] theorem R4:aP [] σ g=some (σ,g):=rfl
@[simp] theorem Qe {d:D}{r:List D}:au t ts (d::r) σ g=(t d σ g).bind λq=>ts r q.1 q.2:=rfl
@[simp] theorem X4 {n:Nat}{xs:List D}:gT n ts (.tup xs) σ g=if xs.length=n then ts xs σ g else none:=rfl
@[simp] theorem oE:ao fn fr σ g=(fr σ g).bind λr=>fn r.1 r.2:=rfl
@[simp] theorem UQ {T:Ty}:iB T fa σ g=(fa σ g).bind λr=>if isFn r.1=true then none else some (.bl (gJ T r.1),r.2):=rfl
@[simp] theorem xg {i:FI}:cS i t f1 σ g=(i σ g).bind λr=>forL t f1 r.1 σ r.2:=rfl
@[simp] theorem UR:bQ fa σ g=(fa σ g).bind λr=>match r.1 with|.tup xs=>some (xs,r.2)|.lst xs=>some (xs,r.2)|_=>none:=rfl
@[simp] theorem R5:tx fa σ g=(fa σ g).bind λr=>match r.1 with|.tup xs=>some (xs,r.2)|_=>none:=rfl
@[simp] theorem R6:tE fa σ g=(fa σ g).bind λr=>match r.1 with|.lst xs=>some (xs,r.2)|_=>none:=rfl
@[simp] theorem C1 {mk:List D->G->Option (D×G)}{fi:FI}{fr:List (Option Nat)}{c:FT}:bh mk fi fr t c fa σ g=(fi σ g).bind λr=>if aG r.1.length=true then(bZ t c fa r.1 (bL fr σ) r.2).bind λq=>mk q.1 q.2 else none:=rfl
@[simp] theorem US {ds:List D}:aY ds g=some (.lst ds,g):=rfl
@[simp] theorem R7:aQ σ g=some (true,g):=rfl
@[simp] theorem V7 {c:Int->Int->Bool}{f:Int->Int->Int}{i j:Int}:aR c f (.int i) (.int j) g=if c i j=true then some (.int (f i j),g)else none:=rfl
@[simp] theorem R8 {i j:Int}:bp i j=true:=rfl
@[simp] theorem V8 {i j:Int}:oLt (.int i) (.int j) g=some (.bl (decide (i<j)),g):=rfl
@[simp] theorem V9 {i j:Int}:oLe (.int i) (.int j) g=some (.bl (decide (i<=j)),g):=rfl
@[simp] theorem V_ {i j:Int}:xf (.int i) (.int j) g=some (.bl (decide (j<i)),g):=rfl
@[simp] theorem Wa {i j:Int}:AH (.int i) (.int j) g=some (.bl (decide (j<=i)),g):=rfl
@[simp] theorem UT {i:Int}:jG (.int i) g=some (.int (-i),g):=rfl
@[simp] theorem UU {i j:Int}:aV (.int i) (.int j) g=some (.int (i+j),g):=rfl
@[simp] theorem UW {i j:Int}:bU (.int i) (.int j) g=if dg i j=true then some (.int (i*j),g)else none:=rfl
@[simp] theorem Wb {d:D}{i:Int}:pI d (.int i) g=(cv d g).bind λxs=>(dY xs i).map λe=>(e,g):=rfl
@[simp] theorem UX {xs:List D}:cv (.tup xs) g=some xs:=rfl
@[simp] theorem UY {xs:List D}:cv (.lst xs) g=some xs:=rfl
@[simp] theorem UZ {n:Nat}:cv (.ref n) g=g[n]?:=rfl
@[simp] theorem U0 {d:D}:cx [d] g=(cv d g).map λxs=>(.int xs.length,g):=rfl
@[simp] theorem U1 {i j:Int}:qE [.int i,.int j] g=some (.int (if j>i then j else i),g):=rfl
@[simp] theorem U2 {i j:Int}:qF [.int i,.int j] g=some (.int (if j<i then j else i),g):=rfl
@[simp] theorem R9 {k:Bool}:ki [.bl k] g=some (.int (if k then 1 else 0),g):=rfl
@[simp] theorem R_ {i:Int}:ki [.int i] g=some (.int i,g):=rfl
@[simp] theorem U3 {d:D}:da [d] g=(cv d g).bind λxs=>if aG xs.length=true then some (.tup xs,g)else none:=rfl
@[simp] theorem U4 {xs:List D}:fu [.lst xs] g=(bools xs).map λbs=>(.bl (bs.all id),g):=rfl
@[simp] theorem U5 {i j:Int}:oEq (.int i) (.int j) g=some (.bl (i == j),g):=rfl
@[simp] theorem U6 {i j:Bool}:oEq (.bl i) (.bl j) g=some (.bl (i == j),g):=rfl
@[simp] theorem U7 {i j:Str}:oEq (.str i) (.str j) g=some (.bl (i == j),g):=rfl
@[simp] theorem U8 {d:D}:CV d .aA g=some (.bl (dG d),g):=rfl
@[simp] theorem Sa {d:D}:yR d .aA g=some (.bl (!dG d),g):=rfl
theorem bS {nN nP:Nat}{ds:List D}{b:FS}{σ':Sg}{d:D}{g':G}(hl:ds.length=nP)(h:b (ds.map some++Zo (nN-nP) none) g=some (.rt d,σ',g'))(hg:g'.length=g.length):aD false nN nP b ds g=some (d,g'):=by
 unfold aD
 rw[if_pos hl,h]
 have e:settle g.length d g'=some (d,g'):=by
  unfold settle
  rw[if_pos hg]
 simpa using e
theorem xh {nN nP:Nat}{ds:List D}{b:FS}{σ':Sg}{d:D}{g':G}(hl:ds.length=nP)(h:b (ds.map some++Zo (nN-nP) none) g=some (.rt d,σ',g')):aD true nN nP b ds g=some (d,g'):=by
 unfold aD
 rw[if_pos hl,h]
 rfl
end
theorem dB {t:FG}{c:FT}{e:FE}{h:D->D}(I:Sg->Prop):∀(ds:List D) (σ:Sg) (g:G),I σ->(∀d∈ds,∀σ,I σ->∃σ1,t d σ g=some (σ1,g)/\c σ1 g=some (true,g)/\e σ1 g=some (h d,g)/\I σ1)->bZ t c e ds σ g=some (ds.map h,g)
 | [],_,_,_,_=>rfl
 |d::ds,σ,g,hi,hh=>by
  obtain⟨σ1,h1,h2,h3,h4⟩:=hh d Zp σ hi
  simp only[bZ,h1,h2,h3,Zb,if_true,dB I ds σ1 g h4 λx hx=>hh x (Zs _ hx),Zw]
theorem dC {α:Type}(f:α->Bool):∀xs:List α,bools (xs.map λx=>D.bl (f x))=some (xs.map f)
 | []=>rfl
 |x::xs=>by simp only[Zw,bools,dC f xs,ZP]
@[simp] theorem Sb {α:Type}{σ:List (Option α)}:bL [] σ = []:=rfl
@[simp] theorem Qf {α:Type}{σ:List (Option α)}{fr:List (Option Nat)}:bL (none::fr) σ=none::bL fr σ:=rfl
@[simp] theorem Qg {α:Type}{σ:List (Option α)}{fr:List (Option Nat)}{i:Nat}:bL (some i::fr) σ=(σ[i]?).join::bL fr σ:=rfl
end L3
namespace L3
open PySem PySem.Spec PyProof.Rows L2
noncomputable def yV (c:Bool):D->Bool
 |.bl b=>b == c
 |_=>false
noncomputable def isLit (d1 d2:D):Option Bool:=match d2 with
 |.aA=>some (dG d1)
 |.bl c=>some (yV c d1)
 |_=>none
noncomputable def xk (d1 d2:D)(g:G):Option (D×G):=(isLit d1 d2).map λb=>(.bl b,g)
noncomputable def cF (d1 d2:D)(g:G):Option (D×G):=(isLit d1 d2).map λb=>(.bl (!b),g)
section
variable {X:Cx}
theorem AJ {K H ι d v u c}(r:Rel K H ι d v)(rx:RelV v u):(u == aa9 c)=yV c d/\PySem.plainIs u (.bool c)=true:=by
 cases d with
 |aA=>simp only[Rel]at r;subst r;cases rx;exact⟨rfl,rfl⟩
 |bl b=>simp only[Rel]at r;subst r;cases rx;exact⟨by cases b<;>cases c<;>rfl,rfl⟩
 |int _=>simp only[Rel]at r;subst r;obtain⟨t,rfl⟩:=rx;exact⟨rfl,rfl⟩
 |str _=>simp only[Rel]at r;subst r;obtain⟨t,rfl⟩:=rx;exact⟨rfl,rfl⟩
 |tup _=>simp only[Rel]at r;obtain⟨a,vs,rfl,_⟩:=r;cases rx;exact⟨rfl,rfl⟩
 |lst _=>simp only[Rel]at r;obtain⟨a,vs,rfl,_⟩:=r;cases rx;exact⟨rfl,rfl⟩
 |dw=>simp only[Rel]at r;obtain⟨a,rfl,_⟩:=r;cases rx;exact⟨rfl,rfl⟩
 |ref _=>simp only[Rel]at r;obtain⟨a,rfl,_⟩:=r;cases rx;exact⟨rfl,rfl⟩
 |aM _=>simp only[Rel]at r;obtain⟨a,rfl,_⟩:=r;cases rx;exact⟨rfl,rfl⟩
 |fn _=>simp only[Rel]at r;obtain⟨a,rfl,_⟩:=r;cases rx;exact⟨rfl,rfl⟩
theorem O0:bz X (ZF .Is) (cG X.kw xk):=by
 intro pins s σ H x y v u Q I rx ry q
 obtain⟨ι,g,d1,d2,d,g',G0,r1,r2,q,p⟩:=q
 cases d2 with
 |aA=>exact K7 pins s σ H x y v u Q I rx ry ⟨ι,g,d1,.aA,d,g',G0,r1,r2,q,p⟩
 |bl c =>
  simp only[Rel]at r2;subst r2;cases ry
  simp only[xk,isLit,ZP]at q
  cases q
  obtain⟨e,z⟩:=AJ (c:=c) r1 rx
  refine wpAny_is_plain z ?_
  rw[e]
  exact⟨.bl _,H,I,rfl,p H ι _ Ext.refl G0 (by simp[Rel])⟩
 |_=>cases q
theorem HF:bz X (ZF .IsNot) (cG X.kw cF):=by
 intro pins s σ H x y v u Q I rx ry q
 obtain⟨ι,g,d1,d2,d,g',G0,r1,r2,q,p⟩:=q
 cases d2 with
 |aA=>exact Hv pins s σ H x y v u Q I rx ry ⟨ι,g,d1,.aA,d,g',G0,r1,r2,q,p⟩
 |bl c =>
  simp only[Rel]at r2;subst r2;cases ry
  simp only[cF,isLit,ZP]at q
  cases q
  obtain⟨e,z⟩:=AJ (c:=c) r1 rx
  refine wpAny_isNot_plain z ?_
  rw[e]
  exact⟨.bl _,H,I,rfl,p H ι _ Ext.refl G0 (by simp[Rel])⟩
 |_=>cases q
end
@[simp] theorem Wc {d1 d2:D}{g:G}:xk d1 d2 g=(isLit d1 d2).map λb=>(.bl b,g):=rfl
@[simp] theorem Se {d1 d2:D}{g:G}:cF d1 d2 g=(isLit d1 d2).map λb=>(.bl (!b),g):=rfl
@[simp] theorem Qh {d1:D}:isLit d1 .aA=some (dG d1):=rfl
@[simp] theorem Qi {d:D}{c:Bool}:isLit d (.bl c)=some (yV c d):=rfl
@[simp] theorem U9 {b c:Bool}:yV c (.bl b)=(b == c):=rfl
noncomputable def Ix.none (ι:Ix):Ix:=⟨[],ι.ix++ι.hd,ι.kd⟩
noncomputable def C3:HO->Bool
 |.tup _=>true
 |.kz _ _=>true
 |.dK _=>true
 |_=>false
mutual
theorem Rel.toN {K H ι}:∀(d:D) {v:V},bB 0 d=true->Rel K H ι d v->Rel K H (Ix.none ι) d v
 |.aA,v,_,h=>by simpa[Rel]using h
 |.bl _,v,_,h=>by simpa[Rel]using h
 |.int _,v,_,h=>by simpa[Rel]using h
 |.str _,v,_,h=>by simpa[Rel]using h
 |.tup xs,v,z,h=>by
  simp only[Rel]at h ⊢
  obtain⟨a,vs,e1,hq,hr⟩:=h
  refine⟨a,vs,e1,?_,aj.toN xs z hr⟩
  rcases hq with⟨hq,hn⟩|hq
  . exact .inl ⟨hq,by simp[Ix.none]⟩
  . exact .inr hq
 |.lst xs,v,z,h=>by
  simp only[Rel]at h ⊢
  obtain⟨a,vs,e1,hq,hr⟩:=h
  refine⟨a,vs,e1,?_,aj.toN xs z hr⟩
  rcases hq with⟨hq,hn,hh⟩|hq
  . exact .inl ⟨hq,by simp[Ix.none],λm=>(Ze.mp m).elim hn hh⟩
  . exact .inr hq
 |.dw,v,_,h=>by
  simp only[Rel]at h ⊢
  obtain⟨a,e1,hq,hr⟩:=h
  exact⟨a,e1,hq,by simp[Ix.none]⟩
 |.ref k,v,z,h=>by simp[bB]at z
 |.aM k,v,z,h=>by simp[bB]at z
 |.fn x,v,_,h=>by simpa[Rel]using h
theorem aj.toN {K H ι}:∀(ds:List D) {vs:List V},aW 0 ds=true->aj K H ι ds vs->aj K H (Ix.none ι) ds vs
 | [],vs,_,h=>by simpa[aj]using h
 |d::ds,vs,z,h=>by
  simp only[aj]at h ⊢
  simp only[aW,Y3]at z
  obtain⟨v,vr,e1,hq,hr⟩:=h
  exact⟨v,vr,e1,Rel.toN d z.1 hq,aj.toN ds z.2 hr⟩
end
mutual
theorem Rel.xm {K H ι ι'}(hh:ι'.hd=ι.ix++ι.hd)(hl:∀a∈ι.ix,∃o,H a=some o/\C3 o=false):∀(d:D) {v:V},bB 0 d=true->Rel K H ι' d v->Rel K H ι d v
 |.aA,v,_,h=>by simpa[Rel]using h
 |.bl _,v,_,h=>by simpa[Rel]using h
 |.int _,v,_,h=>by simpa[Rel]using h
 |.str _,v,_,h=>by simpa[Rel]using h
 |.tup xs,v,z,h=>by
  simp only[Rel]at h ⊢
  obtain⟨a,vs,e1,hq,hr⟩:=h
  refine⟨a,vs,e1,?_,aj.xm hh hl xs z hr⟩
  rcases hq with⟨hq,hn⟩|hq
  . refine .inl ⟨hq,λm=>?_⟩
    obtain⟨us,e,f⟩:=hl a m
    rcases hq with hq|⟨o,hq⟩<;>rw[e]at hq<;>cases hq<;>cases f
  . exact .inr hq
 |.lst xs,v,z,h=>by
  simp only[Rel]at h ⊢
  obtain⟨a,vs,e1,hq,hr⟩:=h
  refine⟨a,vs,e1,?_,aj.xm hh hl xs z hr⟩
  rcases hq with⟨hq,hn,hk⟩|hq
  . rw[hh]at hk
    exact .inl ⟨hq,λm=>hk (Ze.mpr (.inl m)),λm=>hk (Ze.mpr (.inr m))⟩
  . exact .inr hq
 |.dw,v,_,h=>by
  simp only[Rel]at h ⊢
  obtain⟨a,e1,hq,hr⟩:=h
  refine⟨a,e1,hq,λm=>?_⟩
  obtain⟨us,e,f⟩:=hl a m
  rw[e]at hq;cases hq;cases f
 |.ref k,v,z,h=>by simp[bB]at z
 |.aM k,v,z,h=>by simp[bB]at z
 |.fn x,v,_,h=>by simpa[Rel]using h
theorem aj.xm {K H ι ι'}(hh:ι'.hd=ι.ix++ι.hd)(hl:∀a∈ι.ix,∃o,H a=some o/\C3 o=false):∀(ds:List D) {vs:List V},aW 0 ds=true->aj K H ι' ds vs->aj K H ι ds vs
 | [],vs,_,h=>by simpa[aj]using h
 |d::ds,vs,z,h=>by
  simp only[aj]at h ⊢
  simp only[aW,Y3]at z
  obtain⟨v,vr,e1,hq,hr⟩:=h
  exact⟨v,vr,e1,Rel.xm hh hl d z.1 hq,aj.xm hh hl ds z.2 hr⟩
end
theorem az.lst {K H ι g}(h:az K H ι g){a:Addr}(ha:a∈ι.ix):∃o,H a=some o/\C3 o=false:=by
 obtain⟨i,hi,e⟩:=aax.mp ha
 have hg:i<g.length:=by rw[<- h.len];exact hi
 obtain⟨b,o,vs,hb,h1,ov,_⟩:=h.at_ i _ (Y8 hg)
 rw[Y8 hi,e]at hb
 cases hb
 generalize ι.kd i=kk at ov
 exact⟨o,h1,by cases ov<;>rfl⟩
noncomputable def mF (fn:Fn):Fn:=λds g=>if aW 0 ds=true then(fn ds []).bind λr=>if bB 0 r.1=true then some (r.1,g)else none else none
theorem nZ {fn:Fn}{ds g d g'}(h:mF fn ds g=some (d,g')):aW 0 ds=true/\(∃gx,fn ds []=some (d,gx))/\bB 0 d=true/\g'=g:=by
 unfold mF at h
 split at h
 . rename_i z
   obtain⟨⟨d1,g1⟩,h1,h⟩:=bind_some h
   split at h
   . rename_i z2
     cases h
     exact⟨z,⟨g1,h1⟩,z2,rfl⟩
   . cases h
 . cases h
theorem HG {P:ZC}{K:KW}{base:Heap}{k n f fd ps}{fn:Fn}(F:dN P K.w K.fr K.mg base i_ k f fd ps (mw K n fn)):dN P K.w K.fr K.mg base i_ k f fd ps (mw K n (mF fn)):=
 dN.imp F λvs H Q E ⟨hl,ι,g,ds,d,g',G0,r,h,p⟩=>by
  obtain⟨z,⟨gx,hx⟩,z2,rfl⟩:=nZ h
  refine⟨hl,Ix.none ι,[],ds,d,gx,⟨acp,rfl,λb hb=>⟨by simp[Ix.none],?_⟩,λi xs q=>by simp at q⟩,aj.toN ds z r,hx,λH' ι' v e G1 rv=>?_⟩
  . rcases Ze.mp hb with m|m
    . exact G0.rL m
    . exact(G0.cK b m).2
  . have same:∀a∈ι.ix,H' a=H a:=λa ha=>by
      obtain⟨vs,ev,_⟩:=G0.lst ha
      rw[ev]
      exact e.same a _ ev (by simp[Ix.none])
    have e0:Ext H ι H' ι:=⟨λa o q _=>e.same a o q (by simp[Ix.none]),e.there,⟨[],by simp,λ_ q=>by simp at q⟩,rfl,λ_ _=>rfl⟩
    refine p H' ι v e0 (G0.ext e0 same) (Rel.xm e.cK (λa ha=>?_) d z2 rv)
    obtain⟨vs,ev,f⟩:=G0.lst ha
    exact⟨vs,by rw[same a ha];exact ev,f⟩
theorem yW {fn:Fn}{n:Nat}(h:∀ds g r,fn ds g=some r->ds.length=n):∀ds g r,mF fn ds g=some r->ds.length=n:=λds g r q=>by
 obtain⟨_,⟨gx,hx⟩,_⟩:=nZ (d:=r.1) (g':=r.2) q
 exact h _ _ _ hx
end L3
namespace L3
open PySem L2
noncomputable def wp {α:Type}(o:Option α)(Q:α->Prop):Prop:=∃a,o=some a/\Q a
section
variable {α β:Type}{o:Option α}{Q R:α->Prop}
@[simp] theorem ff {a:α}:wp (some a) Q=Q a:=by simp[wp]
@[simp] theorem U_:wp (none:Option α) Q=False:=by simp[wp]
@[simp] theorem wp_bind {f:α->Option β}{Q:β->Prop}:wp (o.bind f) Q=wp o λa=>wp (f a) Q:=by
 cases o<;>simp[wp]
@[simp] theorem wp_map {f:α->β}{Q:β->Prop}:wp (o.map f) Q=wp o λa=>Q (f a):=by
 cases o<;>simp[wp]
theorem wp_mono (h:wp o R)(i:∀a,R a->Q a):wp o Q:=let⟨a,e,r⟩:=h;⟨a,e,i a r⟩
end
@[simp] theorem Wd {o:Option (D×G)}{Q:Bool×G->Prop}:wp (ja o) Q=wp o λr=>∃b,r.1 = .bl b/\Q (b,r.2):=by
 cases o with
 |none=>simp[ja]
 |some r =>
  obtain⟨d,g⟩:=r
  cases d with
  |bl b=>cases b<;>simp[ja]
  |_=>simp[ja]
section
variable {σ:Sg}{g:G}{fa:FE}{fl fh:FO}
@[simp] theorem Sf {xs ys:List D}:aV (.tup xs) (.tup ys) g=if aG (xs.length+ys.length)=true then some (.tup (xs++ys),g)else none:=rfl
@[simp] theorem Si {xs ys:List D}:aV (.lst xs) (.lst ys) g=if aG (xs.length+ys.length)=true then some (.lst (xs++ys),g)else none:=rfl
@[simp] theorem Sj {x y:Str}:aV (.str x) (.str y) g=if aG (x.length+y.length)=true then some (.str (x++y),g)else none:=rfl
@[simp] theorem Va:cN σ g=some (none,g):=rfl
@[simp] theorem Sk:cC fa σ g=(fa σ g).bind λr=>match r.1 with|.int i=>some (some i,r.2)|_=>none:=rfl
theorem yX {xs:List D}{k:Int}(h1:k<=1000)(h0:-1000<=k)(h2:xs.length<=1000):bU (.tup xs) (.int k) g=some (.tup (Zo k.toNat xs).flatten,g):=by
 show(if(gH k&&aG (xs.length*k.toNat))=true then some (D.tup (Zo k.toNat xs).flatten,g)else none)=_
 rw[if_pos]
 have hk:k.toNat<=1000:=by omega
 have:xs.length*k.toNat<=1000*1000:=aea h2 hk
 rw[gH.of (by omega) (by omega),OZ (by omega)]
 rfl
theorem AK {n a:Nat}(h:a<=n):HT.bG n n (some (a:Int))=a:=by rw[HT.wU];omega
theorem uO {n a:Nat}(h:a<=n):HT.bG n 0 (some (a:Int))=a:=by rw[HT.wU];omega
theorem pL {xs:List D}{a:Nat}(h:a<xs.length):pK (.tup xs) none (some (a:Int)) g=some (.tup (xs.take a),g):=by
 have hw:gh xs.length none (some (a:Int))=false:=by
  unfold gh
  rw[AK (abv h)]
  simp;omega
 simp only[pK,hw,Zh,if_false]
 unfold cutD
 rw[AK (abv h),HT.uh]
 simp
theorem nz {xs:List D}{a:Nat}(h:a<xs.length):pK (.tup xs) (some ((a:Int)+1)) none g=some (.tup (xs.drop (a+1)),g):=by
 have e:(a:Int)+1=((a+1:Nat):Int):=by simp
 rw[e]
 have hw:gh xs.length (some ((a+1:Nat):Int)) none=false:=by
  unfold gh
  rw[uO h]
  simp
 simp only[pK,hw,Zh,if_false]
 unfold cutD
 rw[uO h,HT.uh,abc (by simp)]
end
theorem kM {t:FG}{b:FS}{Q:F×Sg×G->Prop}(I:Nat->Sg->G->Prop):∀(ds:List D) (i:Nat) (σ:Sg) (g:G),I i σ g ->
  (∀(j:Nat) (d:D) σ g,ds[j]? = some d->I (i+j) σ g->wp (t d σ g) λq=>wp (b q.1 q.2) λr=>match r.1 with
   |.nx=>I (i+j+1) r.2.1 r.2.2
   |.ct=>I (i+j+1) r.2.1 r.2.2
   |.bk=>Q (.nx,r.2.1,r.2.2)
   |.rt d=>Q (.rt d,r.2.1,r.2.2))->(∀σ g,I (i+ds.length) σ g->Q (.nx,σ,g))->wp (forL t b ds σ g) Q
 | [],i,σ,g,hi,_,he=>by simp only[forL,ff];exact he σ g hi
 |d::ds,i,σ,g,hi,hs,he=>by
  simp only[forL,wp_bind]
  refine wp_mono (hs 0 d σ g rfl hi) λq hq=>wp_mono hq λr hr=>?_
  have go:I (i+0+1) r.2.1 r.2.2->wp (forL t b ds r.2.1 r.2.2) Q:=λz =>
   kM I ds (i+1) _ _ z (λj d σ g e h=>by
    have q:=hs (j+1) d σ g (by simpa using e) (by rw[show i+(j+1)=i+1+j by omega];exact h)
    rw[show i+(j+1)+1=i+1+j+1 by omega]at q
    exact q) λσ g h=>he σ g (by rw[aa8,show i+(ds.length+1)=i+1+ds.length by omega];exact h)
  obtain⟨r1,r2⟩:=r
  cases r1 with
  |nx=>exact go hr
  |ct=>exact go hr
  |bk=>simp only[ff];exact hr
  |rt d=>simp only[ff];exact hr
theorem uP {t:FG}{c:FT}{e:FE}{Q:List D×G->Prop}(I:Nat->List D->Sg->G->Prop):∀(ds:List D) (i:Nat) (σ:Sg) (g:G) (acc:List D),I i acc σ g ->
  (∀(j:Nat) (d:D) acc σ g,ds[j]? = some d->I (i+j) acc σ g->wp (t d σ g) λq=>wp (c q.1 q.2) λk=>if k.1=true then wp (e q.1 k.2) λr=>I (i+j+1) (acc ++ [r.1]) q.1 r.2 else I (i+j+1) acc q.1 k.2) ->
  (∀xs σ g,I (i+ds.length) (acc++xs) σ g->Q (xs,g))->wp (bZ t c e ds σ g) Q
 | [],i,σ,g,acc,hi,_,he=>by simp only[bZ,ff];exact he [] σ g (by simpa using hi)
 |d::ds,i,σ,g,acc,hi,hs,he=>by
  simp only[bZ,wp_bind]
  refine wp_mono (hs 0 d acc σ g rfl hi) λq hq=>wp_mono hq λk hk=>?_
  have go:∀(a:List D) (s:Sg) (h:G) (R:List D×G->Prop),I (i+1) a s h->(∀xs σ g,I (i+1+ds.length) (a++xs) σ g->R (xs,g))->wp (bZ t c e ds s h) R:=λa s h R z he =>
    uP I ds (i+1) s h a z (λj d acc σ g e h=>by
     have q:=hs (j+1) d acc σ g (by simpa using e) (by rw[show i+(j+1)=i+1+j by omega];exact h)
     rw[show i+(j+1)+1=i+1+j+1 by omega]at q
     exact q) he
  have hl:i+(d::ds).length=i+1+ds.length:=by rw[aa8];omega
  rw[hl]at he
  by_cases hc:k.1=true
  . rw[if_pos hc]at hk ⊢
    simp only[wp_bind]
    refine wp_mono hk λr hr=>?_
    refine go (acc ++ [r.1]) q.1 r.2 _ hr λxs σ g h=>?_
    simp only[ff]
    exact he (r.1::xs) σ g (by simpa using h)
  . rw[if_neg hc]at hk ⊢
    exact go acc q.1 k.2 _ hk he
theorem fO {nN nP:Nat}{b:FS}{ds:List D}{g:G}{Q:D×G->Prop}(hl:ds.length=nP)(h:wp (b (ds.map some++Zo (nN-nP) none) g) λr=>match r.1 with
  |.rt d=>bB g.length d=true/\(r.2.2.take g.length).all (aW g.length)=true/\g.length<=r.2.2.length/\Q (d,r.2.2.take g.length)
  |.nx=>(r.2.2.take g.length).all (aW g.length)=true/\g.length<=r.2.2.length/\Q (.aA,r.2.2.take g.length)
  |_=>False):wp (aD false nN nP b ds g) Q:=by
 obtain⟨⟨r,σ,g'⟩,e,q⟩:=h
 unfold aD
 rw[if_pos hl,e]
 have fin:∀d,bB g.length d=true->(g'.take g.length).all (aW g.length)=true->g.length<=g'.length->Q (d,g'.take g.length)->wp (settle g.length d g') Q:=λd z1 z2 z3 z4=>by
  by_cases hg:g'.length=g.length
  . rw[abc (by omega)]at z4
    exact⟨_,by unfold settle;rw[if_pos hg],z4⟩
  . refine⟨_,?_,z4⟩
    unfold settle
    rw[if_neg hg,if_pos z2]
    cases d with
    |ref k =>
     have z:k<g.length:=by simpa[bB]using z1
     simp only[if_pos z]
    |_=>simp only[if_pos z1]
 cases r with
 |rt d =>
  obtain⟨q1,q2,q3,q4⟩:=q
  exact fin d q1 q2 q3 q4
 |nx =>
  obtain⟨q2,q3,q4⟩:=q
  exact fin .aA rfl q2 q3 q4
 |bk=>exact q.elim
 |ct=>exact q.elim
end L3
namespace L3
open PySem PySem.Spec PyProof.Rows L2
open SeqAt
noncomputable def fD:D->Bool
 |.aA=>true
 |.bl _=>true
 |.int _=>true
 |.str _=>true
 |_=>false
noncomputable def toV:D->V
 |.bl b=>.bl b
 |.int i=>.int i
 |.str x=>.str x
 |_=>.aA
theorem nA {K H ι d v}(h:fD d=true)(r:Rel K H ι d v):v=toV d/\jk v=true:=by
 cases d with
 |aA=>simp only[Rel]at r;subst r;exact⟨rfl,rfl⟩
 |bl _=>simp only[Rel]at r;subst r;exact⟨rfl,rfl⟩
 |int _=>simp only[Rel]at r;subst r;exact⟨rfl,rfl⟩
 |str _=>simp only[Rel]at r;subst r;exact⟨rfl,rfl⟩
 |_=>cases h
theorem qK {K H ι d}(h:fD d=true):Rel K H ι d (toV d):=by
 cases d with
 |aA=>simp[Rel,toV]
 |bl _=>simp[Rel,toV]
 |int _=>simp[Rel,toV]
 |str _=>simp[Rel,toV]
 |_=>cases h
theorem oF {K H ι}:∀{xs:List D} {vs:List V},xs.all fD=true->aj K H ι xs vs->vs=xs.map toV/\vs.all jk=true
 | [],vs,_,r=>by simp only[aj]at r;subst r;exact⟨rfl,rfl⟩
 |d::xs,vs,h,r=>by
  simp only[aj]at r
  obtain⟨v,vr,rfl,r1,r2⟩:=r
  rw[ab8,Y3]at h
  obtain⟨e1,f1⟩:=nA h.1 r1
  obtain⟨e2,f2⟩:=oF h.2 r2
  subst e1 e2
  exact⟨rfl,by rw[ab8,f1,f2];rfl⟩
theorem uQ {K H ι}:∀{xs:List D},xs.all fD=true->aj K H ι xs (xs.map toV)
 | [],_=>by simp[aj]
 |d::xs,h=>by
  rw[ab8,Y3]at h
  simp only[Zw,aj]
  exact⟨_,_,rfl,qK h.1,uQ h.2⟩
theorem O1 {a b:D}(ha:fD a=true)(hb:fD b=true):rY (toV a) (toV b)=aI a b:=by
 cases a<;>cases b<;>first| (simp[toV,rY,aI];done)| (simp[fD]at ha;done)| (simp[fD]at hb;done)
noncomputable def Sl (K:KW)(d:D)(v:V):Prop:=(fD d=true/\v=toV d) \/
 ∃xs a o av n,d = .tup xs/\xs.all fD=true/\v = .ref a/\K.fr.lookup a=some o/\o.cls = .type "tuple" /\ o.dict=none/\o.data = .seq av n/\av.size<=Zl/\Vals (xs.map toV) av.toList
noncomputable def ER (w:World)(K:KW):List ZE->List (Str×D)->Prop
 | [],jU=>jU = []
 |e::es,jU=>∃x d rest,jU=(x,d)::rest/\(∃t,e.key = .str x t)/\e.hash=hashStr w x/\(∃v,RelV v e.val/\Sl K d v)/\ER w K es rest
structure tG (w:World)(K:KW)(a:Addr)(jU:List (Str×D)):Prop where
 ex:∃o es ep,K.fr.lookup a=some o/\o.ExactDict/\o.data = .dict es ep/\ER w K es.toList jU
 sys:(a == aa_)=false
section
variable {X:Cx}{a:Addr}{jU:List (Str×D)}
noncomputable def lu (xs:List D)(d:D):Option Nat:=xs.findIdx? λy=>aI y d
end
end L3
namespace L3
open PySem PySem.Spec PyProof.Rows L2
noncomputable def Qj:List Str->List V->List (Value×Value)->Prop
 | [],xs,vs=>xs = []/\vs = []
 |k::ks,xs,vs=>∃x xr t u vr,xs=x::xr/\vs=(.str k t,u)::vr/\RelV x u/\Qj ks xr vr
structure Yv (X:Cx)(keys:List (Option Expr))(vals:List Expr)(pos:Pos)(ks:List Str)(fr:FA):Prop where
 all:keys.all (·.isSome)=true
 len:keys.length=vals.length
 Yd:keys.length=ks.length
 un:∀(pins:List (Addr×Obj)) (s:Y4) (σ:L2.St) (H:Hp) (Q:List V->Hp->Prop),Inv X pins σ H s->ij X.kw fr σ H Q ->
  wpAny (model X.prog X.w) X.A (evalPairs (pairTrees keys vals X.env pos)) (λvs s1=>∃xs H1,Inv X pins σ H1 s1/\Qj ks xs vs/\Q xs H1) X.xe s
section
variable {X:Cx}
noncomputable def qL (i j:Nat)(fr:FA):FS:=λσ g=>(fr σ g).bind λr=>match r.1 with
 | [a,b]=>some (.nx,(σ.set i (some a)).set j (some b),r.2)
 |_=>none
theorem Lm {i j:Nat}{x y:Str}{a b:Expr}{fr:FA}{px py pt pos:Pos}{kt k2 gE}(hc:X.calm=true)(hN:X.N.Nodup)(hi:X.N[i]? = some x)(hj:X.N[j]? = some y)(gF:i≠j)
  (hx:X.env.scope.names.lookup x=some .local) (hy:X.env.scope.names.lookup y=some .local) (ha:DA X [a,b] fr)
  (hw:aa2 [.Tuple [.Name x px,.Name y py] kt pt] (.Tuple [a,b] k2 gE) X.env=pure (some [x,y]))
  (hs:abi [.Tuple [.Name x px,.Name y py] kt pt] (.Tuple [a,b] k2 gE) pos.line X.env=pure false:=by rfl):
  DS X (.Assign [.Tuple [.Name x px,.Name y py] kt pt] (.Tuple [a,b] k2 gE) pos) (qL i j fr):=.of (
 PS.imp (JE hc hN hi hj gF hx hy ha.un hw hs) λDn σ H h=>by
  obtain⟨ι,σd,g,r,b5,g',G0,S0,h,p⟩:=h
  obtain⟨⟨ds,g1⟩,h1,h⟩:=bind_some h
  refine ij.bind G0 S0 h1 λH1 ι1 vs e1 G1 S1 r1=>?_
  dsimp only at h
  split at h
  . rename_i a b
    cases h
    simp only[aj]at r1
    obtain⟨v,vr,rfl,ra,u,ur,rfl,rb,rfl⟩:=r1
    exact⟨v,u,rfl,p H1 ι1 e1 G1 _ ((S1.set ra i).set rb j)⟩
  . cases h)
end
theorem sY {prog:ZC}{w:World}{A:Zz}{E:Value->Y4->Prop}{s:Y4}{it a:Addr}{i:Nat}{items:Array Value}{x:Value}{Q:Value->Y4->Prop}(hit:s.heap.IsTupleIter it a i)(hl:s.heap.IsTuple a items)(hx:items[i]? = some x)
  (hQ:∀h',h'.IsTupleIter it a (i+1)->abR it s.heap h'->Q x { s with heap:=h' }):wpAny (model prog w) A (abq (.ref it)) Q E s:=by
 obtain⟨o,jo,jc,jd⟩:=id hit
 obtain⟨We,Ln,_,Wf,Lo⟩:=hl
 unfold abq
 refine xv (Z_ (name:=Zy "__next__") hit.typeIs F.slot_tuple_iterator_next (ZN F.slot_tuple_iterator_next hit.typeIs F.entry_tuple_iterator_next ?_ (F.args_tuple_iterator_next_1 _)))
 change wpAny _ _ (field (.ref it) 0 >>= λ_=>_) _ _ _
 refine xv (aba jo jd (x:=.ref a) rfl ?_)
 change wpAny _ _ (if(abX a == abF)=true then _ else _) _ _ _
 rw[if_neg (by exact aau)]
 change wpAny _ _ (field (.ref it) 1 >>= λ_=>_) _ _ _
 refine xv (aba jo jd (x:=.int i 0) rfl ?_)
 change wpAny _ _ (seqItems? (.ref a) >>= λ_=>_) _ _ _
 refine xv (aeb Ln Lo ?_)
 simp only[abN,hx]
 refine xv (ac2 jo jd (by simp) ?_)
 refine Y5 ⟨x,rfl,Y5 (hQ _ ⟨_,abg _ jo (aec (acj jd _)),(afd ..).trans jc,?_⟩ (aa4 ..))⟩
 rw[acj jd]
 simp[adE]
theorem mG {prog:ZC}{w:World}{A:Zz}{E:Value->Y4->Prop}{s:Y4}{it a:Addr}{i:Nat}{items:Array Value}{Q:Value->Y4->Prop}(hh:A.handled=none)(hit:s.heap.IsTupleIter it a i)(hl:s.heap.IsTuple a items)(hx:items[i]? = none)
  (hE:∀h' e,adY it s.heap h'->(∃o,h'.get? e=some o/\o.cls = .type "StopIteration")->E (.ref e) { s with heap:=h' }):wpAny (model prog w) A (abq (.ref it)) Q E s:=by
 obtain⟨o,jo,jc,jd⟩:=id hit
 obtain⟨We,Ln,_,Wf,Lo⟩:=hl
 unfold abq
 refine xv (Z_ (name:=Zy "__next__") hit.typeIs F.slot_tuple_iterator_next (ZN F.slot_tuple_iterator_next hit.typeIs F.entry_tuple_iterator_next ?_ (F.args_tuple_iterator_next_1 _)))
 change wpAny _ _ (field (.ref it) 0 >>= λ_=>_) _ _ _
 refine xv (aba jo jd (x:=.ref a) rfl ?_)
 change wpAny _ _ (if(abX a == abF)=true then _ else _) _ _ _
 rw[if_neg (by exact aau)]
 change wpAny _ _ (field (.ref it) 1 >>= λ_=>_) _ _ _
 refine xv (aba jo jd (x:=.int i 0) rfl ?_)
 change wpAny _ _ (seqItems? (.ref a) >>= λ_=>_) _ _ _
 refine xv (aeb Ln Lo ?_)
 simp only[abN,hx]
 refine xv (aaL (xv (ac2 jo jd (by simp) ?_)))
 change wpAny _ _ (newExc (.type "StopIteration") [] >>= λ_=>_) _ _ _
 refine xv ?_
 simp only[newExc,newTuple]
 refine xv (ZL ?_ (by size_fits))
 refine xv (m:=firstArgMember _ _) (wpAny_of_eq (a:=abF) (by first|rfl| (simp only[firstArgMember];rfl)) ?_)
 refine ZL ?_ (by size_fits)
 simp only[raiseNew]
 refine xv (wpAny_handled ?_)
 rw[show A.in1.handled=none from hh]
 exact xv (Y5 (wpAny_throw (hE _ _ (((aa4 ..).extBut.push _).push _) ⟨_,Zg _ rfl,rfl⟩)))
theorem AL {prog:ZC}{w:World}{A:Zz}(hh:A.handled=none)(it a:Addr)(jI:a≠it)(items:Array Value):
  Draws prog w A it [it,a] items.size (λi v=>items[i]? = some v) (λi h=>h.IsTupleIter it a i/\h.IsTuple a items) where
 live:=λ_ _ st=>let⟨o,ho,_⟩:=st.1;⟨o,ho⟩
 frame:=λ_ _ _ st hk=>⟨st.1.at λo e=>hk it (by simp) o e,let⟨o,ho,r⟩:=st.2;⟨o,hk a (by simp) o ho,r⟩⟩
 item:=λi s Q E hi st hQ=>sY st.1 st.2 (x:=items[i]) (by simp[hi]) λh' qM AM=>hQ _ h' s.toks (by simp[hi]) ⟨qM,st.2.extBut AM.extBut jI⟩ AM
 done:=λs Q E st hE=>mG hh st.1 st.2 (by simp) hE
theorem AN {prog:ZC}{w:World}{A:Zz}(hh:A.handled=none)(it a:Addr)(items:Array Value)(n:Nat)(hn:items.size<=n):
  Draws prog w A it [it,a] n (λ_ _=>True) (λj h=>j=n/\h.IsTupleIter it a n/\h.IsTuple a items) where
 live:=λ_ _ st=>let⟨o,ho,_⟩:=st.2.1;⟨o,ho⟩
 frame:=λ_ _ _ st hk=>⟨st.1,st.2.1.at λo e=>hk it (by simp) o e,let⟨o,ho,r⟩:=st.2.2;⟨o,hk a (by simp) o ho,r⟩⟩
 item:=λi s Q E hi st hQ=>absurd st.1 (Zk hi)
 done:=λs Q E st hE=>mG hh st.2.1 st.2.2 (by simp;exact hn) hE
theorem AO (a:Addr)(items:Array Value)(n:Nat)(aM:Option Addr)(sl:Array (Option Value)):
  Meets (abt.«enumerate.__new__» ⟨[.type "enumerate",.ref a],[]⟩) (λ_ R s=>s.heap.get? a=some { cls:=.type "tuple",dict:=aM,data:=.seq items n,slots:=sl } /\
    R (.ok (.ret (.ref (s.heap.push { cls:=.type "tuple_iterator",data:=.fields #[.ref a,.int 0 0] }).objs.size)))
     { s with heap:=(s.heap.push { cls:=.type "tuple_iterator",data:=.fields #[.ref a,.int 0 0] }).push { cls:=.type "enumerate",data:=.fields #[.none,.bool false,.ref s.heap.objs.size,adE 0,.none,.none] } }):=
 .of_wp λprog w A R s h=>by
  obtain⟨hp,g,d,tk,os⟩:=s
  obtain⟨ht,h⟩:=h
  have sub:=sub_enumerate
  have tup:Heap.IsTuple (Shared.heap ⟨hp,g,d,tk,os⟩) a items:=⟨_,ht,rfl,n,rfl⟩
  wp_walk using wpAny_loadPart' ht
  refine wpAny_stack_any λst=>Y5 ?_
  split
  . rename_i c _ _ _ _ _
    cases (c == Z3 "enumerate")<;>(wp_walk using wpAny_loadPart' ht,abG tup;exact⟨_,rfl,h⟩)
  . wp_walk using wpAny_loadPart' ht,abG tup
    exact⟨_,rfl,h⟩
theorem yY {prog:ZC}{w:World}{A:Zz}{E:Value->Y4->Prop}{s:Y4}{a:Addr}{items:Array Value}{Q:Value->Y4->Prop}(ht:s.heap.IsTuple a items)
  (h:∀h',IsEnum h' (s.heap.objs.size+1) s.heap.objs.size 0 .none->h'.IsTupleIter s.heap.objs.size a 0->(∀b o,s.heap.get? b=some o->h'.get? b=some o)->Q (.ref (s.heap.objs.size+1)) { s with heap:=h' }):
  wpAny (model prog w) A (call (.type "enumerate") [.ref a]) Q E s:=by
 obtain⟨⟨c,aM,dt,sl⟩,e1,e2,n,e3⟩:=ht
 cases (show c = .type "tuple" from e2)
 cases (show dt = .seq items n from e3)
 refine callType_new F.called_enumerate (by decide) (F.typeCall_enumerate_1 _) (F.newCall_enumerate_1 _) (λobj=>F.args_object_init_2 obj _) F.entry_enumerate_new (AO a items n aM sl) ⟨e1,?_⟩
 have sz:(s.heap.push { cls:=.type "tuple_iterator",data:=.fields #[.ref a,.int 0 0] }).objs.size=s.heap.objs.size+1:=aaS ..
 have en:=Zg (s.heap.push { cls:=.type "tuple_iterator",data:=.fields #[.ref a,.int 0 0] }) (o:={ cls:=.type "enumerate",data:=.fields #[.none,.bool false,.ref s.heap.objs.size,adE 0,.none,.none] }) rfl
 rw[sz]at en
 show _/\_
 rw[sz]
 exact⟨⟨_,en,rfl⟩,h _ en ⟨_,Y6 _ (Zg _ rfl),rfl,rfl⟩ λb o x=>Y6 _ (Y6 _ x)⟩
theorem HH {X:Cx}{pins:List (Addr×Obj)}{σ:L2.St}{H:Hp}{s:Y4}{h':Heap}{t':Nat}{ch:List Addr}(I:L2.Inv X pins σ H s)(k:∀b o,b ∉ ch->s.heap.get? b=some o->h'.get? b=some o)(hf:∀b∈ch,iz X pins H b):
   L2.Inv X pins σ H { s with heap:=h',toks:=t' }:=by
 have zS:∀b u,H b=some u->b ∉ ch:=λb u e z=>by rw[(hf b z).1]at e;cases e
 refine I.step (g':=s.gens) (d':=s.drawn) (ch:=ch) (λb hb=>?_) (λb o _ _ hc e _=>k b o hc e) (λb o _ _ hc e _=>⟨o.slots,k b o hc e⟩) (λ_ _ _ _ n=>n)
   (λb o hc e=>⟨o,k b o hc e⟩) (λ_ _ e=>e) (λ_ _ _ e=>e) (λb ps e=>⟨#[],by rw[e];simp⟩) (λm hm=>?_) (λb u e=>?_) I.bare
 . obtain⟨f0,f1,f2,f3,f4,f5⟩:=hf b hb
   exact⟨f3,f1,f4,f5⟩
 . obtain⟨o,es,ep,ho,r⟩:=hm
   exact⟨o,es,ep,k _ o (λz=>(hf _ z).2.1 rfl) ho,r⟩
 . refine(I.bJ b u e).iy (λc v hc q=>k c v ?_ q) (λ_ q=>q) λ_ _ q=>q
   rcases hc with z|z
   . rw[z];exact zS b u e
   . exact zS c _ z
noncomputable def Lp (K:PySem.W.Frag)(a:Addr):It :=
 ⟨λi H=>∃xs x,dP K H a xs/\xs[i]? = some x,λi H x H'=>∃T v,x = .ref T/\H T=none/\H'=upd H T (.tup [.int i,v]) /\ ∀xs,dP K H a xs->xs[i]? = some v,λi H=>∃xs,dP K H a xs/\xs.length<=i⟩
theorem yZ {P:ZC}{w:World}{K:PySem.W.Frag}{elts:List Expr}{kt:Nat}{tp:Pos}(a e it:Addr)(Lq:e≠it):Turn P w K (.Tuple elts kt tp) (Lp K a) [e,it] e (λi h=>(∃old,IsEnum h e it i old)/\h.IsTupleIter it a i) where
 mem:=by simp
 obj:=λi h st b hb=>by
  obtain⟨⟨old,h1⟩,o,h2,h3,h4⟩:=st
  rcases Zd.mp hb with rfl|hb
  . exact⟨_,h1,λv z=>by cases z⟩
  . have eE:b=it:=by simpa using hb
    subst eE
    exact⟨o,h2,λv z=>by rw[h4]at z;cases z⟩
 keep:=λi h h' st k=>by
  obtain⟨⟨old,h1⟩,h2⟩:=st
  exact⟨⟨old,k e (by simp) _ h1⟩,h2.at λo q=>k it (by simp) o q⟩
 item:=by
  intro X hP hw hK hc i pins s σ H E I hf st hg
  subst hP hw hK
  obtain⟨⟨old,h1⟩,h2⟩:=st
  obtain⟨xs,x,hq,hx⟩:=hg
  obtain⟨av,rv,p,hz⟩:=I.tuple hq
  obtain⟨u,hu,ru⟩:=rv.get hx
  have ai:a≠it:=λz=>by
    obtain⟨o,q1,q2,_⟩:=p
    obtain⟨o',q3,q4,_⟩:=h2
    rw[z,q3]at q1
    cases q1
    rw[q4]at q2
    exact absurd q2 (by decide)
  have ae:e≠a:=λz=>by
    obtain⟨o,q1,q2,_⟩:=p
    rw[<- z,h1]at q1
    cases q1
    exact absurd (show Z3 "enumerate" = Z3 "tuple" from q2) (by decide)
  have hi:i<av.toArray.size:=by
    have:=(Y7.mp hu).1
    simpa using this
  refine wpAny_pyNext_enum_itemD (AL (A:=X.A.in1) (I.ok.hd hc) it a ai av.toArray) h1 ⟨h2,p⟩ hi Lq (by simp[Lq,ae]) λx' h' tk hP Sm cU hT hsz hk=>?_
  have ex:x'=u:=by
    have q:av.toArray[i]? = some x':=hP
    have q':av[i]? = some x':=by simpa using q
    rw[hu]at q'
    exact(aas q').symm
  subst ex
  refine⟨_,rfl,wpAny_letOwnedTupleGo_enum Sm λKS n0 Lr=>?_⟩
  have I1:L2.Inv X pins σ (upd H s.heap.objs.size (.tup [.int i,x])) { s with heap:=s.heap.push { cls:=.type "tuple",data:=.seq #[.int i tk,x'] } }:=
    I.laid (t':=s.toks) (o:=.tup [.int i,x]) (λb o q=>Y6 _ q) (Za _) (show cW X.prog X.w _ _ _ (.tup [.int i,x]) from⟨by show 2<=Zl;decide,[.int i tk,x'],.cons ⟨tk,rfl⟩ (.cons ru .nil),eX.new _ _⟩)
  have eT:e≠s.heap.objs.size:=Zk (Zf h1)
  have iT:it≠s.heap.objs.size:=by
    obtain⟨o',q3,_⟩:=h2
    exact Zk (Zf q3)
  have I2:L2.Inv X pins σ (upd H s.heap.objs.size (.tup [.int i,x])) { s with heap:=KS,toks:=tk+1 }:=HH (s:={ s with heap:=s.heap.push { cls:=.type "tuple",data:=.seq #[.int i tk,x'] } }) (ch:=[e,it]) I1 (λb o hb q=>by
    simp only[Zd,abz,or_false,not_or]at hb
    have h3:h'.get? b=some o:=by
      by_cases Qk:b=s.heap.objs.size
      . subst Qk
        have:(s.heap.push { cls:=.type "tuple",data:=.seq #[.int i tk,x'] }).get? s.heap.objs.size=some o:=q
        rw[Zg _ rfl]at this
        rw[<- this];exact hT
      . exact hk b o hb.1 hb.2 ((aa1 s.heap b _ Qk).symm.trans q)
    exact(Lr.2 b hb.1).trans h3) (λb hb=>by
      obtain⟨f0,f1,f2,f3,f4,f5⟩:=hf b hb
      refine⟨?_,f1,f2,f3,f4,f5⟩
      rcases Zd.mp hb with rfl|hb
      . rw[a_ eT];exact f0
      . have eE:b=it:=by simpa using hb
        subst eE
        rw[a_ iT];exact f0)
  refine⟨.ref s.heap.objs.size,_,I2,rfl,⟨_,x,rfl,I.fresh,rfl,λys hy=>by rw[I.md hy hq];exact hx⟩,⟨⟨_,by simpa using n0⟩,?_⟩,λb hb=>?_⟩
  . exact cU.1.at λo q=>(Lr.2 it (aa0 Lq)).trans q
  . rcases Zd.mp hb with rfl|hb
    . rw[a_ eT];exact(hf _ (by simp)).1
    . have eE:b=it:=by simpa using hb
      subst eE
      rw[a_ iT];exact(hf _ (by simp)).1
 done:=by
  intro X hP hw hK hc i pins s σ H E I hf st hg
  subst hP hw hK
  obtain⟨⟨old,h1⟩,h2⟩:=st
  obtain⟨xs,hq,hx⟩:=hg
  obtain⟨av,rv,p,hz⟩:=I.tuple hq
  have ai:a≠it:=λz=>by
    obtain⟨o,q1,q2,_⟩:=p
    obtain⟨o',q3,q4,_⟩:=h2
    rw[z,q3]at q1
    cases q1
    rw[q4]at q2
    exact absurd q2 (by decide)
  have f:=hf it (by simp)
  have fin:∀h',adY it s.heap h'->L2.Inv X pins σ H { s with heap:=h' }:=λh' eb=>I.turned (t':=s.toks) (λb o hb q=>eb b o hb q) f.1 f.2.1 f.2.2.2.1 f.2.2.2.2.1 f.2.2.2.2.2
  have hl:=rv.length
  exact wpAny_pyNext_enum_endD (AN (A:=X.A.in1) (I.ok.hd hc) it a av.toArray i (by simp;omega)) h1 ⟨rfl,h2,p⟩ λh' eb=>⟨rfl,fin h' eb⟩
 self:=λ_ _ _ _ _ st h=>wpAny_pyIter_enum st.1.choose_spec h
noncomputable def dH (xs:List D):List D:=xs.zipIdx.map λp=>.tup [.int (p.2:Nat),p.1]
noncomputable def AQ (f:FE):FI:=λσ g=>(f σ g).bind λr=>match r.1 with|.tup xs=>some (dH xs,r.2)|_=>none
theorem ll.O2 {K H ι a vs ds}(hq:jD K H ι a vs)(hr:aj K H ι ds vs):ll K (Lp K a) H ι (dH ds):=λi H1 ι1 g1 e1 G1 =>
 ⟨λhl=>⟨vs,(hq.eu e1).sq,by rw[<- hr.length];simpa[dH]using hl⟩,λd hd=>by
  unfold dH at hd
  rw[ZS,List.getElem?_zipIdx]at hd
  cases hx:ds[i]? with
  |none=>rw[hx]at hd;cases hd
  |some d0 =>
   rw[hx]at hd
   simp only[ZP,aai,abW]at hd
   subst hd
   obtain⟨v,hv,rv⟩:=(aj.eu e1 _ hr).get hx
   refine⟨⟨vs,v,(hq.eu e1).sq,hv⟩,λx H2 y=>?_⟩
   obtain⟨T,v',rfl,hn,rfl,hy⟩:=y
   have:=hy vs (hq.eu e1).sq
   rw[hv]at this
   cases this
   refine⟨Ext.lay hn,G1.lay hn,?_⟩
   simp only[Rel]
   refine⟨T,_,rfl,.inl ⟨.inl bA,G1.fresh hn⟩,?_⟩
   simp only[aj,Rel]
   exact⟨_,_,rfl,rfl,_,_,rfl,Rel.ext (Ext.lay hn) _ rv,rfl⟩⟩
theorem C4 {X:Cx}{l:Expr}{fe:FE}{p pos tp:Pos}{elts:List Expr}{kt:Nat}(hg:Gl X "enumerate")(hm:X.mg "enumerate" = none)(hl:DE X l fe)
  (hs:Zv [l] X.env = [(false,eval l X.env)]:=by rfl):DI X (.Tuple elts kt tp) (.Call (.Name "enumerate" p) [l] [] pos) (AQ fe):=.of (by
 intro pins s σ H R I h
 obtain⟨ι,σd,g,ds,g',G0,S0,h,q⟩:=h
 obtain⟨⟨d1,g1⟩,h1,h⟩:=bind_some h
 cases d1 with
 |tup xs =>
  cases h
  refine Call_ (fZ I hg hm PyProof.Rows.boot_enumerate (aah (aX ((kB hl.un oZ hs) pos pins s σ H (λvs H1=>∃v ι1,vs = [v]/\Ext H ι H1 ι1/\az X.kw H1 ι1 g1/\Rel X.kw H1 ι1 (.tup xs) v) I ?_) λus s1 ⟨vs,H1,I1,r1,v,ι1,e0,e1,G1,rd⟩=>?_) hs rfl))
  . exact⟨ι,σd,g,_,g1,G0,S0,h1,λH1 ι1 v e1 G1 r1=>⟨v,ι1,rfl,e1,G1,r1⟩⟩
  . subst e0
    obtain⟨u,rfl,ru⟩:=vals1 r1
    simp only[Rel]at rd
    obtain⟨a,vs,rfl,hq,hr⟩:=rd
    cases ru
    obtain⟨av,rv,pt,hz⟩:=I1.tuple hq.sq
    refine yY (show s1.heap.IsTuple a av.toArray from pt) λh' n0 uR hk=>?_
    refine wpAny_pyIter_enum n0 ?_
    have jI:s1.heap.objs.size+1≠s1.heap.objs.size:=Nat.succ_ne_self _
    refine⟨s1.heap.objs.size+1,[s1.heap.objs.size+1,s1.heap.objs.size],_,_,H1,rfl,I1.kept (t':=s1.toks) hk,yZ a _ _ jI,⟨⟨_,n0⟩,uR⟩,λb hb=>?_,q H1 ι1 _ e1 G1 (.O2 hq hr)⟩
    rcases Zd.mp hb with rfl|hb
    . exact I1.ox (abL _) (I1.bJ.fresh (abL _))
    . have eE:b=s1.heap.objs.size:=by simpa using hb
      subst eE
      exact I1.ox (Za _) (I1.bJ.fresh (Za _))
 |_=>cases h)
noncomputable def fP (f:FE):FI:=λσ g=>(f σ g).bind λr=>match r.1 with|.tup xs=>some (dH xs,r.2)|_=>none
theorem HI {X:Cx}{l:Expr}{fe:FE}{p pos tp:Pos}{elts:List Expr}{kt:Nat}(hg:Gl X "enumerate")(hm:X.mg "enumerate" = none)(hl:DE X l fe)
  (hs:Zv [l] X.env = [(false,eval l X.env)]:=by rfl):DI X (.Tuple elts kt tp) (.Call (.Name "enumerate" p) [l] [] pos) (fP fe):=.of (by
 intro pins s σ H R I h
 obtain⟨ι,σd,g,ds,g',G0,S0,h,q⟩:=h
 obtain⟨⟨d1,g1⟩,h1,h2⟩:=bind_some h
 cases d1 with
 |tup xs=>exact(C4 hg hm hl hs).un pins s σ H R I ⟨ι,σd,g,ds,g',G0,S0,by unfold AQ;rw[h1];exact h2,q⟩
 |_=>cases h2)
@[simp] theorem Sn {fa:FE}{σ:Sg}{g:G}:fP fa σ g=(fa σ g).bind λr=>match r.1 with|.tup xs=>some (dH xs,r.2)|_=>none:=rfl
section
variable {σ:Sg}{g:G}{fa fb fo fx:FE}{fr:FA}
@[simp] theorem Vb {i j:Nat}:qL i j fr σ g=(fr σ g).bind λr=>match r.1 with
 | [a,b]=>some (.nx,(σ.set i (some a)).set j (some b),r.2)
 |_=>none:=rfl
end
section
variable {σ:Sg}{g:G}{fa fb:FE}
@[simp] theorem O3:kg .aA g=some false:=rfl
@[simp] theorem O4 {xs:List D}:kg (.tup xs) g=some (!xs.isEmpty):=rfl
@[simp] theorem O5 {xs:List D}:kg (.lst xs) g=some (!xs.isEmpty):=rfl
end
structure ZA (z ti tu j1 j2 a1 a2:Addr):Prop where
 n1:ti≠z
 n2:tu≠z
 n3:j1≠z
 n4:j2≠z
 n5:ti≠tu
 n6:tu≠j1
 n7:tu≠j2
 n8:j1≠j2
 n9:ti≠j1
 Yw:ti≠j2
 m1:a1≠z/\a1≠tu/\a1≠j1/\a1≠j2
 m2:a2≠z/\a2≠tu/\a2≠j1/\a2≠j2
noncomputable def iy (cs:List Addr)(h h':Heap):Prop:=∀c o,c ∉ cs->h.get? c=some o->h'.get? c=some o
theorem iy.tr {cs h h1 h2}(a:iy cs h h1)(b:iy cs h1 h2):iy cs h h2:=λc o n e=>b c o n (a c o n e)
theorem iy.of {cs h h1 c}(a:abR c h h1)(m:c∈cs):iy cs h h1:=λb o n e=>(a.2 b λz=>n (z ▸ m)).trans e
noncomputable def C5 (xs ys:List D):List D:=(xs.zip ys).map λp=>.tup [p.1,p.2]
noncomputable def bq (n:Nat)(lo hi:Option Int)(st:Int):Int×Nat:=((aac lo hi st (n:Int)).1,aap (aac lo hi st (n:Int)).1 (aac lo hi st (n:Int)).2 st)
noncomputable def fw {α:Type}(xs:List α)(l:Int)(n:Nat)(st:Int):List α:=(Y9 n).filterMap λ(k:Nat)=>xs[(l+(k:Int)*st).toNat]?
noncomputable def qN (d:D)(lo hi st:Option Int)(g:G):Option (D×G):=match d,st with
 |.tup xs,some k=>if(!(k == 0) && !(k == 1)&&aG (bq xs.length lo hi k).2)=true then some (.tup (fw xs (bq xs.length lo hi k).1 (bq xs.length lo hi k).2 k),g)else none
 |_,_=>none
theorem AR {d d':D}{lo hi st:Option Int}{g g':G}(h:qN d lo hi st g=some (d',g')):∃xs k,d = .tup xs/\st=some k/\k≠0/\k≠1/\aG (bq xs.length lo hi k).2=true/\d' = .tup (fw xs (bq xs.length lo hi k).1 (bq xs.length lo hi k).2 k)/\g'=g:=by
 unfold qN at h
 split at h
 . rename_i xs k
   split at h
   . rename_i z
     rw[Y3,Y3]at z
     cases h
     exact⟨xs,k,rfl,rfl,by simpa using z.1.1,by simpa using z.1.2,z.2,rfl,rfl⟩
   . cases h
 . cases h
noncomputable def oG (fa:FE)(fl fh fs:FO):FE:=λσ g=>(fa σ g).bind λr=>(fl σ r.2).bind λl=>(fh σ l.2).bind λh=>(fs σ h.2).bind λk=>qN r.1 l.1 h.1 k.1 k.2
theorem sA {α:Type}(xs:List α)(l:Int)(n:Nat)(st:Int):(fw xs l n st).length<=n:=by
 unfold fw
 exact aaa (List.length_filterMap_le _ _) (by simp)
theorem aj.pick {K H ι}{xs:List D}{vs:List V}(r:aj K H ι xs vs)(l:Int)(st:Int):∀n k,aj K H ι ((ac5 k n).filterMap λ(k:Nat)=>xs[(l+(k:Int)*st).toNat]?) ((ac5 k n).filterMap λ(k:Nat)=>vs[(l+(k:Int)*st).toNat]?)
 | 0,k=>by simp[aj]
 |n+1,k=>by
  rw[afA,aag,aag]
  have ih:=aj.pick r l st n (k+1)
  cases hx:xs[(l+(k:Int)*st).toNat]? with
  |none =>
   have hv:vs[(l+(k:Int)*st).toNat]? = none:=by
    rw[acd]at hx ⊢
    rw[<- r.length];exact hx
   rw[hv];exact ih
  |some d =>
   obtain⟨v,hv,rv⟩:=r.get hx
   rw[hv]
   simp only[aj]
   exact⟨v,_,rfl,rv,ih⟩
theorem sC {vs:List V}{av:List Value}(r:Vals vs av)(l:Int)(st:Int):∀n k,Vals ((ac5 k n).filterMap λ(k:Nat)=>vs[(l+(k:Int)*st).toNat]?) ((ac5 k n).filterMap λ(k:Nat)=>av[(l+(k:Int)*st).toNat]?)
 | 0,k=>.nil
 |n+1,k=>by
  rw[afA,aag,aag]
  have ih:=sC r l st n (k+1)
  cases hx:vs[(l+(k:Int)*st).toNat]? with
  |none =>
   have hv:av[(l+(k:Int)*st).toNat]? = none:=by
    rw[acd]at hx ⊢
    rw[<- r.length];exact hx
   rw[hv];exact ih
  |some d =>
   obtain⟨v,hv,rv⟩:=r.get hx
   rw[hv]
   exact .cons rv ih
section
variable {prog:ZC}{w:World}{A:Zz}{E:Value->Y4->Prop}{s:Y4}
theorem C6 {sl:Addr}{vl vu vs:Value}{lo hi:Option Int}{k:Int}{n:Nat}{Q:Int×Int×Nat->Y4->Prop}(hs:s.heap.IsSliceOf sl vl vu vs)(pl:abx vl lo)(pu:abx vu hi)(ps:abx vs (some k))(h0:k≠0)
  (h:Q ((bq n lo hi k).1,k,(bq n lo hi k).2) s):wpAny (model prog w) A (abj (.ref sl) (pure (n:Int))) Q E s:=by
 obtain⟨os,e1,e2,e3⟩:=id hs
 unfold abj adu
 refine xv (xv (aba e1 e3 (x:=vl) rfl (xv (aba e1 e3 (x:=vu) rfl (xv (aba e1 e3 (x:=vs) rfl (Y5 ?_)))))))
 refine xv (HT.gS ps ?_)
 change wpAny _ _ (if(k == 0)=true then _ else _) _ _ s
 rw[if_neg (by simpa using h0)]
 exact xv (HT.gS pl (xv (HT.gS pu (xv (Y5 (Y5 h))))))
theorem O6 {t sl:Addr}{items:Array Value}{vl vu vs:Value}{lo hi:Option Int}{k:Int}{Q:Value->Y4->Prop}(ht:IsTup s.heap t items)(hs:s.heap.IsSliceOf sl vl vu vs)(pl:abx vl lo)(pu:abx vu hi)(ps:abx vs (some k))(h0:k≠0)(h1:k≠1)
  (h:Q (.ref s.heap.objs.size) { s with heap:=s.heap.push { cls:=.type "tuple",data:=.seq (fw items.toList (bq items.size lo hi k).1 (bq items.size lo hi k).2 k).toArray } })
  (hz:(bq items.size lo hi k).2<=Zl):wpAny (model prog w) A (aco (.ref t) (.ref sl)) Q E s:=by
 have ok:sizeOk (.seq (fw items.toList (bq items.size lo hi k).1 (bq items.size lo hi k).2 k).toArray):=by
  show(fw items.toList (bq items.size lo hi k).1 (bq items.size lo hi k).2 k).toArray.size<=Zl
  rw[Y_]
  exact aaa (sA ..) hz
 obtain⟨os,e1,e2,e3⟩:=id hs
 have ty:s.TypeIs (.ref sl) "slice":=⟨os,e1,e2⟩
 unfold aco
 try with_reducible refine ZI ?_
 first|refine xv (Y5 ?_)|skip
 refine xv (abO ht.typeIs (by decide) (xv (Z_ (name:=Zy "__getitem__") ht.typeIs ZG (ZN ZG ht.typeIs acY ?_ (ac8 _ _)))))
 change wpAny _ _ (abk (.ref t) >>= λ_=>_) _ _ s
 refine xv (aeA ht (xv (aci ty ?_)))
 rw[if_pos (by decide)]
 refine xv (C6 hs pl pu ps h0 ?_)
 have no:¬(((bq items.size lo hi k).1 == 0&&k == 1&&(bq items.size lo hi k).2 == items.size)=true):=by
  intro q
  rw[Y3,Y3]at q
  exact h1 (eq_of_beq q.1.2)
 change wpAny _ _ (if((bq items.size lo hi k).1 == 0&&k == 1&&(bq items.size lo hi k).2 == items.size)=true then _ else _) _ _ s
 rw[if_neg no]
 have e:((Y9 (bq items.size lo hi k).2).filterMap λ(m:Nat)=>items[((bq items.size lo hi k).1+(m:Int)*k).toNat]?).toArray=(fw items.toList (bq items.size lo hi k).1 (bq items.size lo hi k).2 k).toArray:=by
  unfold fw
  simp only[aaQ]
 rw[e]
 first
  |exact xv (m:=ZO _) (ZL (Y5 ⟨_,rfl,Y5 h⟩) ok)
  |exact xv (m:=ZO _) (ZL (xv (Y5 (Y5 ⟨_,rfl,Y5 h⟩))) ok)
  |exact xv (xv (m:=ZO _) (ZL (Y5 (Y5 ⟨_,rfl,Y5 h⟩)) ok))
  |exact xv (xv (m:=ZO _) (ZL (Y5 ⟨_,rfl,Y5 h⟩) ok))
end
theorem AS {X:Cx}{e:Expr}{lo hi:Option Expr}{st:Expr}{fe:FE}{fl fh fs:FO}{p2 pos:Pos}(he:DE X e fe)(hl:DO X lo fl)(hu:DO X hi fh)(cU:DO X (some st) fs):DE X (.Subscript e (.Slice lo hi (some st) p2) pos) (oG fe fl fh fs):=.of (by
 intro pins s σ H Q I h
 obtain⟨ι,σd,g,d,g',G0,S0,h,p⟩:=h
 obtain⟨⟨d1,g1⟩,h1,h⟩:=bind_some h
 obtain⟨⟨l,g2⟩,h2,h⟩:=bind_some h
 obtain⟨⟨u,g3⟩,h3,h⟩:=bind_some h
 obtain⟨⟨k,g4⟩,h4,h⟩:=bind_some h
 refine Subscript_ (aX (he.un pins s σ H (λx H1=>∃ι1,Ext H ι H1 ι1/\az X.kw H1 ι1 g1/\bR X.kw H1 ι1 σd σ/\Rel X.kw H1 ι1 d1 x) I ⟨ι,σd,g,d1,g1,G0,S0,h1,λH1 ι1 v e1 G1 r1=>⟨ι1,e1,G1,S0.ext e1,r1⟩⟩) λv s1 ⟨x,H1,I1,r1,ι1,e1,G1,S1,rd⟩=>?_)
 refine wpAny_Slice (aX (hl.un pins s1 σ H1 (λo H2=>o=l /\ ∃ι2,Ext H1 ι1 H2 ι2/\az X.kw H2 ι2 g2) I1 ⟨ι1,σd,g1,l,g2,G1,S1,h2,λH2 ι2 e2 G2=>⟨rfl,ι2,e2,G2⟩⟩) λvl s2 ⟨o,H2,I2,pl,eo,ι2,e2,G2⟩=>?_)
 subst eo
 refine aX (hu.un pins s2 σ H2 (λo H3=>o=u /\ ∃ι3,Ext H2 ι2 H3 ι3/\az X.kw H3 ι3 g3) I2 ⟨ι2,σd,g2,u,g3,G2,S1.ext e2,h3,λH3 ι3 e3 G3=>⟨rfl,ι3,e3,G3⟩⟩) λvu s3 ⟨o',H3,I3,pu,eo,ι3,e3,G3⟩=>?_
 subst eo
 refine aX (cU.un pins s3 σ H3 (λo H4=>o=k /\ ∃ι4,Ext H3 ι3 H4 ι4/\az X.kw H4 ι4 g4) I3 ⟨ι3,σd,g3,k,g4,G3,S1.ext (e2.trans e3),h4,λH4 ι4 e4 G4=>⟨rfl,ι4,e4,G4⟩⟩) λvs s4 ⟨Yx,H4,I4,ps,eo,ι4,e4,G4⟩=>?_
 subst eo
 have Ql:=Rel.ext (e2.trans (e3.trans e4)) _ rd
 obtain⟨xs,kk,rfl,ek,z0,z1,z2,rfl,rfl⟩:=AR h
 cases ek
 simp only[Rel]at Ql
 obtain⟨a,ws,rfl,hq,hr⟩:=Ql
 cases r1
 have I5:L2.Inv X pins σ H4 { s4 with heap:=s4.heap.push { cls:=.type "slice",data:=.fields #[vl,vu,vs] } }:=I4.kept (t':=s4.toks) λb ob q=>Y6 _ q
 obtain⟨av,rv,pt,hz⟩:=I5.tuple hq.sq
 have hlen:av.toArray.size=xs.length:=by rw[Y_,<- rv.length,<- hr.length]
 change wpAny (model X.prog X.w) X.A (aeB e (.Slice lo hi (some st) p2) (.ref a) (.ref s4.heap.objs.size)) (EP X pins σ Q) X.xe { s4 with heap:=s4.heap.push { cls:=.type "slice",data:=.fields #[vl,vu,vs] } }
 refine tail_any (ops:=[.ref a,.ref s4.heap.objs.size]) pt.typeIs ZG.lookup ?_ (by with_unfolding_all rfl)
 refine O6 pt (aeR ..) pl pu ps z0 z1 ?_ (by rw[hlen];exact aG.le z2)
 rw[hlen]
 have hp:∀{α:Type} (ys:List α) (l:Int) (n:Nat) (c:Int),fw ys l n c=(ac5 0 n).filterMap λ(k:Nat)=>ys[(l+(k:Int)*c).toNat]?:=λys l n c=>by unfold fw;rw[List.range_eq_range']
 have dQ:=I5.fresh
 refine⟨.ref _,_,I5.laid (t':=s4.toks) (o:=.tup (fw ws (bq xs.length o o' kk).1 (bq xs.length o o' kk).2 kk)) (λb ob q=>Y6 _ q) (Za _) ⟨aaa (sA ..) (aG.le z2),_,by rw[hp,hp];exact sC rv _ _ _ _,eX.new _ _⟩,rfl,?_⟩
 refine p _ ι4 _ ((e1.trans (e2.trans (e3.trans e4))).trans (Ext.lay dQ)) (G4.lay dQ) ?_
 simp only[Rel]
 refine⟨_,_,rfl,.inl ⟨.inl bA,G4.fresh dQ⟩,?_⟩
 rw[hp,hp]
 exact aj.ext (Ext.lay dQ) _ (aj.pick hr _ _ _ _))
@[simp] theorem Vc {fa:FE}{fl fh fs:FO}{σ:Sg}{g:G}:oG fa fl fh fs σ g=(fa σ g).bind λr=>(fl σ r.2).bind λl=>(fh σ l.2).bind λh=>(fs σ h.2).bind λk=>qN r.1 l.1 h.1 k.1 k.2:=rfl
section
variable {X:Cx}
section
open SeqAt
variable {pins:List (Addr×Obj)}{σ:L2.St}{H:Hp}{s:Y4}{ι:Ix}
theorem AU (I:Inv X pins σ H s):∀(d1 d2:D) {A:Zz} {x y:V} {u v:Value},flat d1=true->flat d2=true->Rel X.kw H ι d1 x->Rel X.kw H ι d2 y->RelV x u->RelV y v->A.units+dep d1<cLine->RcNeAt A s u v (!aI d1 d2)
 |.aA,d2,A,x,y,u,v,_,f2,r1,r2,ru,rv,hu=>by
  simp only[Rel]at r1;subst r1;cases ru
  cases d2 with
  |aA=>simp only[Rel]at r2;subst r2;cases rv;simp only[aI,Zj,Zn];exact .none_none
  |bl b=>simp only[Rel]at r2;subst r2;cases rv;simp only[aI,Zj,Zn];exact .none_bool b
  |int b=>simp only[Rel]at r2;subst r2;obtain⟨t,rfl⟩:=rv;simp only[aI,Zj,Zn];exact .none_int b t
  |str b=>simp only[Rel]at r2;subst r2;obtain⟨t,rfl⟩:=rv;simp only[aI,Zj,Zn];exact .none_str b t
  |tup ys=>simp only[Rel]at r2;obtain⟨a',ws,rfl,hq,hr⟩:=r2;cases rv;obtain⟨av,_,ht,_⟩:=I.tuple hq.sq;simp only[aI,Zj,Zn];exact .none_tuple ht (by omega)
  |lst ys=>simp only[Rel]at r2;obtain⟨a',ws,rfl,hq,hr⟩:=r2;cases rv;obtain⟨av,_,ht,_⟩:=I.list hq.sq;simp only[aI,Zj,Zn];exact .none_list ht.isList (by omega)
  |_=>cases f2
 |.bl a,d2,A,x,y,u,v,_,f2,r1,r2,ru,rv,hu=>by
  simp only[Rel]at r1;subst r1;cases ru
  cases d2 with
  |aA=>simp only[Rel]at r2;subst r2;cases rv;simp only[aI,Zj,Zn];exact .bool_none a
  |bl b=>simp only[Rel]at r2;subst r2;cases rv;simp only[aI,Zj,Zn];exact .bool_bool a b
  |int b=>simp only[Rel]at r2;subst r2;obtain⟨t,rfl⟩:=rv;simp only[aI,Zj,Zn];exact .bool_int a b t
  |str b=>simp only[Rel]at r2;subst r2;obtain⟨t,rfl⟩:=rv;simp only[aI,Zj,Zn];exact .bool_str a b t
  |tup ys=>simp only[Rel]at r2;obtain⟨a',ws,rfl,hq,hr⟩:=r2;cases rv;obtain⟨av,_,ht,_⟩:=I.tuple hq.sq;simp only[aI,Zj,Zn];exact .bool_tuple a ht (by omega)
  |lst ys=>simp only[Rel]at r2;obtain⟨a',ws,rfl,hq,hr⟩:=r2;cases rv;obtain⟨av,_,ht,_⟩:=I.list hq.sq;simp only[aI,Zj,Zn];exact .bool_list a ht.isList (by omega)
  |_=>cases f2
 |.int a,d2,A,x,y,u,v,_,f2,r1,r2,ru,rv,hu=>by
  simp only[Rel]at r1;subst r1;obtain⟨t0,rfl⟩:=ru
  cases d2 with
  |aA=>simp only[Rel]at r2;subst r2;cases rv;simp only[aI,Zj,Zn];exact .int_none a t0
  |bl b=>simp only[Rel]at r2;subst r2;cases rv;simp only[aI,Zj,Zn];exact .int_bool a t0 b
  |int b=>simp only[Rel]at r2;subst r2;obtain⟨t,rfl⟩:=rv;simp only[aI,Zj,Zn];exact .int_int a t0 b t
  |str b=>simp only[Rel]at r2;subst r2;obtain⟨t,rfl⟩:=rv;simp only[aI,Zj,Zn];exact .int_str a t0 b t
  |tup ys=>simp only[Rel]at r2;obtain⟨a',ws,rfl,hq,hr⟩:=r2;cases rv;obtain⟨av,_,ht,_⟩:=I.tuple hq.sq;simp only[aI,Zj,Zn];exact .int_tuple a t0 ht (by omega)
  |lst ys=>simp only[Rel]at r2;obtain⟨a',ws,rfl,hq,hr⟩:=r2;cases rv;obtain⟨av,_,ht,_⟩:=I.list hq.sq;simp only[aI,Zj,Zn];exact .int_list a t0 ht.isList (by omega)
  |_=>cases f2
 |.str a,d2,A,x,y,u,v,_,f2,r1,r2,ru,rv,hu=>by
  simp only[Rel]at r1;subst r1;obtain⟨t0,rfl⟩:=ru
  cases d2 with
  |aA=>simp only[Rel]at r2;subst r2;cases rv;simp only[aI,Zj,Zn];exact .str_none a t0
  |bl b=>simp only[Rel]at r2;subst r2;cases rv;simp only[aI,Zj,Zn];exact .str_bool a t0 b
  |int b=>simp only[Rel]at r2;subst r2;obtain⟨t,rfl⟩:=rv;simp only[aI,Zj,Zn];exact .str_int a t0 b t
  |str b=>simp only[Rel]at r2;subst r2;obtain⟨t,rfl⟩:=rv;simp only[aI,Zj,Zn];exact .str_str a t0 b t
  |tup ys=>simp only[Rel]at r2;obtain⟨a',ws,rfl,hq,hr⟩:=r2;cases rv;obtain⟨av,_,ht,_⟩:=I.tuple hq.sq;simp only[aI,Zj,Zn];exact .str_tuple a t0 ht (by omega)
  |lst ys=>simp only[Rel]at r2;obtain⟨a',ws,rfl,hq,hr⟩:=r2;cases rv;obtain⟨av,_,ht,_⟩:=I.list hq.sq;simp only[aI,Zj,Zn];exact .str_list a t0 ht.isList (by omega)
  |_=>cases f2
 |.tup xs,d2,A,x,y,u,v,f1,f2,r1,r2,ru,rv,hu=>by
  simp only[Rel]at r1;obtain⟨a,vs,rfl,hq,hr⟩:=r1;cases ru
  obtain⟨av,bu,ht,_⟩:=I.tuple hq.sq
  simp only[dep]at hu
  cases d2 with
  |aA=>simp only[Rel]at r2;subst r2;cases rv;simp only[aI,Zj,Zn];exact .tuple_none ht (by omega)
  |bl b=>simp only[Rel]at r2;subst r2;cases rv;simp only[aI,Zj,Zn];exact .tuple_bool b ht (by omega)
  |int b=>simp only[Rel]at r2;subst r2;obtain⟨t,rfl⟩:=rv;simp only[aI,Zj,Zn];exact .tuple_int b t ht (by omega)
  |str b=>simp only[Rel]at r2;subst r2;obtain⟨t,rfl⟩:=rv;simp only[aI,Zj,Zn];exact .tuple_str b t ht (by omega)
  |tup ys =>
   simp only[Rel]at r2;obtain⟨a',ws,rfl,b4,d6⟩:=r2;cases rv
   obtain⟨its',eQ,gY,_⟩:=I.tuple b4.sq
   simp only[aI,jH]
   have l1:xs.length=av.toArray.size:=by rw[Y_,<- bu.length];exact hr.length
   have l2:ys.length=its'.toArray.size:=by rw[Y_,<- eQ.length];exact d6.length
   rw[l1,l2]
   refine .tuples ht gY (by omega) λj h1 h2=>?_
   have:=kJ I xs ys (A:=A.in1) f1 f2 hr d6 bu eQ (by rw[in1_units];omega) j (by simpa using h1) (by simpa using h2)
   simpa using this
  |lst ys =>
   simp only[Rel]at r2;obtain⟨a',ws,rfl,b4,d6⟩:=r2;cases rv
   obtain⟨its',eQ,gY,_⟩:=I.list b4.sq
   simp only[aI,Zj,Zn];exact .tuple_list ht gY.isList (by omega)
  |_=>cases f2
 |.lst xs,d2,A,x,y,u,v,f1,f2,r1,r2,ru,rv,hu=>by
  simp only[Rel]at r1;obtain⟨a,vs,rfl,hq,hr⟩:=r1;cases ru
  obtain⟨av,bu,ht,_⟩:=I.list hq.sq
  simp only[dep]at hu
  cases d2 with
  |aA=>simp only[Rel]at r2;subst r2;cases rv;simp only[aI,Zj,Zn];exact .list_none ht.isList (by omega)
  |bl b=>simp only[Rel]at r2;subst r2;cases rv;simp only[aI,Zj,Zn];exact .list_bool b ht.isList (by omega)
  |int b=>simp only[Rel]at r2;subst r2;obtain⟨t,rfl⟩:=rv;simp only[aI,Zj,Zn];exact .list_int b t ht.isList (by omega)
  |str b=>simp only[Rel]at r2;subst r2;obtain⟨t,rfl⟩:=rv;simp only[aI,Zj,Zn];exact .list_str b t ht.isList (by omega)
  |lst ys =>
   simp only[Rel]at r2;obtain⟨a',ws,rfl,b4,d6⟩:=r2;cases rv
   obtain⟨its',eQ,gY,_⟩:=I.list b4.sq
   simp only[aI,jH]
   have l1:xs.length=av.toArray.size:=by rw[Y_,<- bu.length];exact hr.length
   have l2:ys.length=its'.toArray.size:=by rw[Y_,<- eQ.length];exact d6.length
   rw[l1,l2]
   by_cases hs:av.toArray.size=its'.toArray.size
   . have e0:(av.toArray.size == its'.toArray.size)=true:=by simpa using hs
     rw[e0,adi,<- hs,Nat.min_self]
     refine .lists ht.isList gY.isList hs (by omega) λj h1 h2=>?_
     have:=kJ I xs ys (A:=A.in1) f1 f2 hr d6 bu eQ (by rw[in1_units];omega) j (by simpa using h1) (by simpa using h2)
     simpa using this
   . have e0:(av.toArray.size == its'.toArray.size)=false:=by simpa using hs
     rw[e0,af_,Zn]
     exact .lists_lengths ht.isList gY.isList (by simpa using hs) (by omega)
  |tup ys =>
   simp only[Rel]at r2;obtain⟨a',ws,rfl,b4,d6⟩:=r2;cases rv
   obtain⟨its',eQ,gY,_⟩:=I.tuple b4.sq
   simp only[aI,Zj,Zn];exact .list_tuple ht.isList gY (by omega)
  |_=>cases f2
 |.dw,d2,A,x,y,u,v,f1,_,_,_,_,_,_=>by cases f1
 |.ref _,d2,A,x,y,u,v,f1,_,_,_,_,_,_=>by cases f1
 |.aM _,d2,A,x,y,u,v,f1,_,_,_,_,_,_=>by cases f1
 |.fn _,d2,A,x,y,u,v,f1,_,_,_,_,_,_=>by cases f1
end
noncomputable def gZ (d1 d2:D)(g:G):Option (D×G):=if(flat d1&&flat d2&&decide (dep d1<=60))=true then some (.bl (!aI d1 d2),g)else none
theorem Ls (hu:X.A.units+64<cLine):bz X (ZF .NotEq) (cG X.kw gZ):=by
 intro pins s σ H x y v u Q I rx ry q
 obtain⟨ι,g,d1,d2,d,g',G0,r1,r2,q,p⟩:=q
 unfold gZ at q
 split at q
 . rename_i z
   simp only[Y3,decide_eq_true_eq]at z
   cases q
   exact AU I d1 d2 z.1.1 z.1.2 r1 r2 rx ry (by omega) _ _ _ _ ⟨.bl _,H,I,rfl,p H ι _ Ext.refl G0 (by simp[Rel])⟩
 . cases q
end
@[simp] theorem Vd {d1 d2:D}{g:G}:gZ d1 d2 g=if(flat d1&&flat d2&&decide (dep d1<=60))=true then some (.bl (!aI d1 d2),g)else none:=rfl
noncomputable def dh:List D->Option (List Int)
 | []=>some []
 |.int i::ds=>(dh ds).map (i :: ·)
 |_=>none
theorem y0 {d:D}{ds:List D}{ns:List Int}(h:dh (d::ds)=some ns):∃i ms,d = .int i/\ns=i::ms/\dh ds=some ms:=by
 cases d with
 |int i =>
  simp only[dh,Zq]at h
  obtain⟨ms,h1,rfl⟩:=h
  exact⟨i,ms,rfl,rfl,h1⟩
 |_=>simp[dh]at h
theorem fI {K H ι}:∀{xs:List D} {vs:List V} {us:List Value} {ns:List Int},dh xs=some ns->aj K H ι xs vs->Vals vs us->abu us ns
 | [],vs,us,ns,h,r,rv=>by simp only[aj]at r;subst r;cases rv;cases h;exact .nil
 |d::ds,vs,us,ns,h,r,rv=>by
  obtain⟨i,ms,rfl,rfl,h1⟩:=y0 h
  simp only[aj,Rel]at r
  obtain⟨v,vr,rfl,rfl,hr⟩:=r
  cases rv with
  |cons r0 rr =>
   obtain⟨t,rfl⟩:=r0
   exact .cons i t (fI h1 hr rr)
theorem g_:∀{us:List Value} {ns:List Int},abu us ns->∃xs:List (Int×Tok),us=xs.map (λp=>adS p.1 p.2)/\ns=xs.map (·.1)
 |_,_,.nil=>⟨[],rfl,rfl⟩
 |_,_,.cons n t h=>by
  obtain⟨xs,rfl,rfl⟩:=g_ h
  exact⟨(n,t)::xs,rfl,rfl⟩
section
variable {X:Cx}
noncomputable def y4 (ds:List D)(g:G):Option (D×G):=match ds with| [d]=>(dS d g).bind λxs=>(dh xs).map λns=>(.int ns.sum,g)|_=>none
theorem Lu (hh:X.A.handled=none):cA X (.builtin "sum") (ik X.kw y4):=by
 intro pins s σ H xs us Q I r q
 obtain⟨ι,g,ds,d,g',G0,r1,q,p⟩:=q
 cases ds with
 |nil=>cases q
 |cons e kK =>
 cases kK with
 |cons _ _=>cases q
 |nil =>
  simp only[y4]at q
  obtain⟨ys,hx,q⟩:=bind_some q
  obtain⟨ns,hn,q⟩:=Zq.mp q
  cases q
  simp only[aj]at r1
  obtain⟨v,_,rfl,rv,rfl⟩:=r1
  obtain⟨a,vs,rfl,hq,hr⟩:=gB G0 rv hx
  cases r with
  |cons ru rr =>
   cases rr
   cases ru
   obtain⟨av,bu,ht,_⟩:=I.list hq
   obtain⟨ps,rfl,rfl⟩:=g_ (fI hn hr bu)
   have hi:(ps.map (λp=>adS p.1 p.2)).toArray=ac3 ps.toArray:=by simp[ac3]
   have hl:=ht.isList
   rw[hi]at hl
   refine sum_intListG hh hl λh' tk t' hk=>?_
   rw[preSum_eq,abc (by simp)]
   exact⟨.int _,H,I.kept hk,⟨_,rfl⟩,p H ι _ Ext.refl G0 (by simp[Rel])⟩
theorem gG:∀{us:List Value} {ns:List Int},abu us ns->Vals (ns.map V.int) us
 |_,_,.nil=>.nil
 |_,_,.cons n t h=>.cons ⟨t,rfl⟩ (gG h)
theorem lx {K:KW}{H:Hp}{ι:Ix}:∀ns:List Int,aj K H ι (ns.map D.int) (ns.map V.int)
 | []=>by simp[aj]
 |n::ns=>by
  simp only[Zw,aj]
  exact⟨_,_,rfl,by simp[Rel],lx ns⟩
noncomputable def iC (ds:List D)(g:G):Option (D×G):=match ds with| [d]=>(dS d g).bind λxs=>(dh xs).bind λns=>if ns.length<64 then some (.lst ((PySem.W.sortI ns).map .int),g)else none|_=>none
theorem AV:cA X (.builtin "sorted") (ik X.kw iC):=by
 intro pins s σ H xs us Q I r q
 obtain⟨ι,g,ds,d,g',G0,r1,q,p⟩:=q
 cases ds with
 |nil=>cases q
 |cons e kK =>
 cases kK with
 |cons _ _=>cases q
 |nil =>
  simp only[iC]at q
  obtain⟨ys,hx,q⟩:=bind_some q
  obtain⟨ns,hn,q⟩:=bind_some q
  split at q
  . rename_i z
    cases q
    simp only[aj]at r1
    obtain⟨v,_,rfl,rv,rfl⟩:=r1
    obtain⟨a,vs,rfl,hq,hr⟩:=gB G0 rv hx
    cases r with
    |cons ru rr =>
     cases rr
     cases ru
     obtain⟨av,bu,ht,_⟩:=I.list hq
     have hA:=fI hn hr bu
     have hlen:av.length=ns.length:=by
      obtain⟨ps,rfl,rfl⟩:=g_ hA
      simp
     refine sorted_ints ht.isList hA (by omega) λout Wg hO hp hs=>?_
     have e:=PySem.W.eq_sortI hp hs
     subst e
     obtain⟨c,hc⟩:=sortedAll_at s.heap av out
     have dQ:=I.bJ.fresh (abL s.heap.objs.size)
     have wY:((PySem.W.sortI ns).map V.int).length<=Zl:=by
      rw[Zr,hp.length_eq];exact aaa (abv z) (by decide)
     refine⟨.ref (s.heap.objs.size+1),_,I.laid (t':=s.toks) (λb o e=>sortedAll_old e) (abL _) (show cW X.prog X.w _ _ _ (.lst ((PySem.W.sortI ns).map V.int)) from⟨wY,out.toList,c,gG hO,by simpa[aaB]using hc⟩),rfl,?_⟩
     refine p _ _ _ (Ext.lay dQ) (G0.lay dQ) ?_
     simp only[Rel]
     exact⟨_,_,rfl,.inl ⟨.inl bA,G0.fresh dQ,G0.jE dQ⟩,lx _⟩
  . cases q
end
section
variable {X:Cx}
noncomputable def O7 (i j k:Nat)(ta:TA):TS:=λD σ H=>ta σ H λvs H1=>∃v w z,vs = [v,w,z]/\D.nx (((σ.set i (some v)).set j (some w)).set k (some z)) H1
theorem HJ {i j k:Nat}{x y z:Str}{a b c:Expr}{ta:TA}{px py pz pt pos:Pos}{kt k2 gE}(hc:X.calm=true)(hN:X.N.Nodup)(hi:X.N[i]? = some x)(hj:X.N[j]? = some y)(hk:X.N[k]? = some z)(gF:i≠j)(Lv:i≠k)(Lw:j≠k)
  (hx:X.env.scope.names.lookup x=some .local) (hy:X.env.scope.names.lookup y=some .local) (hz:X.env.scope.names.lookup z=some .local) (ha:PA X [a,b,c] ta)
  (hw:aa2 [.Tuple [.Name x px,.Name y py,.Name z pz] kt pt] (.Tuple [a,b,c] k2 gE) X.env=pure (some [x,y,z]))
  (hs:abi [.Tuple [.Name x px,.Name y py,.Name z pz] kt pt] (.Tuple [a,b,c] k2 gE) pos.line X.env=pure false:=by rfl):
  PS X (.Assign [.Tuple [.Name x px,.Name y py,.Name z pz] kt pt] (.Tuple [a,b,c] k2 gE) pos) (O7 i j k ta):=by
 intro pins s σ H D I h
 rw[exec_Assign_arm]
 refine xv (ab7 ?_)
 rw[hs]
 refine xv (Y5 ?_)
 rw[if_neg (by decide)]
 refine xv (Tuple_ (aX (ha _ pins s σ H _ I h) λus s1 ⟨vs,H1,I1,r1,q1⟩=>?_))
 obtain⟨v,w,u,e1,q1⟩:=q1
 subst e1
 obtain⟨u1,u2,u3,rfl,rv,oV,ru⟩:∃u1 u2 u3,us = [u1,u2,u3]/\RelV v u1/\RelV w u2/\RelV u u3:=by
  cases r1 with
  |cons p q =>
   cases q with
   |cons p' q' =>
    cases q' with
    |cons Wh Wi =>
     cases Wi
     exact⟨_,_,_,rfl,p,p',Wh⟩
 refine ZL ?_ (by show 3<=Zl;decide)
 have I2:Inv X pins σ H1 { s1 with heap:=s1.heap.push { cls:=.type "tuple",data:=.seq [u1,u2,u3].toArray } }:=I1.kept (t':=s1.toks) λb o e=>Y6 _ e
 rw[hw]
 refine xv (Y5 ?_)
 show wpAny (model X.prog X.w) X.A (do rule "assign.swapped-stores";let items <- unpackItems (.ref s1.heap.objs.size) 3 none;acv [λv=>abZ X.env z v,λv=>abZ X.env y v,λv=>abZ X.env x v] items.reverse;pure aeO) _ _ _
 refine xv (aaL (xv (unpackItems_tuple (items:=#[u1,u2,u3]) (I.ok.hd hc) (IsTup.new s1.heap _) λh' oW=>?_)))
 have I3:=I2.kept (h':=h') (t':=s1.toks) λb o e=>oW b o (Zk (Zf e)) e
 show wpAny _ _ (acv [λv=>abZ X.env z v,λv=>abZ X.env y v,λv=>abZ X.env x v] [u3,u2,u1] >>= λ_=>pure aeO) _ _ _
 refine xv (abd (acn (gz I3 hN hk (.inl hz) ru (λs2 I4=>?_) (.inr hz))))
 refine abd (acn (gz I4 hN hj (.inl hy) oV (λs3 I5=>?_) (.inr hy)))
 refine abd (acn (gz I5 hN hi (.inl hx) rv (λs4 I6=>adn (Y5 ?_)) (.inr hx)))
 rw[adh _ _ (aa0 gF),adh _ _ (aa0 Lv),adh _ _ (aa0 Lw)]at I6
 exact⟨_,H1,I6,q1⟩
noncomputable def pM (i j k:Nat)(fr:FA):FS:=λσ g=>(fr σ g).bind λr=>match r.1 with
 | [a,b,c]=>some (.nx,((σ.set i (some a)).set j (some b)).set k (some c),r.2)
 |_=>none
theorem HK {i j k:Nat}{x y z:Str}{a b c:Expr}{fr:FA}{px py pz pt pos:Pos}{kt k2 gE}(hc:X.calm=true)(hN:X.N.Nodup)(hi:X.N[i]? = some x)(hj:X.N[j]? = some y)(hk:X.N[k]? = some z)(gF:i≠j)(Lv:i≠k)(Lw:j≠k)
  (hx:X.env.scope.names.lookup x=some .local) (hy:X.env.scope.names.lookup y=some .local) (hz:X.env.scope.names.lookup z=some .local) (ha:DA X [a,b,c] fr)
  (hw:aa2 [.Tuple [.Name x px,.Name y py,.Name z pz] kt pt] (.Tuple [a,b,c] k2 gE) X.env=pure (some [x,y,z]))
  (hs:abi [.Tuple [.Name x px,.Name y py,.Name z pz] kt pt] (.Tuple [a,b,c] k2 gE) pos.line X.env=pure false:=by rfl):
  DS X (.Assign [.Tuple [.Name x px,.Name y py,.Name z pz] kt pt] (.Tuple [a,b,c] k2 gE) pos) (pM i j k fr):=.of (
 PS.imp (HJ hc hN hi hj hk gF Lv Lw hx hy hz ha.un hw hs) λDn σ H h=>by
  obtain⟨ι,σd,g,r,b5,g',G0,S0,h,p⟩:=h
  obtain⟨⟨ds,g1⟩,h1,h⟩:=bind_some h
  refine ij.bind G0 S0 h1 λH1 ι1 vs e1 G1 S1 r1=>?_
  dsimp only at h
  split at h
  . rename_i a b c
    cases h
    simp only[aj]at r1
    obtain⟨v,vr,rfl,ra,u,ur,rfl,rb,t,tr,rfl,rc,rfl⟩:=r1
    exact⟨v,u,t,rfl,p H1 ι1 e1 G1 _ (((S1.set ra i).set rb j).set rc k)⟩
  . cases h)
end
section
variable {σ:Sg}{g:G}{fr:FA}
@[simp] theorem So {i j k:Nat}:pM i j k fr σ g=(fr σ g).bind λr=>match r.1 with
 | [a,b,c]=>some (.nx,((σ.set i (some a)).set j (some b)).set k (some c),r.2)
 |_=>none:=rfl
@[simp] theorem Ve {d:D}:y4 [d] g=(dS d g).bind λxs=>(dh xs).map λns=>(.int ns.sum,g):=rfl
@[simp] theorem O8 {d:D}:iC [d] g=(dS d g).bind λxs=>(dh xs).bind λns=>if ns.length<64 then some (.lst ((PySem.W.sortI ns).map .int),g)else none:=rfl
end
theorem wG {prog:ZC}{w:World}{A:Zz}{E:Value->Y4->Prop}{s:Y4}{l:Addr}{xs:Array (Int×Tok)}{Q:Value->Y4->Prop}(hh:A.handled=none)(hl:s.heap.IsTuple l (ac3 xs))
   (h:∀h' tk t',(∀b o,s.heap.get? b=some o->h'.get? b=some o)->Q (.int (preSum (numAt xs) xs.size) t') { s with heap:=h',toks:=tk }):
   wpAny (model prog w) A (call (.builtin "sum") [.ref l]) Q E s:=by
 have bD:l<s.heap.objs.size:=by obtain⟨_,e,_⟩:=hl;exact Zf e
 have jI:l≠s.heap.objs.size:=Zk bD
 refine call_sum_walkG (abG hl ?_)
 refine⟨_,[s.heap.objs.size,l],[s.heap.objs.size],_,_,_,numAt xs,rfl,Walks.tuple (A:=A.in1) hh _ l jI (ac3 xs),⟨⟨_,Zg _ rfl,rfl,rfl⟩,hl.push _⟩,λb hb=>?_,(λ_ _=>intItems_at),λh' tk t' hk=>?_⟩
 . show b<(s.heap.push _).objs.size
   rw[aaS]
   rcases Zd.mp hb with rfl|hb
   . exact ab1 _
   . rcases Zd.mp hb with rfl|hb
     . exact ZW bD
     . cases hb
 . have:=h h' tk t' λb o e=>by
     refine hk b o (λhm=>?_) (Y6 _ e)
     rcases Zd.mp hm with e1|hm
     . exact absurd (e1 ▸ Zf e) (aaz _)
     . cases hm
   simpa[ac3]using this
section
variable {X:Cx}
noncomputable def ly (ds:List D)(g:G):Option (D×G):=match ds with
 | [.tup xs]=>(dh xs).map λns=>(.int ns.sum,g)
 |ds=>y4 ds g
theorem HL (hh:X.A.handled=none):cA X (.builtin "sum") (ik X.kw ly):=by
 intro pins s σ H xs us Q I r q
 obtain⟨ι,g,ds,d,g',G0,r1,q,p⟩:=q
 unfold ly at q
 split at q
 . rename_i ys
   obtain⟨ns,hn,q⟩:=Zq.mp q
   cases q
   simp only[aj,Rel]at r1
   obtain⟨v,_,rfl,⟨a,vs,rfl,hq,hr⟩,rfl⟩:=r1
   cases r with
   |cons ru rr =>
    cases rr
    cases ru
    obtain⟨av,bu,ht,_⟩:=I.tuple hq.sq
    obtain⟨ps,rfl,rfl⟩:=g_ (fI hn hr bu)
    have hi:(ps.map (λp=>adS p.1 p.2)).toArray=ac3 ps.toArray:=by simp[ac3]
    rw[hi]at ht
    refine wG hh ht λh' tk t' hk=>?_
    rw[preSum_eq,abc (by simp)]
    exact⟨.int _,H,I.kept hk,⟨_,rfl⟩,p H ι _ Ext.refl G0 (by simp[Rel])⟩
 . exact Lu hh pins s σ H xs us Q I r ⟨ι,g,_,d,g',G0,r1,q,p⟩
end
@[simp] theorem O9 {xs:List D}{g:G}:ly [.tup xs] g=(dh xs).map λns=>(.int ns.sum,g):=rfl
@[simp] theorem O_ {xs:List D}{g:G}:ly [.lst xs] g=(dh xs).map λns=>(.int ns.sum,g):=rfl
end L3
namespace L3
open PySem PySem.Spec PyProof.Rows L2 HT
section
variable {prog:ZC}{w:World}{A:Zz}{E:Value->Y4->Prop}{s:Y4}
theorem lZ {t sl:Addr}{items:Array Value}{vl vu:Value}{lo hi:Option Int}{Q:Value->Y4->Prop}(ht:IsTup s.heap t items)(hs:s.heap.IsSliceOf sl vl vu .none)(pl:abx vl lo)(pu:abx vu hi)
  (hw:bG items.size 0 lo=0/\bG items.size items.size hi=items.size)
  (h:Q (.ref t) s):wpAny (model prog w) A (aco (.ref t) (.ref sl)) Q E s:=by
 obtain⟨os,uk,wW,o_⟩:=id hs
 have J3:s.TypeIs (.ref sl) "slice":=⟨os,uk,wW⟩
 unfold aco
 try with_reducible refine ZI ?_
 first|refine xv (Y5 ?_)|skip
 refine xv (abO ht.typeIs (by decide) ?_)
 refine xv (Z_ (name:=Zy "__getitem__") ht.typeIs ZG
  (ZN ZG ht.typeIs acY ?_ (ac8 _ _)))
 show wpAny _ _ (abk (.ref t) >>= _) _ _ s
 refine xv (aeA ht ?_)
 refine xv (aci J3 ?_)
 rw[if_pos (by decide)]
 refine xv (jB hs pl pu ?_)
 have Sq:((((bG items.size 0 lo:Nat):Int)== 0&&(1:Int)== 1&&(bG items.size items.size hi-bG items.size 0 lo)== items.size)=true):=by
  rw[hw.1,hw.2];simp
 show wpAny _ _ (if(((bG items.size 0 lo:Nat):Int)== 0&&(1:Int)== 1&&(bG items.size items.size hi-bG items.size 0 lo)== items.size)=true then _ else _) _ _ s
 rw[if_pos Sq]
 unfold Builtin.Tuple.tupleIsExact
 refine xv (xv (aci ht.typeIs (Y5 ?_)))
 rw[if_pos (by decide)]
 refine xv (aaL (Y5 ⟨_,rfl,Y5 h⟩))
end
section
variable {X:Cx}
noncomputable def Sr (K:KW):V->Option Int->Option Int->Hp->VK->Prop:=λx lo hi H Q=>∃a xs,x = .ref a/\dP K H a xs/\(HT.bG xs.length 0 lo=0/\HT.bG xs.length xs.length hi=xs.length)/\Q (.ref a) H
theorem C7:nT X (Sr X.kw):=by
 intro pins s σ H x v vl vu lo hi sl Q I rx hs pl pu h
 obtain⟨a,xs,rfl,hx,hw,q⟩:=h
 cases rx
 obtain⟨av,r,ht,hz⟩:=I.tuple hx
 have hlen:av.toArray.size=xs.length:=by rw[Y_];exact r.length.symm
 refine⟨"tuple",_,ZG.lookup,ht.typeIs,?_⟩
 exact lZ ht hs pl pu (by rw[hlen];exact hw) ⟨.ref a,H,I,rfl,q⟩
noncomputable def gC (d:D)(lo hi:Option Int)(g:G):Option (D×G):=match d with
 |.tup xs=>some (.tup (cutD xs lo hi),g)
 |d=>pK d lo hi g
theorem AW {xs:List D}{lo hi:Option Int}(h:gh xs.length lo hi=true):cutD xs lo hi=xs:=by
 unfold gh at h
 rw[Y3,decide_eq_true_eq,decide_eq_true_eq]at h
 unfold cutD
 rw[h.1,h.2]
 simp
noncomputable def dX (fa:FE)(fl fh:FO):FE:=λσ g=>(fa σ g).bind λr=>(fl σ r.2).bind λl=>(fh σ l.2).bind λh=>gC r.1 l.1 h.1 h.2
theorem AX {a:Expr}{lo hi:Option Expr}{fa:FE}{fl fh:FO}{p2 pos:Pos}(ha:DE X a fa)(hl:DO X lo fl)(hh:DO X hi fh):DE X (.Subscript a (.Slice lo hi none p2) pos) (dX fa fl fh):=.of (
 PE.imp (Cw (nT.or HC C7) ha.un hl.un hh.un) λσ H Q h=>by
  obtain⟨ι,σd,g,d,g',G0,S0,h,p⟩:=h
  obtain⟨⟨d1,g1⟩,h1,h⟩:=bind_some h
  obtain⟨⟨l,g2⟩,h2,h⟩:=bind_some h
  obtain⟨⟨u,g3⟩,h3,h⟩:=bind_some h
  refine tD.bind G0 S0 h1 λH1 ι1 v e1 G1 S1 r1=>?_
  refine⟨ι1,σd,g1,l,g2,G1,S1,h2,λH2 ι2 e2 G2=>?_⟩
  refine⟨ι2,σd,g2,u,g3,G2,S1.ext e2,h3,λH3 ι3 e3 G3=>?_⟩
  have r3:=Rel.ext (e2.trans e3) _ r1
  have p3:=p.mono (e1.trans (e2.trans e3))
  have lst:∀{xs:List D} {a:Addr} {vs:List V},v = .ref a->dq X.kw H3 a vs->aj X.kw H3 ι3 xs vs->some (D.lst (cutD xs l u),g3)=some (d,g')->Lk X.kw v l u H3 Q:=fun {xs a vs} ev hq hr hh=>by
   cases hh
   refine .inr ⟨a,vs,ev,hq,λq b4=>p3 _ _ _ (Ext.lay b4) (G3.lay b4) ?_⟩
   simp only[Rel]
   exact⟨q,_,rfl,.inl ⟨.inl bA,G3.fresh b4,G3.jE b4⟩,aj.ext (Ext.lay b4) _ (hr.Lj l u)⟩
  dsimp only at h
  cases d1 with
  |tup xs =>
   simp only[gC]at h
   cases h
   have r4:=r3
   simp only[Rel]at r3
   obtain⟨a,vs,rfl,hq,hr⟩:=r3
   by_cases z:gh xs.length l u=true
   . refine .inr ⟨a,vs,rfl,hq.sq,?_,p3 _ _ _ Ext.refl G3 ?_⟩
     . unfold gh at z
       rw[hr.length,Y3,decide_eq_true_eq,decide_eq_true_eq]at z;exact z
     . rw[AW z];exact r4
   . refine .inl (.inl ⟨a,vs,rfl,hq.sq,λc=>z ?_,λq b4=>p3 _ _ _ (Ext.lay b4) (G3.lay b4) ?_⟩)
     . unfold gh
       rw[hr.length,Y3,decide_eq_true_eq,decide_eq_true_eq];exact c
     . simp only[Rel]
       exact⟨q,_,rfl,.inl ⟨.inl bA,G3.fresh b4⟩,aj.ext (Ext.lay b4) _ (hr.Lj l u)⟩
  |lst xs =>
   simp only[gC,pK]at h
   simp only[Rel]at r3
   obtain⟨a,vs,e0,hq,hr⟩:=r3
   exact .inl (lst e0 hq.sq hr h)
  |ref n =>
   simp only[gC,pK]at h
   split at h
   . rename_i xs hx
     simp only[Rel]at r3
     obtain⟨a,e0,ha⟩:=r3
     obtain⟨vs,hv,hr⟩:=G3.at hx ha
     exact .inl (lst e0 (.of hv) hr h)
   . cases h
  |_=>cases h)
end
@[simp] theorem Vf {fa:FE}{fl fh:FO}{σ:Sg}{g:G}:dX fa fl fh σ g=(fa σ g).bind λr=>(fl σ r.2).bind λl=>(fh σ l.2).bind λh=>gC r.1 l.1 h.1 h.2:=rfl
theorem hG {d:D}{lo hi:Option Int}{g g':G}{xs:List D}(h:pK (.tup xs) lo hi g=some (d,g')):gC (.tup xs) lo hi g=some (d,g'):=by
 simp only[pK]at h
 split at h
 . cases h
 . exact h
end L3
namespace L3
open PySem PySem.Spec PyProof.Rows L2
mutual
noncomputable def nd:D->Nat
 |.tup xs=>Qm xs+1
 |_=>1
noncomputable def Qm:List D->Nat
 | []=>0
 |d::ds=>nd d+Qm ds
end
section
variable {X:Cx}
noncomputable def eR (ds:List D)(g:G):Option (D×G):=match ds with| [d]=>(dS d g).bind λxs=>(bools xs).map λbs=>(.bl (bs.any id),g)|_=>none
theorem HM (hc:X.calm=true):cA X (.builtin "any") (ik X.kw eR):=by
 intro pins s σ H xs us Q I r q
 obtain⟨ι,g,ds,d,g',G0,r1,q,p⟩:=q
 cases ds with
 |nil=>cases q
 |cons e kK =>
 cases kK with
 |cons _ _=>cases q
 |nil =>
  simp only[eR]at q
  obtain⟨ys,hx,q⟩:=bind_some q
  cases hb:bools ys with
  |none=>rw[hb]at q;cases q
  |some bs =>
   rw[hb]at q;cases q
   simp only[aj]at r1
   obtain⟨v,_,rfl,rv,rfl⟩:=r1
   obtain⟨a,vs,rfl,hq,hr⟩:=gB G0 rv hx
   obtain⟨u,rfl,ru⟩:=vals1 r
   cases ru
   obtain⟨av,bu,pl,hz⟩:=I.list hq
   have e0:=mC hb hr bu
   subst e0
   have hl:=pl.isList
   have bD:a<s.heap.objs.size:=by obtain⟨_,e,_⟩:=hl;exact Zf e
   refine call_any_walk (ado hl ?_)
   refine⟨s.heap.objs.size,[s.heap.objs.size,a],[s.heap.objs.size],_,_,_,λi=>(bs[i]?).getD false,rfl,Walks.list (A:=X.A.in1) (I.ok.hd hc) _ a (Zk bD) _,
     ⟨⟨_,Zg _ rfl,rfl,rfl⟩,hl.push _⟩,λi v s' Q' E' hP hQ=>?_,λh' tk hk=>?_⟩
   . have mD:(bs.map aa9)[i]? = some v:=by simpa using hP
     rw[ZS]at mD
     cases e:bs[i]? with
     |none=>rw[e]at mD;cases mD
     |some b =>
      rw[e]at mD;cases mD
      dsimp only at hQ
      rw[e]at hQ
      exact ZU hQ
   . have e:((Y9 (bs.map aa9).toArray.size).any λi=>(bs[i]?).getD false)=bs.any id:=by
      rw[Y_,Zr];exact yT bs
     rw[e]
     exact⟨.bl _,H,I.kept (pJ hk),rfl,p H ι _ Ext.refl G0 (by simp[Rel])⟩
end
section
variable {X:Cx}
noncomputable def Pa (K:KW):V->List V->Hp->VK->Prop:=λx vs H Q=>∃a xs y j,x = .ref a/\dq K H a (xs.map toV)/\vs = [toV y]/\fD y=true/\xs.all fD=true/\lu xs y=some j/\Q (.int j) H
theorem AY:PX X "list.index" (Pa X.kw):=by
 intro pins s σ H x vs v us Q I rx rv h
 obtain⟨a,xs,y,j,rfl,hq,rfl,hy,hx,hj,q⟩:=h
 cases rx
 obtain⟨u,rfl,ru⟩:=rv.one
 obtain⟨av,bu,pl,hz⟩:=I.list hq
 obtain⟨⟨cls,dd,data,sl⟩,n,hg,h2,h3,h4⟩:=id pl
 simp only at h2 h3 h4
 subst h2 h3 h4
 have fy:jk (toV y)=true:=(nA hy (qK (K:=X.kw) (H:=H) (ι:=⟨[],[],λ_=>0⟩) hy)).2
 have fx:(xs.map toV).all jk=true:=(oF hx (uQ (K:=X.kw) (H:=H) (ι:=⟨[],[],λ_=>0⟩) hx)).2
 unfold lu at hj
 rw[acu]at hj
 obtain⟨bD,hit,J4⟩:=hj
 have hlen:(xs.map toV).length=av.length:=bu.length
 rw[Zr]at hlen
 have hsz:j<av.toArray.size:=by rw[Y_];omega
 have item:∀m (hm:m<xs.length) (mH:m<av.toArray.size),Eu (toV y) av.toArray[m]=aI xs[m] y:=λm hm mH=>by
  obtain⟨u',e',r'⟩:=bu.get (i:=m) (x:=toV xs[m]) (by rw[ZS,Y8 hm];rfl)
  have uS:m<av.length:=by simpa using mH
  rw[Y8 uS]at e'
  cases e'
  have fm:fD xs[m]=true:=Zi.mp hx _ (aaf hm)
  rw[List.getElem_toArray,Ah r' (nA fm (qK (K:=X.kw) (H:=H) (ι:=⟨[],[],λ_=>0⟩) fm)).2,O1 fm hy]
 have Le:av.length<=Zl:=by
  have:=bu.length
  first|omega| (simp only[Zr]at *;omega)
 have Qn:Zl<2 ^ 62:=by decide
 refine ab0 F.slot_list_index ⟨_,hg,rfl⟩ F.entry_list_index (F.args_list_index_2 _ _) (SeqAt.list_indexAt a av.toArray n none sl u (Eu (toV y)) j hsz (by rw[Y_]at hsz;omega) (by rw[item j bD hsz];exact hit) (λm hm Wj=>by
  have uS:m<xs.length:=by omega
  rw[item m uS hm]
  simpa using J4 m Wj)) ⟨hg,λz hz=>uo ru fy bu fx z (by simpa using hz),?_⟩
 exact⟨.int j,H,I.tok _,⟨_,rfl⟩,q⟩
end
noncomputable def unlike (ns:List Int):Nat:=(abr (λi=>ns.getD i 0) ns.length).length
section
variable {X:Cx}
theorem Lx:bz X (ZT .LShift) (cG X.kw (aR cM (λi j=>i*2 ^ j.toNat))):=gX JS λi j h=>by
 unfold cM at h
 simp only[Y3]at h
 have h2:=Z5 h.2
 cases j with
 |ofNat n =>
  have h1:=Z5 (show abE n 1000000=true from h.1)
  exact⟨aeU n,(by show((n:Nat):Int)<=1000000;omega),(by omega)⟩
 |negSucc n=>exact absurd h.1 (by simp)
theorem Ly:bz X (ZT .BitAnd) (cG X.kw (aR bp ZJ)):=gX (bz.imp JT λ_ _ _ _=>nt) λ_ _ _=>trivial
theorem Pb:bz X (ZT .BitOr) (cG X.kw (aR bp abC)):=gX (bz.imp Ow λ_ _ _ _=>nt) λ_ _ _=>trivial
end
end L3
namespace TL
open PySem PySem.Spec PySem.SeqAt PyProof.Rows
open AutoSeq1 (wpAny_loadPart')
open MeetsSeq MeetsSeq2 MeetsSeq3 SeqRoads2
noncomputable def lz (A:Zz)(s:Y4)(y x:Value)(b:Bool):Prop :=
 ∀(prog:ZC) (w:World) (E:Value->Y4->Prop) (Q:Value->Y4->Prop),Q (.bool b) s->wpAny (model prog w) A (richCompare .Lt y x) Q E s
inductive Lex (A:Zz)(s:Y4)(fin:Bool):List (Value×Value)->Bool->Prop
 |nil:Lex A s fin [] fin
 |eq {p q r k}:EqAt A s p q true->Lex A s fin r k->Lex A s fin ((p,q)::r) k
 |ne {p q r k}:EqAt A s p q false->lz A s p q k->Lex A s fin ((p,q)::r) k
theorem y6 (l b:Addr)(items fH:Array Value)(n n2:Nat)(dd ml:Option Addr)(sl lR:Array (Option Value))(k:Bool):
  Meets (abt.«tuple.__lt__» ⟨[.ref l,.ref b],[]⟩)
   (λA R s=>s.heap.get? l=some { cls:=.type "tuple",dict:=dd,data:=.seq items n,slots:=sl }/\s.heap.get? b=some { cls:=.type "tuple",dict:=ml,data:=.seq fH n2,slots:=lR } /\
    Lex A.in1 s (decide (items.size<fH.size)) (items.toList.zip fH.toList) k/\R (.ok (.ret (.bool k))) s):=
 .of_wp λprog w A R s h=>by
  obtain⟨hp,g,d,tk,os⟩:=s;obtain⟨hl,hb,he,h⟩:=h
  have f2:=aaY
  wp_walk using wpAny_loadPart' hl,wpAny_loadPart' hb,ab2 _ (λrest b s'=>b.1=none/\s'=⟨hp,g,d,tk,os⟩/\Lex A.in1 ⟨hp,g,d,tk,os⟩ (decide (items.size<fH.size)) rest k) _
  case turn =>
   rintro⟨y,x⟩ rest b s' ⟨eE,rfl,hz⟩
   cases hz with
   |eq e1 e2 =>
    refine xv (e1 prog w _ _ ?_)
    wp_walk
    exact⟨rfl,rfl,e2⟩
   |ne e1 e2 =>
    refine xv (e1 prog w _ _ ?_)
    simp only[Zn,if_true]
    refine xv (aaL ?_)
    refine xv (e2 prog w _ _ ?_)
    wp_walk
    exact⟨_,rfl,h⟩
  case fin =>
   rintro⟨b1,b2⟩ s' ⟨eE,rfl,hz⟩
   simp only at eE
   subst eE
   cases hz
   wp_walk
   exact⟨_,rfl,by simpa[Builtin.Tuple.tupleCompareSizes]using h⟩
  case h =>
   exact⟨rfl,rfl,he⟩
section
variable {A:Zz}{s:Y4}
theorem lz.tuples {l b:Addr}{items fH:Array Value}{k:Bool}(hl:s.heap.IsTuple l items)(hb:s.heap.IsTuple b fH)(hu:A.units<cLine)
  (he:Lex A.in1 s (decide (items.size<fH.size)) (items.toList.zip fH.toList) k):lz A s (.ref l) (.ref b) k:=λprog w E Q h=>by
 obtain⟨⟨cls,dd,data,sl⟩,ho,hc,n,hd⟩:=id hl
 obtain⟨⟨Cu,ml,data2,lR⟩,f_,jA,n2,hd2⟩:=id hb
 simp only at hc hd jA hd2
 subst hc hd jA hd2
 exact richCompare_meets_room (op:=.Lt) ⟨_,ho,rfl⟩ ⟨_,f_,rfl⟩ F.slot_tuple_lt F.entry_tuple_lt (F.args_tuple_lt_2 _ _) (y6 l b items fH n n2 dd ml sl lR k)
  ⟨ho,f_,he,show aa9 k≠aeq/\Q (.bool k) s from⟨(λx=>nomatch x),h⟩⟩ hu
theorem lz.ints (a b:Int)(t u:Tok):lz A s (.int a t) (.int b u) (decide (a<b)):=λprog w E Q h =>
 adZ (op:=.Lt) (adv s a t) (adv s b u) slot_int_lt (call_int_lt ⟨(λx=>nomatch x),h⟩)
theorem lz.strs (a b:Str)(t u:Tok):lz A s (.str a t) (.str b u) (decide (a.cps.toList<b.cps.toList)):=λprog w E Q h =>
 adZ (op:=.Lt) (aep s a t) (aep s b u) slot_str_lt (call_str_lt ⟨(λx=>nomatch x),h⟩)
end
open PySem.W
section
variable {prog:ZC}{w:World}{A:Zz}{E:Value->Y4->Prop}{s:Y4}
noncomputable def dE (h:Heap)(a:Addr)(vs:List Value):Heap:=((h.update a (aaW λ_=>#[])).push (aaB "tuple" vs.toArray 0)).push (aaB "list" #[] 0)
theorem wH {h:Heap}{a b:Addr}{vs:List Value}{o:Obj}(hb:b≠a)(ho:h.get? b=some o):(dE h a vs).get? b=some o:=by
 unfold dE
 have bD:=Zf ho
 rw[aa1 _ _ _ (by rw[size_push',abA];exact Zk (ZW bD)),aa1 _ _ _ (by rw[abA];exact Zk bD),aeF _ _ _ _ hb]
 exact ho
end
end TL
namespace L3
open PySem PySem.Spec PyProof.Rows L2
section
variable {X:Cx}{pins:List (Addr×Obj)}{σ:L2.St}{H:Hp}{s:Y4}{ι:Ix}
noncomputable def tt:D->Bool
 |.tup (.tup _::_)=>true
 |_=>false
end
noncomputable def eG (nn L:Nat)(t:FG)(c:FT)(e:FE):Nat->Sg->G->Option (List D×G)
 | 0,_,g=>(g[nn]?).bind λxs=>if xs.length=L then some ([],g)else none
 |r+1,σ,g=>(g[nn]?).bind λxs=>if xs.length=L then(xs[L-(r+1)]?).bind λd=>(t d σ g).bind λq=>(c q.1 q.2).bind λk=>if k.1=true then(e q.1 k.2).bind λr'=>(eG nn L t c e r q.1 r'.2).bind λz=>some (r'.1::z.1,z.2)else eG nn L t c e r q.1 k.2 else none
noncomputable abbrev fS:=Sg->G->Option (Nat×Nat×G)
noncomputable def y7 (K:KW)(J:It)(H:Hp)(ι:Ix)(nn L:Nat):Prop :=
 ∀(i:Nat) H1 ι1 g1,il H ι H1 ι1->az K H1 ι1 g1->∀xs,g1[nn]? = some xs->xs.length=L->(L<=i->J.stop i H1) /\ ∀d,xs[i]? = some d->J.go i H1 /\ ∀x H2,J.ub i H1 x H2->Ext H1 ι1 H2 ι1/\az K H2 ι1 g1/\Rel K H2 ι1 d x
inductive Lz (K:KW)(f:fS)(σ:L2.St)(H:Hp)(R:(It->Hp->Prop)):Prop
 |mk (ι:Ix) (σd:Sg) (g:G) (nn:Nat) (L:Nat) (g':G) (h0:az K H ι g) (h1:bR K H ι σd σ) (h2:f σd g=some (nn,L,g')) (h3:∀H' ι' J,Ext H ι H' ι'->az K H' ι' g'->y7 K J H' ι' nn L->R J H'):Lz K f σ H R
structure ES (X:Cx)(tg iter:Expr)(f:fS):Prop where of ::
 un:PI X tg iter (Lz X.kw f)
noncomputable def mI (f:FE):fS:=λσ g=>(f σ g).bind λr=>match r.1 with|.ref n=>(r.2[n]?).bind λxs=>some (n,xs.length,r.2)|_=>none
theorem y7.ref {K H ι a n L}(h:dZ ι n a false):y7 K (Et K a) H ι n L:=λi H1 ι1 g1 e1 G1 xs hx hl=>by
 obtain⟨vs,hv,hr⟩:=G1.at hx (e1.at h)
 have hq:dq K H1 a vs:=.inl (.inl hv)
 refine⟨λh=>⟨vs,hq,by rw[<- hr.length];omega⟩,λd hd=>?_⟩
 obtain⟨v,EM,rv⟩:=hr.get hd
 refine⟨⟨vs,v,hq,EM⟩,λx H2 y=>?_⟩
 obtain⟨rfl,y⟩:=y
 have:=y vs hq
 rw[EM]at this;cases this
 exact⟨Ext.refl,G1,rv⟩
theorem xn {X:Cx}{tg l:Expr}{fe:FE}(hl:DE X l fe):ES X tg l (mI fe):=.of (PI.imp (wR hl.un) λσ H Q h=>by
 obtain⟨ι,σd,g,nn,L,g',G0,S0,h,p⟩:=h
 obtain⟨⟨d1,g1⟩,h1,h⟩:=bind_some h
 cases d1 with
 |ref n =>
  obtain⟨xs,hx,h⟩:=bind_some h
  cases h
  refine tD.bind G0 S0 h1 λH1 ι1 v e1 G1 S1 r1=>?_
  simp only[Rel]at r1
  obtain⟨a,rfl,ha⟩:=r1
  obtain⟨vs,hv,hr⟩:=G1.at hx ha
  exact⟨a,rfl,⟨vs,.inl (.inl hv)⟩,p H1 ι1 _ e1 G1 (.ref ha)⟩
 |_=>cases h)
noncomputable def fJ (mk:List D->G->Option (D×G))(fi:fS)(fr:List (Option Nat))(t:FG)(c:FT)(e:FE):FE:=λσ g=>(fi σ g).bind λr=>if aG r.2.1=true then(eG r.1 r.2.1 t c e r.2.1 (bL fr σ) r.2.2).bind λq=>mk q.1 q.2 else none
noncomputable def LA (fi:fS):nY:=λσ g=>(fi σ g).map λr=>(λg=>g[r.1]?,r.2.1,r.2.2)
theorem xo {X:Cx}{tg iter:Expr}{fi:fS}(h:ES X tg iter fi):uH X tg iter (LA fi):=.of (PI.imp h.un λσ H Q q=>by
 obtain⟨ι,σd,g,sh,L,g',G0,S0,h2,p⟩:=q
 obtain⟨⟨nn,L1,g1⟩,h1,e⟩:=Zq.mp h2
 cases e
 exact⟨ι,σd,g,nn,L1,g1,G0,S0,h1,λH' ι' J e1 G1 J1=>p H' ι' J e1 G1 J1⟩)
theorem uT {nn L:Nat}{t:FG}{c:FT}{e:FE}:∀(k:Nat) (σ:Sg) (g:G),eG nn L t c e k σ g=cR (λg=>g[nn]?) L t c e k σ g
 | 0,σ,g=>by simp only[eG,cR]
 |k+1,σ,g=>by simp only[eG,cR,uT k]
theorem uU {mk:List D->G->Option (D×G)}{fi:fS}{fr:List (Option Nat)}{t:FG}{c:FT}{e:FE}:fJ mk fi fr t c e=iS mk (LA fi) fr t c e:=by
 funext σ g
 unfold fJ iS LA
 cases fi σ g with
 |none=>rfl
 |some r=>simp only[Zb,ZP,uT]
section
variable {X:Cx}{tg iter elt:Expr}{ifs:List Expr}{scope:Scope}{pos fU:Pos}{N:List Str}{fr:List (Option Nat)}{fi:fS}{t:FG}{c:FT}{e:FE}
theorem C8 (je:X.xe=λ_ _=>False)(hc:X.calm=true)(ok:fF X N fr scope)(hit:ES X tg iter fi)(df:∀C s3 H fp pins,DG (bP X N scope C s3 H fp pins) tg t/\iA (bP X N scope C s3 H fp pins) ifs c/\DE (bP X N scope C s3 H fp pins) elt e)
  (hs:∀x,ZV iter X.env x=pure x:=by intro _;rfl):DE X (.ListComp elt [⟨tg,iter,ifs,0⟩] scope pos) (fJ aY fi fr t c e):=by
 rw[uU];exact oC je hc ok (xo hit) df hs
theorem uV {i:Nat}{x:Str}{px my:Pos}(je:X.xe=λ_ _=>False)(hc:X.calm=true)(ok:fF X N fr scope)(hit:ES X tg iter fi)(df:∀C s3 H fp pins,DG (bP X N scope C s3 H fp pins) tg t/\iA (bP X N scope C s3 H fp pins) ifs c/\DE (bP X N scope C s3 H fp pins) elt e)
  (hN:X.N.Nodup) (hi:X.N[i]? = some x) (hx:Loc X.env.scope x) (pC:abY (.ListComp elt [⟨tg,iter,ifs,0⟩] scope pos) (some (.Name x px)) my.line X.env=pure true:=by rfl)
  (hs:∀x,ZV iter X.env x=pure x:=by intro _;rfl) (hf:X.fn x=true\/X.env.scope.names.lookup x=some .local:=by first|exact .inl rfl|exact .inr rfl|assumption):
  DS X (.Assign [.Name x px] (.ListComp elt [⟨tg,iter,ifs,0⟩] scope pos) my) (aC (fJ aY fi fr t c e) (gN i)):=
 by rw[uU];exact mx (λe' _ G' hD r hn h4 p=>oB e' G' hD r hn h4 p) je hc ok (xo hit) df hN hi hx pC hs hf
end
section
variable {σ:Sg}{g:G}{fa:FE}
@[simp] theorem HN:mI fa σ g=(fa σ g).bind λr=>match r.1 with|.ref n=>(r.2[n]?).bind λxs=>some (n,xs.length,r.2)|_=>none:=rfl
@[simp] theorem AZ {mk:List D->G->Option (D×G)}{fi:fS}{fr:List (Option Nat)}{t:FG}{c:FT}:fJ mk fi fr t c fa σ g=(fi σ g).bind λr=>if aG r.2.1=true then(eG r.1 r.2.1 t c fa r.2.1 (bL fr σ) r.2.2).bind λq=>mk q.1 q.2 else none:=rfl
end
theorem mJ {t:FG}{c:FT}{e:FE}{nn:Nat}{g:G}{xs:List D}(hx:g[nn]? = some xs):∀(k:Nat) (σ:Sg) (r:List D),k<=xs.length->(∀σ d q,t d σ g=some q->q.2=g)->(∀σ q,c σ g=some q->q.2=g)->(∀σ q,e σ g=some q->q.2=g)->bZ t c e (xs.drop (xs.length-k)) σ g=some (r,g)->eG nn xs.length t c e k σ g=some (r,g)
 | 0,σ,r,_,_,_,_,h=>by
  simp only[Nat.sub_zero,List.drop_length,bZ]at h
  cases h
  simp[eG,hx]
 |k+1,σ,r,hk,ht,hc,he,h=>by
  have bD:xs.length-(k+1)<xs.length:=by omega
  rw[aaE bD,show xs.length-(k+1)+1=xs.length-k by omega]at h
  simp only[bZ]at h
  obtain⟨q,h1,h⟩:=bind_some h
  obtain⟨b,h2,h⟩:=bind_some h
  obtain⟨q1,q2⟩:=q
  obtain⟨b1,b2⟩:=b
  have:=ht _ _ _ h1
  dsimp only at this;subst this
  have:=hc _ _ h2
  dsimp only at this;subst this
  simp only[eG,hx,Zb,Y8 bD,h1,h2,if_true]
  cases b1 with
  |false =>
   simp only[Zh,if_false]at h ⊢
   exact mJ hx k q1 r (by omega) ht hc he h
  |true =>
   simp only[if_true]at h ⊢
   obtain⟨⟨d3,g3⟩,h3,h⟩:=bind_some h
   have:=he _ _ h3
   dsimp only at this;subst this
   obtain⟨⟨z1,z2⟩,h4,h⟩:=bind_some h
   cases h
   rw[h3]
   simp only[Zb]
   rw[mJ hx k q1 z1 (by omega) ht hc he h4]
   rfl
noncomputable def ck:FE:=λ_ _=>none
theorem bY {X:Cx}{e:Expr}:DE X e ck:=.of (λpins s σ H Q I h=>by
 obtain⟨ι,σd,g,d,g',G0,S0,h,p⟩:=h
 cases h)
@[simp] theorem Ss {σ:Sg}{g:G}:ck σ g=none:=rfl
end L3
namespace L3
open PySem PySem.Spec PyProof.Rows L2
open Sem (wp)
open Builtin
end L3
namespace L3
open PySem PySem.Spec PyProof.Rows L2
end L3
namespace DK
open PySem PySem.Spec PyProof.Rows L2 L3 SeqAt
noncomputable def fQ (s:Y4)(m:Nat)(u:Value):Prop:=∀(prog:ZC) (w:World) (A:Zz) (E:Value->Y4->Prop) (Q:Bool->Y4->Prop),Q true s->wpAny (model prog w) A (adV m u) Q E s
structure ET (A:Zz)(s:Y4)(key:Value)(h:Int)(es:Array ZE)(t:Nat->Bool):Prop where
 eq:∀i e,es[i]? = some e->e.hash=h->EqAt A s e.key key (t i)
 hs:∀i e,es[i]? = some e->t i=true->e.hash=h
 qk:fQ s 8 key
 qe:∀e∈es,fQ s 8 e.key
 rf:∀e∈es,e.key=key->e.hash=h
 un:∀i j,i<es.size->j<es.size->t i=true->t j=true->i=j
 st:∀x tk,key = .str x tk->∀i e,es[i]? = some e->isExactStrKey e.key=true->e.key.isStr x=t i
section
variable {prog:ZC}{w:World}{A:Zz}{E:Value->Y4->Prop}{s:Y4}{d:Addr}{o:Obj}{es:Array ZE}{ep:Nat}{key:Value}{h:Int}{t:Nat->Bool}{Q:Option Nat->Y4->Prop}
theorem oH {stored:List Value}{Q:Bool->Y4->Prop}(hk:fQ s 8 key)(cU:∀v∈stored,fQ s 8 v)(q:Q false s):wpAny (model prog w) A (tableMayTell key stored) Q E s:=by
 unfold tableMayTell
 split
 . exact Y5 q
 refine xv (hk prog w _ _ _ ?_)
 simp only[Zj,Zh,if_false]
 refine xv (ab2 _ (λrest r z=>z=s/\r=(none,()) /\ ∀v∈rest,fQ s 8 v) _ ?_ ?_ _ _ ⟨rfl,rfl,cU⟩)
 . rintro x rest r z ⟨rfl,rfl,hr⟩
   refine xv (hr x Zp prog w _ _ _ ?_)
   simp only[Zj,Zh,if_false]
   exact Y5 ⟨rfl,rfl,λv hv=>hr v (Zs _ hv)⟩
 . rintro r z ⟨rfl,rfl,_⟩
   exact Y5 q
theorem lA {i:Nat}:i∈aad es.size (λi=>es[i]?.map (·.hash)) h ↔ ∃e,es[i]? = some e/\e.hash=h:=by
 unfold aad
 simp only[Zt,Zm,beq_iff_eq,Zq]
 constructor
 . rintro⟨_,e,a,b⟩;exact⟨e,a,b⟩
 . rintro⟨e,a,b⟩;exact⟨(abl.mp a).1,e,a,b⟩
theorem uW:(aad es.size (λi=>es[i]?.map (·.hash)) h).Nodup:=by
 unfold aad
 exact acA.sublist List.filter_sublist
theorem qO (ho:s.heap.get? d=some o)(hd:o.data = .dict es ep)(K:ET A s key h es t)(hn:(∀i,i<es.size->t i=false)->Q none s)(hy:∀i,i<es.size->t i=true->Q (some i) s):
  wpAny (model prog w) A (dictFind d key h) Q E s:=by
 have none_of:(∀i∈aad es.size (λi=>es[i]?.map (·.hash)) h,t i=false)->Q none s:=λz=>hn λi hi=>by
  cases ht:t i with
  |false=>rfl
  |true =>
    have e1:=ace hi
    rw[z i (lA.mpr ⟨_,e1,K.hs i _ e1 ht⟩)]at ht;cases ht
 have gen:∀tells:Bool,tells=false->wpAny (model prog w) A (do
    let mut hit:Option Nat:=none
    for i in aad es.size (λi=>es[i]?.map (·.hash)) h do
      if let some e:=es[i]? then
        if e.hash == h then
          let before <- dictEpoch d (keyPart key)
          let same <- eqBool e.key key
          if(<- dictEpoch d (keyPart key)) != before then unsupported "dict.changed-during-lookup"
          if same then
            if hit.isSome then unsupported "dict.find:order-among-keys-of-one-hash"
            rule "dict.find.hit"
            if((aad es.size (λi=>es[i]?.map (·.hash)) h).filterMap λi=>es[i]?.map (·.key)).length<2 then return some i
            hit:=some i
          else
            rule "dict.find.same-hash-other-key"
            if tells && !(0<=h&&h<32)then unsupported "dict.find:asked-again-or-not-hangs-on-the-table"
    return hit) Q E s:=λtells Wk=>by
  subst Wk
  refine xv (ab2 _ (λrest (b:Option (Option Nat)×Option Nat) z=>z=s /\ ∃done,aad es.size (λi=>es[i]?.map (·.hash)) h=done++rest/\b.1=none /\
    ((b.2=none /\ ∀i∈done,t i=false) \/ ∃i,b.2=some i/\i∈done/\i<es.size/\t i=true)) _ ?_ ?_ _ _ ⟨rfl,[],rfl,rfl,.inl ⟨rfl,λi z=>by simp at z⟩⟩)
  . rintro x rest ⟨b1,hit⟩ z ⟨rfl,done,hp,rfl,hb⟩
    have hx:x∈aad es.size (λi=>es[i]?.map (·.hash)) h:=by rw[hp];simp
    obtain⟨e,he,hh⟩:=lA.mp hx
    have bD:x<es.size:=(abl.mp he).1
    have lW:aad es.size (λi=>es[i]?.map (·.hash)) h=(done ++ [x])++rest:=by rw[hp];simp
    rw[he]
    dsimp only at hb ⊢
    rw[if_pos (by simpa using hh)]
    refine xv (aaJ ho hd (xv (K.eq x e he hh prog w _ _ (xv (aaJ ho hd ?_)))))
    rw[if_neg (by simp)]
    cases ht:t x with
    |true =>
      have h0:hit=none:=by
        rcases hb with⟨h0,_⟩|⟨i,_,hi,jF,uR⟩
        . exact h0
        . have:=K.un i x jF bD uR ht
          subst this
          have nd:=uW (es:=es) (h:=h)
          rw[hp,aaq]at nd
          exact absurd rfl (nd.2.2 i hi i Zp)
      subst h0
      simp only[if_true,Option.isSome_none,Zh,if_false]
      try refine xv (Y5 ?_)
      refine xv (aaL ?_)
      split
      . exact Y5 (Y5 (hy x bD ht))
      . exact Y5 ⟨rfl,done ++ [x],lW,rfl,.inr ⟨x,rfl,by simp,bD,ht⟩⟩
    |false =>
      simp only[Zh,if_false,ad6]
      refine xv (aaL ?_)
      refine Y5 ⟨rfl,done ++ [x],lW,rfl,?_⟩
      rcases hb with⟨h0,hz⟩|⟨i,h1,hi,jF,uR⟩
      . exact .inl ⟨h0,λi hi=>by
          rcases Ze.mp hi with hi|hi
          . exact hz i hi
          . simp at hi;subst hi;exact ht⟩
      . exact .inr ⟨i,h1,Ze.mpr (.inl hi),jF,uR⟩
  . rintro⟨b1,hit⟩ z ⟨rfl,done,hp,rfl,hb⟩
    dsimp only at hb ⊢
    refine Y5 ?_
    rcases hb with⟨rfl,hz⟩|⟨i,rfl,_,jF,uR⟩
    . exact none_of (by rw[hp];simpa using hz)
    . exact hy i jF uR
 have plain:wpAny (model prog w) A (dictWalkPlain d key h es (aad es.size (λi=>es[i]?.map (·.hash)) h)) Q E s:=by
  unfold dictWalkPlain
  refine xv (ab2 _ (λrest b z=>z=s /\ ∃done,aad es.size (λi=>es[i]?.map (·.hash)) h=done++rest/\b=(none,()) /\ ∀i∈done,t i=false) _ ?_ ?_ _ _ ⟨rfl,[],rfl,rfl,λi z=>by simp at z⟩)
  . rintro x rest b z ⟨rfl,done,hp,rfl,hb⟩
    have hx:x∈aad es.size (λi=>es[i]?.map (·.hash)) h:=by rw[hp];simp
    obtain⟨e,he,hh⟩:=lA.mp hx
    have bD:x<es.size:=(abl.mp he).1
    rw[he]
    dsimp only
    rw[if_pos (by simpa using hh)]
    refine xv (aaJ ho hd (xv (K.eq x e he hh prog w _ _ (xv (aaJ ho hd ?_)))))
    rw[if_neg (by simp)]
    cases ht:t x with
    |true =>
      simp only[if_true]
      refine xv (aaL ?_)
      exact Y5 (Y5 (hy x bD ht))
    |false =>
      simp only[Zh,if_false]
      refine xv (aaL ?_)
      refine Y5 ⟨rfl,done ++ [x],by rw[hp];simp,rfl,λi hi=>?_⟩
      rcases Ze.mp hi with hi|hi
      . exact hb i hi
      . simp at hi;subst hi;exact ht
  . rintro b z ⟨rfl,done,hp,rfl,hb⟩
    exact Y5 (none_of (by rw[hp];simpa using hb))
 have keys:∀v∈(aad es.size (λi=>es[i]?.map (·.hash)) h).filterMap (λi=>es[i]?.map (·.key)),fQ s 8 v:=λv hv=>by
  obtain⟨i,_,hi⟩:=abH.mp hv
  obtain⟨e,he,rfl⟩:=Zq.mp hi
  exact K.qe e (acE he)
 unfold dictFind
 refine ZI ?_
 refine xv (abo ho hd ?_)
 cases key with
 |str x tk =>
  refine Z6 (λlh=>?_) (λ_=>?_)
  . unfold foundByValue
    have ft:∀i e,es[i]? = some e->e.key.isStr x=t i:=λi e he=>K.st x tk rfl i e he (Array.all_eq_true_iff_forall_mem.mp lh e (acE he))
    cases hf:es.findIdx? (·.key.isStr x)with
    |none =>
      refine Y5 (hn λi hi=>?_)
      rw[<- ft i _ (ace hi)]
      simpa using (Array.findIdx?_eq_none_iff.mp hf) es[i] (Array.getElem_mem hi)
    |some i =>
      obtain⟨hi,h1,_⟩:=Array.findIdx?_eq_some_iff_getElem.mp hf
      have e1:=ace hi
      rw[ft i _ e1]at h1
      dsimp only
      rw[e1]
      refine xv (aaJ ho hd (xv (K.eq i _ e1 (K.hs i _ e1 h1) prog w _ _ (xv (aaJ ho hd ?_)))))
      refine Z6 (λz=>by simp at z) (λ_=>?_)
      rw[h1]
      exact xv (aaL (Y5 (hy i hi h1)))
  . refine Z6 (λ_=>plain) (λ_=>?_)
    refine Z6 (λ_=>xv (Y5 ?_)) (λ_=>xv (oH K.qk keys ?_))<;>
      exact Z6 (λz=>by simp at z) (λ_=>gen false rfl)
 |ref a =>
  refine Z6 (λz=>by simp[carriedByValue]at z) (λ_=>?_)
  refine Z6 (λz=>?_) (λ_=>?_)
  . rw[<- Array.any_toList,aaN]at z
    obtain⟨e,he,hc⟩:=z
    simp only[Y3,beq_iff_eq,bne_iff_ne,ne_eq]at hc
    exact absurd (K.rf e (aer.mp he) hc.1) hc.2
  . refine Z6 (λ_=>xv (Y5 ?_)) (λ_=>xv (oH K.qk keys ?_))<;>
      exact Z6 (λz=>by simp at z) (λ_=>gen false rfl)
 |_ =>
  refine Z6 (λ_=>plain) (λ_=>?_)
  refine Z6 (λ_=>xv (Y5 ?_)) (λ_=>xv (oH K.qk keys ?_))<;>
    exact Z6 (λz=>by simp at z) (λ_=>gen false rfl)
end
section
variable {X:Cx}{pins:List (Addr×Obj)}{σ:L2.St}{H:Hp}{ι:Ix}{prog:ZC}{E:Value->Y4->Prop}
mutual
theorem pN:∀(d:D) {n:Nat} {s:Y4} {A:Zz} {x:V} {u:Value} {Q:Int->Y4->Prop},Inv X pins σ H s->bC n d=true->Rel X.kw H ι d x->RelV x u->A.units+n<cLine ->
  (∀tk,Q (hD X.w d) { s with toks:=tk })->wpAny (model prog X.w) A (pyHash u) Q E s
 |.aA,n,s,A,x,u,Q,I,k,r,ru,hu,q=>by
  simp only[Rel]at r;subst r;cases ru
  simp only[hD]at q
  exact PySem.W.pyHash_slot (T:="NoneType") rfl F.slot_NoneType_hash F.entry_NoneType_hash (F.args_NoneType_hash_1 _) (adI _) (.inr (by omega)) (xv (Y5 (xv (wpAny_mkInt (Y5 ⟨_,_,rfl,q _⟩)))))
 |.int i,n,s,A,x,u,Q,I,k,r,ru,hu,q=>by
  simp only[Rel]at r;subst r;obtain⟨t,rfl⟩:=ru
  simp only[hD]at q
  exact wpAny_pyHash_int (q _)
 |.str y,n,s,A,x,u,Q,I,k,r,ru,hu,q=>by
  simp only[Rel]at r;subst r;obtain⟨t,rfl⟩:=ru
  simp only[hD]at q
  exact wpAny_pyHash_str (q _)
 |.tup xs,n+1,s,A,x,u,Q,I,k,r,ru,hu,q=>by
  simp only[Rel]at r
  obtain⟨a,vs,rfl,hq,hr⟩:=r
  cases ru
  obtain⟨av,bu,⟨o,h1,h2,m,h3⟩,_⟩:=I.tuple hq.sq
  simp only[hD]at q
  simp only[bC]at k
  refine PySem.W.pyHash_slot (T:="tuple") ⟨o,h1,h2⟩ F.slot_tuple_hash F.entry_tuple_hash (F.args_tuple_hash_1 _) (adI _) (.inr (by omega)) ?_
  show wpAny _ _ (abk (.ref a) >>= _) _ _ s
  refine xv (wpAny_tupleItemsOf h1 h3 (xv ?_))
  rw[<- aeV]
  refine xp xs (acc:=#[]) I k hr bu (by rw[in1_units];omega) λtk b hb=>?_
  show wpAny _ _ (retInt (adw b.toList)) _ _ _
  rw[hb]
  exact xv (wpAny_mkInt (Y5 ⟨_,_,rfl,q _⟩))
 |.tup xs,0,s,A,x,u,Q,I,k,r,ru,hu,q=>by simp[bC]at k
 |.bl _,n,s,A,x,u,Q,I,k,r,ru,hu,q=>by simp[bC]at k
 |.lst _,n,s,A,x,u,Q,I,k,r,ru,hu,q=>by simp[bC]at k
 |.dw,n,s,A,x,u,Q,I,k,r,ru,hu,q=>by simp[bC]at k
 |.ref _,n,s,A,x,u,Q,I,k,r,ru,hu,q=>by simp[bC]at k
 |.aM _,n,s,A,x,u,Q,I,k,r,ru,hu,q=>by simp[bC]at k
 |.fn _,n,s,A,x,u,Q,I,k,r,ru,hu,q=>by simp[bC]at k
theorem xp:∀(ds:List D) {n:Nat} {s:Y4} {A:Zz} {vs:List V} {us:List Value} {acc:Array Int} {Q:Array Int->Y4->Prop},Inv X pins σ H s->fq n ds=true->aj X.kw H ι ds vs->Vals vs us->A.units+n<cLine ->
  (∀tk b,b.toList=acc.toList++Am X.w ds->Q b { s with toks:=tk }) ->
  wpAny (model prog X.w) A (forIn us acc λx r=>do let h <- pyHash x;pure aes;pure (aaX (r.push h))) Q E s
 | [],n,s,A,vs,us,acc,Q,I,k,r,ru,hu,q=>by
  simp only[aj]at r;subst r;cases ru
  exact Y5 (q s.toks acc (by simp[Am]))
 |d::ds,n,s,A,vs,us,acc,Q,I,k,r,ru,hu,q=>by
  simp only[aj]at r
  obtain⟨v,vr,rfl,hv,hr⟩:=r
  simp only[fq,Y3]at k
  cases ru with
  |cons r0 rr =>
   rw[acN]
   refine xv (xv (pN d I k.1 hv r0 hu λtk=>xv (Y5 (Y5 ?_))))
   exact xp ds (I.tok tk) k.2 hr rr hu λLB b hb=>q LB b (by simp[hb,Am])
end
mutual
theorem qP:∀(d:D) {n m:Nat} {s:Y4} {x:V} {u:Value},Inv X pins σ H s->bC n d=true->n<=m->Rel X.kw H ι d x->RelV x u->fQ s m u
 |.aA,n,m,s,x,u,I,k,hm,r,ru=>by
  simp only[Rel]at r;subst r;cases ru
  intro prog w A E Q q;unfold adV;exact Y5 q
 |.int i,n,m,s,x,u,I,k,hm,r,ru=>by
  simp only[Rel]at r;subst r;obtain⟨t,rfl⟩:=ru
  intro prog w A E Q q;unfold adV;exact Y5 q
 |.str y,n,m,s,x,u,I,k,hm,r,ru=>by
  simp only[Rel]at r;subst r;obtain⟨t,rfl⟩:=ru
  intro prog w A E Q q;unfold adV;exact Y5 q
 |.tup xs,n+1,m,s,x,u,I,k,hm,r,ru=>by
  simp only[Rel]at r
  obtain⟨a,vs,rfl,hq,hr⟩:=r
  cases ru
  obtain⟨av,bu,⟨o,h1,h2,z,h3⟩,_⟩:=I.tuple hq.sq
  simp only[bC]at k
  intro prog w A E Q q
  have hT:s.TypeIs (.ref a) "tuple":=⟨o,h1,h2⟩
  obtain⟨m,rfl⟩:∃j,m=j+1:=⟨m-1,by omega⟩
  unfold adV
  refine xv (acQ hT F.slot_tuple_eq.lookup ?_)
  show wpAny _ _ (isInstance (.ref a) (.type "tuple") >>= _) _ _ s
  refine xv (adJ hT isSubtype_tuple_tuple ?_)
  simp only[Zj,Zh,if_false]
  refine xv (aeb h1 h3 (xv ?_))
  show wpAny _ _ (forIn av.toArray _ _) _ _ s
  rw[<- aeV]
  have Wl:=uX xs (m:=m) I k (by omega) hr bu
  refine ab2 _ (λrest r s'=>r.1=none/\s'=s /\ ∀v∈rest,fQ s m v) _ ?_ ?_ _ _ ⟨rfl,rfl,Wl⟩
  . rintro v rest r s' ⟨hr,rfl,lh⟩
    refine xv (lh v Zp prog w _ _ _ ?_)
    simp only[Zj,Zh,if_false]
    exact Y5 ⟨rfl,rfl,λu Wm=>lh u (Zs _ Wm)⟩
  . rintro⟨r1,r2⟩ s' ⟨hr,rfl,_⟩
    simp only at hr
    subst hr
    exact Y5 q
 |.tup xs,0,m,s,x,u,I,k,hm,r,ru=>by simp[bC]at k
 |.bl _,n,m,s,x,u,I,k,hm,r,ru=>by simp[bC]at k
 |.lst _,n,m,s,x,u,I,k,hm,r,ru=>by simp[bC]at k
 |.dw,n,m,s,x,u,I,k,hm,r,ru=>by simp[bC]at k
 |.ref _,n,m,s,x,u,I,k,hm,r,ru=>by simp[bC]at k
 |.aM _,n,m,s,x,u,I,k,hm,r,ru=>by simp[bC]at k
 |.fn _,n,m,s,x,u,I,k,hm,r,ru=>by simp[bC]at k
theorem uX:∀(ds:List D) {n m:Nat} {s:Y4} {vs:List V} {us:List Value},Inv X pins σ H s->fq n ds=true->n<=m->aj X.kw H ι ds vs->Vals vs us->∀v∈us,fQ s m v
 | [],n,m,s,vs,us,I,k,hm,r,ru=>by
  simp only[aj]at r;subst r;cases ru
  intro v hv;simp at hv
 |d::ds,n,m,s,vs,us,I,k,hm,r,ru=>by
  simp only[aj]at r
  obtain⟨v,vr,rfl,hv,hr⟩:=r
  simp only[fq,Y3]at k
  cases ru with
  |cons r0 rr =>
   intro z hz
   rcases Zd.mp hz with rfl|hz
   . exact qP d I k.1 hm hv r0
   . exact uX ds I k.2 hm hr rr z hz
end
end
mutual
theorem jJ:∀(d:D) {n:Nat},bC n d=true->flat d=true/\dep d<=n
 |.aA,n,h=>⟨rfl,ZM _⟩
 |.int _,n,h=>⟨rfl,ZM _⟩
 |.str _,n,h=>⟨rfl,ZM _⟩
 |.tup xs,n+1,h=>by
  simp only[bC]at h
  obtain⟨a,b⟩:=sD xs h
  exact⟨a,by simp only[dep];omega⟩
 |.tup xs,0,h=>by simp[bC]at h
 |.bl _,n,h=>by simp[bC]at h
 |.lst _,n,h=>by simp[bC]at h
 |.dw,n,h=>by simp[bC]at h
 |.ref _,n,h=>by simp[bC]at h
 |.aM _,n,h=>by simp[bC]at h
 |.fn _,n,h=>by simp[bC]at h
theorem sD:∀(ds:List D) {n:Nat},fq n ds=true->aU ds=true/\bX ds<=n
 | [],n,h=>⟨rfl,ZM _⟩
 |d::ds,n,h=>by
  simp only[fq,Y3]at h
  obtain⟨a,b⟩:=jJ d h.1
  obtain⟨a',b'⟩:=sD ds h.2
  exact⟨by simp[aU,a,a'],by simp only[bX];omega⟩
end
mutual
theorem jK:∀(d e:D) {n m:Nat},bC n d=true->bC m e=true->(aI d e=true ↔ d=e)
 |.aA,e,n,m,h,k=>by cases e<;>simp_all[bC,aI]
 |.int _,e,n,m,h,k=>by cases e<;>simp_all[bC,aI]
 |.str _,e,n,m,h,k=>by cases e<;>simp_all[bC,aI]
 |.tup xs,e,n+1,m,h,k=>by
  cases e with
  |tup ys =>
   cases m with
   |zero=>simp[bC]at k
   |succ m =>
    simp only[bC]at h k
    simp only[aI,D.tup.injEq]
    exact xq xs ys h k
  |_=>simp_all[bC,aI]
 |.tup xs,e,0,m,h,k=>by simp[bC]at h
 |.bl _,e,n,m,h,k=>by simp[bC]at h
 |.lst _,e,n,m,h,k=>by simp[bC]at h
 |.dw,e,n,m,h,k=>by simp[bC]at h
 |.ref _,e,n,m,h,k=>by simp[bC]at h
 |.aM _,e,n,m,h,k=>by simp[bC]at h
 |.fn _,e,n,m,h,k=>by simp[bC]at h
theorem xq:∀(ds es:List D) {n m:Nat},fq n ds=true->fq m es=true->(c_ ds es=true ↔ ds=es)
 | [],es,n,m,h,k=>by cases es<;>simp[c_]
 |d::ds,[],n,m,h,k=>by simp[c_]
 |d::ds,e::es,n,m,h,k=>by
  simp only[fq,Y3]at h k
  simp only[c_,Y3,adW,jK d e h.1 k.1,xq ds es h.2 k.2]
end
end DK
namespace L3
noncomputable def bf:List D->D->Option D
 |k::v::r,key=>if aI k key=true then some v else bf r key
 |_,_=>none
noncomputable def cf:List D->D->D->List D
 |k::v::r,key,val=>if aI k key=true then k::val::r else k::v::cf r key val
 |_,key,val=>[key,val]
noncomputable def tq:List D->D->Nat->Bool
 |k::_::_,key,0=>aI k key
 |_::_::r,key,i+1=>tq r key i
 |_,_,_=>false
end L3
namespace DK
open PySem PySem.Spec PyProof.Rows L2 L3 SeqAt
inductive Ent (K:KW)(H:Hp)(ι:Ix):List D->List ZE->Prop
 |nil:Ent K H ι [] []
 |cons {k v:D} {kv vv:V} {r:List D} {e:ZE} {es:List ZE}:bC 6 k=true->e.hash=hD K.w k->Rel K H ι k kv->RelV kv e.key->Rel K H ι v vv->RelV vv e.val->Ent K H ι r es->Ent K H ι (k::v::r) (e::es)
theorem Ent.of {K H ι}:∀{es:List ZE} {xs:List D} {vs:List V},Vals vs (jl es)->jC K.w xs es->aj K H ι xs vs->Ent K H ι xs es
 | [],xs,vs,rv,h,r=>by cases h;exact .nil
 |e::es,xs,vs,rv,h,r=>by
  cases h with
  |cons h1 h2 h3 =>
   simp only[aj]at r
   obtain⟨a,ar,rfl,ha,b,br,rfl,hb,hr⟩:=r
   cases rv with
   |cons r1 rv=>cases rv with
    |cons r2 rv=>exact .cons h1 h2 ha r1 hb r2 (Ent.of rv h3 hr)
theorem Ent.out {K H ι}:∀{es:List ZE} {xs:List D},Ent K H ι xs es->jC K.w xs es /\ ∃vs,Vals vs (jl es)/\aj K H ι xs vs
 | [],xs,h=>by cases h;exact⟨.nil,[],.nil,by simp[aj]⟩
 |e::es,xs,h=>by
  cases h with
  | @cons k v kv vv r _ _ h1 h2 h3 h4 h5 h6 h7 =>
   obtain⟨a,vs,b,c⟩:=h7.out
   refine⟨.cons h1 h2 a,kv::vv::vs,.cons h4 (.cons h6 b),?_⟩
   simp only[aj]
   exact⟨kv,_,rfl,h3,vv,_,rfl,h5,c⟩
theorem Ent.at {K H ι}:∀{es:List ZE} {xs:List D} {i:Nat} {e:ZE},Ent K H ι xs es->es[i]? = some e->∃k kv,bC 6 k=true/\(aS xs)[i]? = some k/\e.hash=hD K.w k/\Rel K H ι k kv/\RelV kv e.key /\ ∀key,tq xs key i=aI k key
 | [],xs,i,e,h,q=>by simp at q
 |e0::es,xs,i,e,h,q=>by
  cases h with
  |cons h1 h2 h3 h4 h5 h6 h7 =>
   cases i with
   |zero=>simp at q;subst q;exact⟨_,_,h1,rfl,h2,h3,h4,λ_=>rfl⟩
   |succ i =>
    obtain⟨k,kv,a,b,c,d,e',f⟩:=h7.at (i:=i) (by simpa using q)
    exact⟨k,kv,a,by simpa[aS]using b,c,d,e',λkey=>f key⟩
theorem Ent.len {K H ι}:∀{es:List ZE} {xs:List D},Ent K H ι xs es->(aS xs).length=es.length
 | [],xs,h=>by cases h;rfl
 |e::es,xs,h=>by
  cases h with
  |cons h1 h2 h3 h4 h5 h6 h7=>simp[aS,h7.len]
theorem Ent.none_ {K H ι}:∀{es:List ZE} {xs:List D} {key:D},Ent K H ι xs es->(∀i,i<es.length->tq xs key i=false)->bf xs key=none /\ ∀v,cf xs key v=xs ++ [key,v]
 | [],xs,key,h,q=>by cases h;exact⟨rfl,λ_=>rfl⟩
 |e::es,xs,key,h,q=>by
  cases h with
  |cons h1 h2 h3 h4 h5 h6 h7 =>
   have q0:=q 0 (by simp)
   simp only[tq]at q0
   obtain⟨a,b⟩:=h7.none_ (key:=key) λi hi=>by have:=q (i+1) (by simpa using hi);simpa[tq]using this
   exact⟨by simp[bf,q0,a],λv=>by simp[cf,q0,b]⟩
theorem Ent.tH {K H ι}{key:D}:∀{es:List ZE} {xs:List D} {i:Nat},Ent K H ι xs es->i<es.length->tq xs key i=true->(∀j,j<es.length->tq xs key j=true->j=i) ->
  ∃e v vv,es[i]? = some e/\bf xs key=some v/\Rel K H ι v vv/\RelV vv e.val/\aS (cf xs key v)=aS xs /\
   ∀(w:D) (wv:V) (u:Value),Rel K H ι w wv->RelV wv u->Ent K H ι (cf xs key w) (es.modify i λe=>{ e with val:=u })/\aS (cf xs key w)=aS xs
 | [],xs,i,h,hi,q,un=>by simp at hi
 |e0::es,xs,i,h,hi,q,un=>by
  cases h with
  | @cons k v kv vv r _ _ h1 h2 h3 h4 h5 h6 h7 =>
   cases i with
   |zero =>
    simp only[tq]at q
    refine⟨e0,v,vv,rfl,by simp[bf,q],h5,h6,by simp[cf,q,aS],λw wv u rw_ ru=>⟨?_,by simp[cf,q,aS]⟩⟩
    simp only[cf,q,if_true,List.modify_zero_cons]
    exact .cons h1 h2 h3 h4 rw_ ru h7
   |succ i =>
    have q0:aI k key=false:=by
     cases hk:aI k key with
     |false=>rfl
     |true=>exact absurd (un 0 (by simp) (by simpa[tq]using hk)) (by omega)
    obtain⟨e,v',Wn,a,b,c,d,f,g⟩:=h7.tH (i:=i) (by simpa using hi) (by simpa[tq]using q) λj hj z=>by
     have:=un (j+1) (by simpa using hj) (by simpa[tq]using z)
     omega
    refine⟨e,v',Wn,by simpa using a,by simp[bf,q0,b],c,d,by simp[cf,q0,aS,f],λw wv u rw_ ru=>?_⟩
    obtain⟨g1,g2⟩:=g w wv u rw_ ru
    simp only[cf,q0,Zh,if_false,List.modify_succ_cons]
    exact⟨.cons h1 h2 h3 h4 h5 h6 g1,by simp[aS,g2]⟩
theorem Ent.push {K H ι}{k v:D}{kv vv:V}{e:ZE}(h1:bC 6 k=true)(h2:e.hash=hD K.w k)(h3:Rel K H ι k kv)(h4:RelV kv e.key)(h5:Rel K H ι v vv)(h6:RelV vv e.val):
  ∀{es:List ZE} {xs:List D},Ent K H ι xs es->Ent K H ι (xs ++ [k,v]) (es ++ [e])/\aS (xs ++ [k,v])=aS xs ++ [k]
 | [],xs,h=>by cases h;exact⟨.cons h1 h2 h3 h4 h5 h6 .nil,rfl⟩
 |e0::es,xs,h=>by
  cases h with
  |cons a1 a2 a3 a4 a5 a6 a7 =>
   obtain⟨b1,b2⟩:=Ent.push h1 h2 h3 h4 h5 h6 a7
   exact⟨.cons a1 a2 a3 a4 a5 a6 b1,by simp[aS,b2]⟩
section
variable {X:Cx}{pins:List (Addr×Obj)}{σ:L2.St}{H:Hp}{ι:Ix}{s:Y4}
theorem pO (I:Inv X pins σ H s){A:Zz}{d e:D}{x y:V}{u v:Value}(fd:flat d=true)(fe:flat e=true)(rd:Rel X.kw H ι d x)(re:Rel X.kw H ι e y)(ru:RelV x u)(rv:RelV y v)(hu:A.units+dep d<cLine):EqAt A s u v (aI d e):=by
 refine pG (uK I d e (A:=A) fd fe rd re ru rv hu) (λK4=>?_) (λb t ef=>Rel.xa rd (by rw[ef]at ru;exact ru))
 subst K4
 have K5:=ru.inj rv
 subst K5
 have K6:=Rel.inj I d e fd fe rd re
 subst K6
 exact fG d fd
theorem kN (I:Inv X pins σ H s){A:Zz}(hu:A.units+8<cLine){xs:List D}{es:List ZE}(en:Ent X.kw H ι xs es)(nd:(aS xs).Nodup){key:D}{x:V}{u:Value}(hk:bC 6 key=true)(r:Rel X.kw H ι key x)(ru:RelV x u):
  ET A s u (hD X.w key) es.toArray (tq xs key) where
 eq:=λi e he hh=>by
  obtain⟨k,kv,a,b,c,d,f,g⟩:=en.at (i:=i) (by simpa using he)
  rw[g key]
  obtain⟨f1,f2⟩:=jJ k a
  exact pO I f1 (jJ key hk).1 d r f ru (by omega)
 hs:=λi e he ht=>by
  obtain⟨k,kv,a,b,c,d,f,g⟩:=en.at (i:=i) (by simpa using he)
  rw[g key]at ht
  rw[c,(jK k key a hk).mp ht]
 qk:=qP key I hk (by omega) r ru
 qe:=λe he=>by
  obtain⟨i,hi⟩:=Z7.mp (by simpa using he)
  obtain⟨k,kv,a,b,c,d,f,g⟩:=en.at hi
  exact qP k I a (by omega) d f
 rf:=λe he ek=>by
  obtain⟨i,hi⟩:=Z7.mp (by simpa using he)
  obtain⟨k,kv,a,b,c,d,f,g⟩:=en.at hi
  rw[ek]at f
  have:=f.inj ru
  subst this
  rw[c,Rel.inj I k key (jJ k a).1 (jJ key hk).1 d r]
 un:=λi j hi hj ti tj=>by
  obtain⟨e,he⟩:∃e,es[i]? = some e:=⟨_,Y8 (by simpa using hi)⟩
  obtain⟨e',LC⟩:∃e,es[j]? = some e:=⟨_,Y8 (by simpa using hj)⟩
  obtain⟨k,kv,a,b,c,d,f,g⟩:=en.at he
  obtain⟨k',Wo,a',b',c',d',f',g'⟩:=en.at LC
  rw[g key]at ti
  rw[g' key]at tj
  rw[(jK k key a hk).mp ti]at b
  rw[(jK k' key a' hk).mp tj]at b'
  exact(afg (Y7.mp b).1 nd).mp (b.trans b'.symm)
 st:=λy tk e0 i e he hx=>by
  subst e0
  obtain⟨k,kv,a,b,c,d,f,g⟩:=en.at (i:=i) (by simpa using he)
  rw[g key]
  have kx:key = .str y:=by
   cases key with
   |str z=>simp only[Rel]at r;subst r;obtain⟨t,q⟩:=ru;cases q;rfl
   |aA=>simp only[Rel]at r;subst r;cases ru
   |int z=>simp only[Rel]at r;subst r;obtain⟨t,q⟩:=ru;cases q
   |tup z=>simp only[Rel]at r;obtain⟨_,_,rfl,_⟩:=r;cases ru
   |_=>simp[bC]at hk
  subst kx
  cases k with
  |str z =>
   simp only[Rel]at d;subst d;obtain⟨t,q⟩:=f
   rw[q]
   simp only[Value.isStr,aI]
  |aA=>simp only[Rel]at d;subst d;rw[f]at hx;cases hx
  |int z=>simp only[Rel]at d;subst d;obtain⟨t,q⟩:=f;rw[q]at hx;cases hx
  |tup z=>simp only[Rel]at d;obtain⟨_,_,rfl,_⟩:=d;rw[show e.key=_ from f]at hx;cases hx
  |_=>simp[bC]at a
end
section
variable {X:Cx}{pins:List (Addr×Obj)}{σ:L2.St}{H:Hp}{ι:Ix}{s:Y4}{A:Zz}{E:Value->Y4->Prop}{a:Addr}{xs:List D}{es:List ZE}{c:Nat}{key:D}{x:V}{u:Value}
theorem iW (I:Inv X pins σ H s)(hH:H a=some (dO a es c)):s.heap.get? a=some { cls:=.type "dict",data:=.dict es.toArray (es.length-c) }:=
 (show cW X.prog X.w H s.heap a (dO a es c) from I.bJ a _ hH).1
theorem tI (I:Inv X pins σ H s)(hH:H a=some (dO a es c)):∃ep,s.heap.get? a=some { cls:=.type "dict",data:=.dict es.toArray ep }:=⟨_,iW I hH⟩
theorem y8 (I:Inv X pins σ H s)(hH:H a=some (dO a es c)):s.TypeIs (.ref a) "dict":=let⟨_,h⟩:=tI I hH;⟨_,h,rfl⟩
theorem sE (I:Inv X pins σ H s)(hu:A.units+8<cLine)(hH:H a=some (dO a es c))(en:Ent X.kw H ι xs es)(nd:(aS xs).Nodup)(hk:bC 6 key=true)(r:Rel X.kw H ι key x)(ru:RelV x u){Q:Option Value->Y4->Prop}
   (hn:bf xs key=none->∀tk,Q none { s with toks:=tk }) (hs:∀v,bf xs key=some v->∀tk vv z,Rel X.kw H ι v vv->RelV vv z->Q (some z) { s with toks:=tk }):wpAny (model X.prog X.w) A (adC a u) Q E s:=by
 obtain⟨ep,ho⟩:=tI I hH
 unfold adC
 refine ZI (xv (pN key I hk r ru (by omega) λtk=>xv (qO (s:={ s with toks:=tk }) ho rfl (kN (I.tok tk) hu en nd hk r ru) (λz=>?_) (λi hi ht=>?_))))
 . exact Y5 (hn (en.none_ λi hi=>z i (by simpa using hi)).1 tk)
 . have K:=kN (I.tok tk) hu en nd hk r ru (A:=A)
   obtain⟨e,v,vv,h1,h2,h3,h4,_⟩:=en.tH (key:=key) (by simpa using hi) ht λj hj z=>(K.un i j hi (by simpa using hj) ht z).symm
   refine xv (abo (s:={ s with toks:=tk }) ho rfl ?_)
   have:es.toArray[i]? = some e:=by simpa using h1
   rw[this]
   exact Y5 (hs v h2 tk vv _ h3 h4)
theorem A0 (I:Inv X pins σ H s)(hH:H a=some (dO a es c))(en:Ent X.kw H ι xs es)(nd:(aS xs).Nodup)(hk:bC 6 key=true)(r:Rel X.kw H ι key x)(ru:RelV x u){v:D}(hv:bf xs key=some v):
   ∃vv z,Rel X.kw H ι v vv/\RelV vv z /\ ∀{A:Zz} {E:Value->Y4->Prop} {Q:Option Value->Y4->Prop},A.units+8<cLine->(∀tk,Q (some z) { s with toks:=tk })->wpAny (model X.prog X.w) A (adC a u) Q E s:=by
 obtain⟨ep,ho⟩:=tI I hH
 have hex:∃i,i<es.length/\tq xs key i=true:=by
   refine Classical.byContradiction λno=>?_
   have:=(en.none_ (key:=key) λi hi=>by
    cases h:tq xs key i with
    |false=>rfl
    |true=>exact absurd ⟨i,hi,h⟩ no).1
   rw[hv]at this;cases this
 obtain⟨i,hi,ht⟩:=hex
 have un:∀j,j<es.length->tq xs key j=true->j=i:=λj hj z=>by
   obtain⟨k,kv,a1,b1,_,_,_,g⟩:=en.at (Y8 hi)
   obtain⟨k',Wo,a2,b2,_,_,_,g'⟩:=en.at (Y8 hj)
   rw[g]at ht
   rw[g']at z
   rw[(jK k key a1 hk).mp ht]at b1
   rw[(jK k' key a2 hk).mp z]at b2
   exact(afg (Y7.mp b2).1 nd).mp (b2.trans b1.symm)
 obtain⟨e,v',vv,h1,h2,h3,h4,_⟩:=en.tH (key:=key) hi ht un
 rw[hv]at h2;cases h2
 refine⟨vv,e.val,h3,h4,fun {A E Q} hu q=>?_⟩
 unfold adC
 refine ZI (xv (pN key I hk r ru (by omega) λtk=>xv (qO (s:={ s with toks:=tk }) ho rfl (kN (I.tok tk) hu en nd hk r ru) (λz=>?_) (λj hj tj=>?_))))
 . have:=z i (by simpa using hi);rw[ht]at this;cases this
 . have:=un j (by simpa using hj) tj
   subst this
   refine xv (abo (s:={ s with toks:=tk }) ho rfl ?_)
   have:es.toArray[j]? = some e:=by simpa using h1
   rw[this]
   exact Y5 (q tk)
theorem sF (I:Inv X pins σ H s)(hu:A.units+8<cLine)(hH:H a=some (dO a es c))(dI:c<=es.length)(hz:es.length<=Zl)(en:Ent X.kw H ι xs es)(nd:(aS xs).Nodup)(hk:bC 6 key=true)(r:Rel X.kw H ι key x)(ru:RelV x u){v:D}{vv:V}{z:Value}(rv:Rel X.kw H ι v vv)(rz:RelV vv z){Q:Unit->Y4->Prop}
   (h:∀tk h' bV,Ent X.kw H ι (cf xs key v) bV->(aS (cf xs key v)).Nodup->bV.length<=es.length+1->c<=bV.length->h'.get? a=some { cls:=.type "dict",data:=.dict bV.toArray (bV.length-c) }->abR a s.heap h'->Q () { s with heap:=h',toks:=tk }):
   wpAny (model X.prog X.w) A (dictSet a u z) Q E s:=by
 have ho:=iW I hH
 unfold dictSet
 refine ZI (xv (pN key I hk r ru (by omega) λtk=>?_))
 unfold dictSetHashed
 refine ZI (xv (qO (s:={ s with toks:=tk }) ho rfl (kN (I.tok tk) hu en nd hk r ru) (λy=>?_) (λi hi ht=>?_)))
 . obtain⟨_,Qo⟩:=en.none_ (key:=key) λi hi=>y i (by simpa using hi)
   obtain⟨e1,e2⟩:=Ent.push (e:=⟨hD X.w key,u,z⟩) hk rfl r ru rv rz en
   refine xv (aaL (wpAny_updateDictKeys (hz:=by simpa using hz) (s:={ s with toks:=tk }) ho rfl ?_))
   refine h tk _ (es ++ [⟨hD X.w key,u,z⟩]) (by rw[Qo];exact e1) ?_ (by simp) (by simp;omega) ?_ (aa4 ..)
   . rw[Qo,e2,aaq]
     refine⟨nd,by simp,λk AG k' xt=>?_⟩
     simp at xt;subst xt
     rintro rfl
     obtain⟨i,hi,e⟩:=aax.mp AG
     have jF:i<es.length:=by rw[<- en.len];exact hi
     obtain⟨k,kv,a1,b1,_,_,_,g⟩:=en.at (Y8 jF)
     rw[Y8 hi,e]at b1
     cases b1
     have:=y i (by simpa using jF)
     rw[g,(jK _ _ hk hk).mpr rfl]at this
     cases this
   . have q:=abg (h:=s.heap) (afV (·.push ⟨hD X.w key,u,z⟩)) ho rfl
     rw[q];simp[afV];omega
 . have K:=kN (I.tok tk) hu en nd hk r ru (A:=A)
   obtain⟨e,v0,Yy,h1,h2,h3,h4,_,h5⟩:=en.tH (key:=key) (by simpa using hi) ht λj hj y=>(K.un i j hi (by simpa using hj) ht y).symm
   obtain⟨h6,h7⟩:=h5 v vv z rv rz
   refine xv (aaL (xv (wpAny_updateDict (s:={ s with toks:=tk }) ho rfl ?_)))
   refine wpAny_point ?_
   refine h tk _ (es.modify i λe=>{ e with val:=z }) h6 (by rw[h7];exact nd) (by simp) (by simpa using dI) ?_ (aa4 ..)
   have q:=abg (h:=s.heap) (Obj.mapDict (·.modify i λe=>{ e with val:=z })) ho rfl
   rw[q];simp[Obj.mapDict]
end
end DK
namespace L3
open PySem PySem.Spec PyProof.Rows L2 SeqAt DK
noncomputable def ay (d1 d2:D)(g:G):Option (D×G):=match d1 with
 |.aM n=>(g[n]?).bind λxs=>if bC 6 d2=true then(bf xs d2).map λd=>(d,g)else none
 |d1=>pI d1 d2 g
section
variable {X:Cx}
theorem HP (hu:X.A.units+64<cLine):mq X (cG X.kw ay):=by
 intro value slice pins s σ H x y v u Q I rx ry q hs
 obtain⟨ι,g,d1,d2,d,g',G0,r1,r2,q,p⟩:=q
 cases d1 with
 |aM n =>
  simp only[ay]at q
  obtain⟨xs,hx,q⟩:=bind_some q
  split at q
  . rename_i hk
    simp only[Rel]at r1
    obtain⟨a,rfl,ha⟩:=r1
    cases rx
    obtain⟨es,vs,c,hH,j0,dI,rv,hh,nd,sy,sz,rl⟩:=G0.nV hx ha
    have en:=Ent.of rv hh rl
    cases hv:bf xs d2 with
    |none=>rw[hv]at q;cases q
    |some dv =>
     rw[hv]at q;cases q
     obtain⟨vv,z,h1,h2,h3⟩:=A0 I hH en nd hk r2 ry hv
     have hT:=y8 I hH
     refine acs (x:=z) hT adq.lookup ?_ hs
     unfold aco
     refine ZI (xv (abO hT (by decide) ?_))
     refine xv (Z_ (name:=Zy "__getitem__") hT adq (ZN adq hT entry_dict_getitem ?_ (args_dict_getitem _ _)))
     show wpAny _ _ (adC a u >>= _) _ _ s
     refine xv (h3 (by rw[in1_units];omega) λtk=>?_)
     exact Y5 ⟨z,rfl,Y5 ⟨rfl,vv,H,I.tok tk,h2,p H ι vv Ext.refl G0 h1⟩⟩
  . cases q
 |_=>exact Hx value slice pins s σ H x y v u Q I rx ry ⟨ι,g,_,d2,d,g',G0,r1,r2,q,p⟩ hs
theorem LD {a b:Expr}{fa fb:FE}{pos:Pos}(hu:X.A.units+64<cLine)(ha:DE X a fa)(hb:DE X b fb)(hs:qC b:=by exact λ_ _=>rfl):DE X (.Subscript a b pos) (aq ay fa fb):=.of (
 PE.imp (OF (HP hu) ha.un hb.un hs) λσ H Q h=>pf h)
end
noncomputable def A1 (d1:D)(xs:List D):Option Bool:=if(flat d1&&aU xs&&decide (bX xs<=50))=true then some (xs.any λy=>aI y d1)else none
noncomputable def n_ (d1 d2:D)(g:G):Option Bool:=match d2 with
 |.aM n=>(g[n]?).bind λxs=>if bC 6 d1=true then some (bf xs d1).isSome else none
 |d2=>(cv d2 g).bind (A1 d1)
noncomputable def hJ (d1 d2:D)(g:G):Option (D×G):=(n_ d1 d2 g).map λb=>(.bl b,g)
noncomputable def gK (d1 d2:D)(g:G):Option (D×G):=(n_ d1 d2 g).map λb=>(.bl (!b),g)
theorem A2 {d1 d2:D}{g:G}{b:Bool}(h:n_ d1 d2 g=some b):(∃n,d2 = .aM n) \/ ∃xs,cv d2 g=some xs/\A1 d1 xs=some b:=by
 cases d2 with
 |aM n=>exact .inl ⟨n,rfl⟩
 |_=>simp only[n_]at h;exact .inr (bind_some h)
section
variable {X:Cx}
theorem j3:∀{xs:List D} {i:Nat} {d:D},aU xs=true->xs[i]? = some d->flat d=true/\dep d<=bX xs
 | [],i,d,h,e=>by simp at e
 |x::xs,0,d,h,e=>by
  simp at e;subst e
  simp only[aU,Y3]at h
  exact⟨h.1,by simp only[bX];omega⟩
 |x::xs,i+1,d,h,e=>by
  simp only[aU,Y3]at h
  obtain⟨a,b⟩:=j3 (i:=i) h.2 (by simpa using e)
  exact⟨a,by simp only[bX];omega⟩
theorem uY {pins:List (Addr×Obj)}{σ:L2.St}{H:Hp}{s:Y4}{ι:Ix}(I:Inv X pins σ H s){A:Zz}{key:D}{x:V}{u:Value}(fk:flat key=true)(r:Rel X.kw H ι key x)(ru:RelV x u){n:Nat}(hu:A.units+n<cLine):
   ∀{xs:List D} {vs:List V} {us:List Value},aU xs=true->bX xs<=n->aj X.kw H ι xs vs->Vals vs us->∃e:Value->Bool,(∀y,y∈us->EqAt A s y u (e y))/\us.any e=xs.any (λy=>aI y key):=by
 classical
 intro xs vs us fx hn rl rv
 refine⟨λy=>decide (∃d v,Rel X.kw H ι d v/\RelV v y/\flat d=true/\aI d key=true),λy hy=>?_,?_⟩
 . obtain⟨i,hi,e⟩:=aax.mp hy
   have Wq:i<vs.length:=by rw[rv.length];exact hi
   have Qp:i<xs.length:=by rw[rl.length];exact Wq
   obtain⟨v,h1,h2⟩:=rl.get (Y8 Qp)
   obtain⟨z,h3,h4⟩:=rv.get h1
   rw[Y8 hi,e]at h3
   cases h3
   obtain⟨f1,f2⟩:=j3 fx (Y8 Qp)
   have key_:=pO I f1 fk h2 r h4 ru (A:=A) (by omega)
   have:decide (∃d v,Rel X.kw H ι d v/\RelV v y/\flat d=true/\aI d key=true)=aI xs[i] key:=by
    cases hq:aI xs[i] key with
    |true=>exact decide_eq_true ⟨_,_,h2,h4,f1,hq⟩
    |false =>
     refine decide_eq_false ?_
     rintro⟨d,v',a,b,c,e'⟩
     have:=b.inj h4
     subst this
     rw[Rel.inj I d _ c f1 a h2,hq]at e'
     cases e'
   show EqAt A s y u (decide _);rw[this];exact key_
 . induction xs generalizing vs us with
   |nil=>simp only[aj]at rl;subst rl;cases rv;rfl
   |cons d ds ih =>
    simp only[aj]at rl
    obtain⟨v,vr,rfl,h2,hr⟩:=rl
    cases rv with
    |cons r0 rr =>
     simp only[aU,Y3]at fx
     simp only[bX]at hn
     rw[aak,aak,ih fx.2 (by omega) hr rr]
     congr 1
     cases hq:aI d key with
     |true=>exact decide_eq_true ⟨_,_,h2,r0,fx.1,hq⟩
     |false =>
      refine decide_eq_false ?_
      rintro⟨d',v',a,b,c,e'⟩
      have:=b.inj r0
      subst this
      rw[Rel.inj I d' _ c fx.1 a h2,hq]at e'
      cases e'
theorem xu (neg:Bool)(hu:X.A.units+64<cLine):bz X (ZF (if neg then .NotIn else .In)) (cG X.kw λd1 d2 g=>(n_ d1 d2 g).map λb=>(.bl (if neg then !b else b),g)):=by
 intro pins s σ H x y v u Q I rx ry q
 obtain⟨ι,g,d1,d2,d,g',G0,r1,r2,q,p⟩:=q
 obtain⟨b,hb,q⟩:=Zq.mp q
 cases q
 have fin:∀tk,EP X pins σ Q (.bool (if neg then !b else b)) { s with toks:=tk }:=λtk=>⟨.bl _,H,I.tok tk,rfl,p H ι _ Ext.refl G0 (by simp[Rel])⟩
 rcases A2 hb with⟨n,rfl⟩|⟨xs,hx,hb⟩
 . simp only[n_]at hb
   obtain⟨xs,hx,hb⟩:=bind_some hb
   split at hb
   . rename_i hk
     cases hb
     simp only[Rel]at r2
     obtain⟨a,rfl,ha⟩:=r2
     cases ry
     obtain⟨es,vs,c,hH,j0,dI,rv,hh,nd,sy,sz,rl⟩:=G0.nV hx ha
     have en:=Ent.of rv hh rl
     have hT:=y8 I hH
     have core:∀{Q':Bool->Y4->Prop},(∀tk,Q' (bf xs d1).isSome { s with toks:=tk })->wpAny (model X.prog X.w) X.A (contains (.ref a) v) Q' X.xe s:=fun {Q'} fin=>by
       unfold contains
       refine ZI (xv (acQ hT ac_.lookup ?_))
       refine Z6 (λz=>by rw[adI]at z;cases z) (λ_=>?_)
       refine xv (wpAny_callSpecialUnlessNone?_slot (name:=Zy "__contains__") hT ac_ (ZN ac_ hT entry_dict_contains ?_ (args_dict_contains _ _)))
       show wpAny _ _ (adC a v >>= _) _ _ s
       refine xv (sE I (by rw[in1_units];omega) hH en nd hk r1 rx (λhn tk=>?_) (λw hs tk vv z _ _=>?_))
       . rw[hn]at fin
         show wpAny _ _ (Builtin.Dict.pendingKey? a v >>= _) _ _ _
         exact xv (wpAny_pendingKey_other sy (Y5 ⟨_,rfl,ZU (fin tk)⟩))
       . rw[hs]at fin
         show wpAny _ _ (ret (.bool true)) _ _ _
         exact Y5 ⟨_,rfl,ZU (fin tk)⟩
     cases neg with
     |false=>exact(show wpAny _ _ (do return aa9 (<- contains (.ref a) v)) _ _ s from xv (core λtk=>Y5 (fin tk)))
     |true=>exact(show wpAny _ _ (do return aa9 (!(<- contains (.ref a) v))) _ _ s from xv (core λtk=>Y5 (fin tk)))
   . cases hb
 . unfold A1 at hb
   split at hb
   . rename_i z
     simp only[Y3,decide_eq_true_eq]at z
     cases hb
     obtain⟨a,vs,rfl,hq,hr⟩:=iU G0 r2 hx
     cases ry
     rcases hq with hq|hq
     . obtain⟨av,bu,ht,_⟩:=I.list hq
       obtain⟨e,h1,h2⟩:=uY I (A:=X.A.in1) z.1.1 r1 rx (n:=50) (by rw[in1_units];omega) z.1.2 z.2 hr bu
       have fin:=fin s.toks
       rw[<- h2]at fin
       cases neg with
       |false=>exact in_listAt e ht.isList (λy hy=>h1 y (by simpa using hy)) (by simpa using fin)
       |true=>exact notIn_listAt e ht.isList (λy hy=>h1 y (by simpa using hy)) (by simpa using fin)
     . obtain⟨av,bu,ht,_⟩:=I.tuple hq
       obtain⟨e,h1,h2⟩:=uY I (A:=X.A.in1) z.1.1 r1 rx (n:=50) (by rw[in1_units];omega) z.1.2 z.2 hr bu
       have fin:=fin s.toks
       rw[<- h2]at fin
       cases neg with
       |false=>exact in_tupleAt e ht (λy hy=>h1 y (by simpa using hy)) (by simpa using fin)
       |true=>exact notIn_tupleAt e ht (λy hy=>h1 y (by simpa using hy)) (by simpa using fin)
   . cases hb
theorem LF (hu:X.A.units+64<cLine):bz X (ZF .In) (cG X.kw hJ):=xu false hu
theorem A3 (hu:X.A.units+64<cLine):bz X (ZF .NotIn) (cG X.kw gK):=xu true hu
end
section
variable {X:Cx}{pins:List (Addr×Obj)}{σ:L2.St}{H:Hp}{ι:Ix}{s:Y4}{g:G}{a:Addr}{n:Nat}{xs:List D}{es:List ZE}{c:Nat}
theorem uZ (I:Inv X pins σ H s)(hH:H a=some (dO a es c)){bV:List ZE}{h':Heap}{tk:Nat}(hg:h'.get? a=some { cls:=.type "dict",data:=.dict bV.toArray (bV.length-c) })(sb:abR a s.heap h'):
  Inv X pins σ (upd H a (dO a bV c)) { s with heap:=h',toks:=tk }:=by
 refine I.write (x:=a) (e:=a) (o:=dO a bV c) (t':=tk) (by rw[hH];exact abJ) (.inl rfl) (λb u hb q=>?_) ⟨_,hg⟩ ⟨hg,⟨_,hg⟩,λh1 h2 q k=>k _ q⟩
 rw[sb.2 b hb];exact q
theorem u4 (G0:az X.kw H ι g)(ha:dZ ι n a true)(j0:ι.kd n=c+1)(hH:H a=some (dO a es c)){LG:List D}{bV:List ZE}(en:Ent X.kw H ι LG bV)(nd:(aS LG).Nodup)(sy:(a == aa_)=false)(dI:c<=bV.length)(sz:bV.length<=Zl):
  az X.kw (upd H a (dO a bV c)) ι (g.set n LG):=by
 obtain⟨h1,vs,h2,h3⟩:=en.out
 exact G0.Km ha hH (by rw[j0];exact .d c bV vs dI h2 h1 nd sy sz) h3
end
noncomputable def lX (xs:List D):Bool:=aG (xs.length / 2+1)
noncomputable def kj (o i v:D)(g:G):Option G:=match o with
 |.aM n=>(g[n]?).bind λxs=>if(bC 6 i&&lX xs)=true then some (g.set n (cf xs i v))else none
 |o=>putD o i v g
inductive EU (K:KW)(o i v:V)(H:Hp)(Q:Hp->Prop):Prop
 |mk (ι:Ix) (g:G) (d1 d2 d3:D) (g':G) (h0:az K H ι g) (h1:Rel K H ι d1 o) (h2:Rel K H ι d2 i) (h3:Rel K H ι d3 v) (h4:kj d1 d2 d3 g=some g') (h5:∀H' ι',Ext H ι H' ι'->az K H' ι' g'->Q H'):EU K o i v H Q
theorem xw {K H ι}{xs:List D}{es:List ZE}(en:Ent K H ι xs es):xs.length=2*es.length:=by
 induction en with
 |nil=>rfl
 |cons _ _ _ _ _ _ _ ih=>simp[ih];omega
section
variable {X:Cx}
theorem HQ (hu:X.A.units+64<cLine):Cg X (EU X.kw):=by
 intro pins s σ H o i v ov iv u Q I ro ri rv q
 obtain⟨ι,g,d1,d2,d3,g',G0,r1,r2,r3,q,p⟩:=q
 cases d1 with
 |aM n =>
  simp only[kj]at q
  obtain⟨xs,hx,q⟩:=bind_some q
  split at q
  . rename_i hk
    simp only[Y3]at hk
    cases q
    simp only[Rel]at r1
    obtain⟨a,rfl,ha⟩:=r1
    cases ro
    obtain⟨es,vs,c,hH,j0,dI,mK,hh,nd,sy,sz,rl⟩:=G0.nV hx ha
    have en:=Ent.of mK hh rl
    have hT:=y8 I hH
    have hz:=aG.le hk.2
    rw[xw en]at hz
    unfold ae6
    refine ZI (xv (abO hT (by decide) ?_))
    refine xv (Z_ (name:=Zy "__setitem__") hT slot_dict_setitem (ZN slot_dict_setitem hT entry_dict_setitem ?_ (args_dict_setitem _ _ _)))
    show wpAny _ _ (Builtin.Dict.notOrdered "__setitem__" ⟨[.ref a,iv,u],[]⟩ >>= _) _ _ s
    refine xv (aed hT ?_)
    show wpAny _ _ (dictSet a iv u >>= _) _ _ s
    refine xv (sF I (by rw[in1_units];omega) hH dI sz en nd hk.1 r2 ri r3 rv λtk h' bV e1 e2 e3 e0 e4 e5=>Y5 ⟨.none,rfl,Y5 ?_⟩)
    exact⟨_,uZ I hH e4 e5,p _ ι (Ext.put ha hH) (u4 G0 ha j0 hH e1 e2 sy e0 (by omega))⟩
  . cases q
 |ref n =>
  refine set_list pins s σ H o i v ov iv u Q I ro ri rv ?_
  simp only[kj,putD]at q
  cases d2 with
  |int k =>
    simp only[Rel]at r1 r2
    obtain⟨a,rfl,ha⟩:=r1
    subst r2
    dsimp only at q
    cases hx:g[n]? with
    |none=>rw[hx]at q;cases q
    |some xs =>
     rw[hx]at q
     dsimp only at q
     cases hj:kC xs.length k with
     |none=>rw[hj]at q;cases q
     |some j =>
      rw[hj]at q
      cases q
      obtain⟨vs,hv,hr⟩:=G0.at hx ha
      exact⟨a,vs,k,j,rfl,rfl,hv,by rw[<- hr.length];exact hj,p _ ι (Ext.put ha hv) (G0.put ha hv (aj.set r3 j hr))⟩
  |_=>cases q
 |_=>cases q
noncomputable def eU (fo fi:FE):FG:=λv σ g=>(fo σ g).bind λr=>(fi σ r.2).bind λq=>(kj r.1 q.1 v q.2).map λg'=>(σ,g')
theorem xx {o i:Expr}{fo fi:FE}{pos:Pos}(hu:X.A.units+64<cLine)(ho:DE X o fo)(hi:DE X i fi)
  (ha:∀v,ab6 (.Subscript o i pos) X.env v=(do
   let ov <- abS [v] (eval o X.env)
   let iv <- abS [v,ov] (eval i X.env)
   ad5 pos
   abS [v,ov,iv] (ae6 ov iv v)
   release [v,ov,iv] []):=by intro _;rfl):DG X (.Subscript o i pos) (eU fo fi):=.of (PG.imp (JB ho.un hi.un (HQ hu) ha) λv σ H Q h=>by
 obtain⟨ι,σd,g,d,b5,g',G0,S0,r,h,p⟩:=h
 obtain⟨⟨d1,g1⟩,h1,h⟩:=bind_some h
 obtain⟨⟨d2,g2⟩,h2,h⟩:=bind_some h
 refine tD.bind G0 S0 h1 λH1 ι1 v1 e1 G1 S1 r1=>?_
 refine tD.bind G1 S1 h2 λH2 ι2 v2 e2 G2 S2 r2=>?_
 obtain⟨g3,h3,h⟩:=Zq.mp h
 cases h
 exact⟨ι2,g2,d1,d2,d,g',G2,Rel.ext e2 _ r1,r2,Rel.ext (e1.trans e2) _ r,h3,λH' ι' e' G'=>p H' ι' σ ((e1.trans e2).trans e') G' (S2.ext e')⟩)
end
inductive Qq (K:KW)(iq:D->Bool)(m:D->List D->G->Option (D×G))(x:V)(xs:List V)(H:Hp)(Q:VK):Prop
 |mk (ι:Ix) (g:G) (d:D) (ds:List D) (d':D) (g':G) (h0:az K H ι g) (h1:Rel K H ι d x) (h2:aj K H ι ds xs) (h3:iq d=true) (h4:m d ds g=some (d',g')) (h5:gA K H ι d' g' Q):Qq K iq m x xs H Q
structure MR (X:Cx)(T:String)(name:Str)(id:String)(iq:D->Bool)(m:D->List D->G->Option (D×G)):Prop where
 pa:PlainAttrs T
 slot:Slot T name id
 ty:typeOf (.builtin id)=pure (.type "method_descriptor")
 is:∀{pins:List (Addr×Obj)} {σ:L2.St} {H:Hp} {s:Y4} {ι:Ix} {g:G} {d:D} {x:V} {v:Value},Inv X pins σ H s->az X.kw H ι g->Rel X.kw H ι d x->RelV x v->iq d=true->s.TypeIs v T /\ ∀a,v = .ref a->∃ob,s.heap.get? a=some ob/\ob.dict=none
 run:PX X id (Qq X.kw iq m)
noncomputable def cq (iq:D->Bool)(m:D->List D->G->Option (D×G))(fo:FE)(fr:FA):FE:=λσ g=>(fo σ g).bind λr=>if iq r.1=true then(fr σ r.2).bind λq=>m r.1 q.1 q.2 else none
section
variable {X:Cx}{T:String}{name:Str}{id:String}{iq:D->Bool}{m:D->List D->G->Option (D×G)}{o e:Expr}{es:List Expr}{fo:FE}{fr:FA}{apos fU:Pos}
theorem LH (R:MR X T name id iq m)(ho:DE X o fo)(ha:DA X (e::es) fr)(y9:adj o name X.env (eval o X.env)=eval o X.env:=by rfl)
   (Su:((abw fU (Zv (e::es) X.env)).all (λx=>!x.1)&&(backToKw fU (keywordEach [] X.env)).all (λx=>x.1.isSome)
    && decide ((e::es).length+([]:List ae7).length+(if([]:List ae7).isEmpty then 0 else 1)<30))=true:=by rfl)
   (y_:(apos.endLine == fU.line)=true:=by rfl) (hs:Zv (e::es) X.env=(false,eval e X.env)::Zv es X.env:=by rfl) (LJ:(abw fU (Zv es X.env)).any (·.1)=false:=by rfl):
   DE X (.Call (.Attribute o name apos) (e::es) [] fU) (cq iq m fo fr):=.of (by
 intro pins s σ H Q I h
 obtain⟨ι,σd,g,d,g',G0,S0,h,p⟩:=h
 obtain⟨⟨d1,g1⟩,h1,h⟩:=bind_some h
 dsimp only at h
 split at h
 . rename_i hT
   obtain⟨⟨ds,g2⟩,h2,h⟩:=bind_some h
   refine wpAny_Call_method_late y9 Su y_ rfl (aX (ho.un pins s σ H (λx H1=>∃ι1,Ext H ι H1 ι1/\az X.kw H1 ι1 g1/\bR X.kw H1 ι1 σd σ/\Rel X.kw H1 ι1 d1 x) I (tD.bind G0 S0 h1 λH1 ι1 v e1 G1 S1 r1=>⟨ι1,e1,G1,S1,r1⟩)) λv s1 ⟨x,H1,I1,rx,ι1,e1,G1,S1,r1⟩=>?_)
   obtain⟨t1,t2⟩:=R.is I1 G1 r1 rx hT
   refine⟨T,id,R.pa,R.slot,R.ty,t1,t2,?_⟩
   have hA:=ha.un fU pins s1 σ H1 _ I1 (ij.bind G1 S1 h2 λH2 ι2 vs e2 G2 S2 r2=>(⟨ι2,e2,G2,r2⟩:(λ(vs:List V) (H2:Hp)=>∃ι2,Ext H1 ι1 H2 ι2/\az X.kw H2 ι2 g2/\aj X.kw H2 ι2 ds vs) vs H2))
   rw[hs]at hA ⊢
   refine ad0 (by show(false||(abw fU (Zv es X.env)).any (·.1))=false;rw[LJ]<;>rfl) (Calls.evalArgs_plain ?_)
   refine aX hA λus s2 ⟨vs,H2,I2,r2,ι2,e2,G2,rs⟩=>?_
   exact R.run pins s2 σ H2 x vs v us Q I2 rx r2 ⟨ι2,g2,d1,ds,d,g',G2,Rel.ext e2 _ r1,rs,hT,h,p.mono (e1.trans e2)⟩
 . cases h)
theorem HR (R:MR X T name id iq m)(ho:DE X o fo)(y9:adj o name X.env (eval o X.env)=eval o X.env:=by rfl)(y_:(apos.endLine == fU.line)=true:=by rfl):
   DE X (.Call (.Attribute o name apos) [] [] fU) (cq iq m fo ag):=.of (by
 intro pins s σ H Q I h
 obtain⟨ι,σd,g,d,g',G0,S0,h,p⟩:=h
 obtain⟨⟨d1,g1⟩,h1,h⟩:=bind_some h
 dsimp only at h
 split at h
 . rename_i hT
   obtain⟨⟨ds,g2⟩,h2,h⟩:=bind_some h
   cases h2
   refine wpAny_Call_method0_late y9 y_ (aX (ho.un pins s σ H (λx H1=>∃ι1,Ext H ι H1 ι1/\az X.kw H1 ι1 g1/\bR X.kw H1 ι1 σd σ/\Rel X.kw H1 ι1 d1 x) I (tD.bind G0 S0 h1 λH1 ι1 v e1 G1 S1 r1=>⟨ι1,e1,G1,S1,r1⟩)) λv s1 ⟨x,H1,I1,rx,ι1,e1,G1,S1,r1⟩=>?_)
   obtain⟨t1,t2⟩:=R.is I1 G1 r1 rx hT
   refine⟨T,id,R.pa,R.slot,R.ty,t1,t2,ad0 rfl (PySem.evalArgs_none ?_)⟩
   exact R.run pins s1 σ H1 x [] v [] Q I1 rx .nil ⟨ι1,g1,d1,[],d,g',G1,r1,by simp[aj],hT,h,p.mono e1⟩
 . cases h)
end
noncomputable def iL:D->Bool
 |.aM _=>true
 |_=>false
theorem u5 {X:Cx}{pins:List (Addr×Obj)}{σ:L2.St}{H:Hp}{s:Y4}{ι:Ix}{g:G}{d:D}{x:V}{v:Value}(I:Inv X pins σ H s)(G0:az X.kw H ι g)(r:Rel X.kw H ι d x)(rv:RelV x v)(h:iL d=true):
  s.TypeIs v "dict" /\ ∀a,v = .ref a->∃ob,s.heap.get? a=some ob/\ob.dict=none:=by
 cases d with
 |aM n =>
  simp only[Rel]at r
  obtain⟨a,rfl,ha⟩:=r
  cases rv
  have hi:n<g.length:=by rw[<- G0.len];exact(Y7.mp ha.1).1
  obtain⟨es,vs,c,hH,_⟩:=G0.nV (Y8 hi) ha
  obtain⟨ep,ho⟩:=tI I hH
  refine⟨⟨_,ho,rfl⟩,λb e=>?_⟩
  cases e
  exact⟨_,ho,rfl⟩
 |_=>cases h
noncomputable def i5 (d:D)(ds:List D)(g:G):Option (D×G):=match d,ds with
 |.aM n,[k]=>(g[n]?).bind λxs=>if bC 6 k=true then some ((bf xs k).getD .aA,g)else none
 |.aM n,[k,x]=>(g[n]?).bind λxs=>if bC 6 k=true then some ((bf xs k).getD x,g)else none
 |_,_=>none
theorem vals1 {x:V}{us:List Value}(r:Vals [x] us):∃u,us = [u]/\RelV x u:=by
 cases r with
 |cons a b=>cases b;exact⟨_,rfl,a⟩
theorem LK {X:Cx}(hu:X.A.units+64<cLine):MR X "dict" "get" "dict.get" iL i5 where
 pa:=PySem.F.plainAttrs_dict
 slot:=PySem.F.slot_dict_get
 ty:=PySem.F.type_dict_get
 is:=u5
 run:=by
  intro pins s σ H x xs v us Q I rx rs q
  obtain⟨ι,g,d,ds,d',g',G0,r1,rl,hT,q,p⟩:=q
  have Qr:=(u5 I G0 r1 rx hT).1
  cases d with
  |aM n =>
   simp only[Rel]at r1
   obtain⟨a,rfl,ha⟩:=r1
   cases rx
   have core:∀{k dflt:D} {ys:List D} {kv dv:V} {ku du:Value} {Q':Fin->Y4->Prop},g[n]? = some ys->bC 6 k=true->Rel X.kw H ι k kv->RelV kv ku->Rel X.kw H ι dflt dv->RelV dv du->gA X.kw H ι ((bf ys k).getD dflt) g Q ->
      (∀v s',EP X pins σ Q v s'->Q' (.done (.ret v)) s')->wpAny (model X.prog X.w) X.A.in1 (do
       if let some v <- adC a ku then return <- ret v
       match <- Builtin.Dict.missed a ku with
       |some v=>ret v
       |none=>ret du) Q' X.xe s:=by
    intro k dflt ys kv dv ku du Q' hx hk rk Wr rd Ws p hQ
    obtain⟨es,vs,c,hH,j0,dI,rv,hh,nd,sy,sz,rl⟩:=G0.nV hx ha
    have en:=Ent.of rv hh rl
    refine xv (sE I (by rw[in1_units];omega) hH en nd hk rk Wr (λhn tk=>?_) (λw hs tk vv z rw_ rz=>?_))
    . rw[hn]at p
      exact xv (wpAny_missed_other sy (Y5 (hQ _ _ ⟨_,H,I.tok tk,Ws,p H ι _ Ext.refl G0 rd⟩)))
    . rw[hs]at p
      exact Y5 (hQ _ _ ⟨_,H,I.tok tk,rz,p H ι _ Ext.refl G0 rw_⟩)
   match ds,q,rl with
   | [k],q,rl =>
    simp only[i5]at q
    obtain⟨ys,hx,q⟩:=bind_some q
    split at q
    . rename_i hk
      cases q
      simp only[aj]at rl
      obtain⟨kv,_,rfl,rk,rfl⟩:=rl
      obtain⟨u,rfl,ru⟩:=vals1 rs
      exact ZN PySem.F.slot_dict_get Qr PySem.F.entry_dict_get (core (dflt:=.aA) (dv:=.aA) (du:=.none) hx hk rk ru (by simp[Rel]) rfl p λv s' h=>⟨v,rfl,h⟩) (PySem.F.args_dict_get_2 _ _)
    . cases q
   | [k,y],q,rl =>
    simp only[i5]at q
    obtain⟨ys,hx,q⟩:=bind_some q
    split at q
    . rename_i hk
      cases q
      simp only[aj]at rl
      obtain⟨kv,_,rfl,rk,yv,_,rfl,ry,rfl⟩:=rl
      obtain⟨u,w',rfl,ru,rw_⟩:=vals2 rs
      exact ZN PySem.F.slot_dict_get Qr PySem.F.entry_dict_get (core (dflt:=y) hx hk rk ru ry rw_ p λv s' h=>⟨v,rfl,h⟩) (PySem.F.args_dict_get_3 _ _ _)
    . cases q
   | [],q,rl=>cases q
   |_::_::_::_,q,rl=>cases q
  |_=>cases hT
noncomputable def hU:FE:=λ_ g=>some (.aM g.length,g ++ [[]])
section
variable {X:Cx}
theorem HS {pos:Pos}:DE X (.Dict [] [] pos) hU:=.of (by
 intro pins s σ H Q I h
 obtain⟨ι,σd,g,d,g',G0,S0,h,p⟩:=h
 cases h
 have hf:H s.heap.objs.size=none:=I.bJ.fresh (Za _)
 have hg:∀h:Heap,(h.push { cls:=.type "dict",data:=.dict #[] }).get? h.objs.size=some { cls:=.type "dict",data:=.dict #[] }:=λh=>Zg _ rfl
 refine wpAny_Dict_empty ⟨.ref s.heap.objs.size,upd H s.heap.objs.size (dO s.heap.objs.size [] 0),I.laid (t':=s.toks) (λb u e=>Y6 _ e) (Za _) ?_,rfl,p _ _ _ (Ext.iK (b:=1) hf) (G0.iK hf (.d 0 [] [] (ZM _) .nil .nil (by simp[aS]) (beq_eq_false_iff_ne.mpr (aa0 (Zk (big I)))) (ZM _)) (by simp[aj])) ?_⟩
 . exact⟨hg _,⟨_,hg _⟩,λh1 h2 q k=>k _ q⟩
 . simp only[Rel]
   exact⟨_,rfl,dZ.new G0.len⟩)
end
end L3
namespace L3
open PySem PySem.Spec PyProof.Rows L2
end L3
namespace L3
open PySem PySem.Spec PyProof.Rows L2 SeqAt DK
noncomputable def u6:List (FE×FE)->Sg->G->Option (List (D×D)×G)
 | [],_,g=>some ([],g)
 |p::r,σ,g=>(p.1 σ g).bind λa=>(p.2 σ a.2).bind λb=>(u6 r σ b.2).bind λq=>some ((a.1,b.1)::q.1,q.2)
noncomputable def putAll (n:Nat):List (D×D)->G->Option G
 | [],g=>some g
 |p::r,g=>(kj (.aM n) p.1 p.2 g).bind λg'=>putAll n r g'
noncomputable def kO (ps:List (FE×FE)):FE:=λσ g=>(u6 ps σ (g ++ [[]])).bind λq=>(putAll g.length q.1 q.2).map λg'=>(.aM g.length,g')
inductive j4 (K:KW)(H:Hp)(ι:Ix):List (D×D)->List (Value×Value)->Prop
 |nil:j4 K H ι [] []
 |cons {d1 d2:D} {x y:V} {u v:Value} {ds us} (h1:Rel K H ι d1 x) (h2:RelV x u) (h3:Rel K H ι d2 y) (h4:RelV y v) (r:j4 K H ι ds us):j4 K H ι ((d1,d2)::ds) ((u,v)::us)
theorem j4.ext {K H ι H' ι' ds us}(r:j4 K H ι ds us)(e:Ext H ι H' ι'):j4 K H' ι' ds us:=by
 induction r with
 |nil=>exact .nil
 |cons h1 h2 h3 h4 _ ih=>exact .cons (Rel.ext e _ h1) h2 (Rel.ext e _ h3) h4 ih
section
variable {X:Cx}
noncomputable def fR (X:Cx):List (Option Expr)->List Expr->List (FE×FE)->Prop
 | [],[],[]=>True
 |some k::ks,v::vs,p::r=>DE X k p.1/\DE X v p.2/\fR X ks vs r
 |_,_,_=>False
theorem u7 {pos:Pos}:∀(ps:List (FE×FE)) (keys:List (Option Expr)) (vals:List Expr),fR X keys vals ps->∀{pins:List (Addr×Obj)} {s:Y4} {σ:L2.St} {H:Hp} {ι:Ix} {σd:Sg} {g g':G} {ds:List (D×D)},Inv X pins σ H s->az X.kw H ι g->bR X.kw H ι σd σ->u6 ps σd g=some (ds,g') ->
  wpAny (model X.prog X.w) X.A (evalPairs (pairTrees keys vals X.env pos)) (λus s'=>∃H' ι',Inv X pins σ H' s'/\Ext H ι H' ι'/\az X.kw H' ι' g'/\j4 X.kw H' ι' ds us) X.xe s
 | [],keys,vals,hd,pins,s,σ,H,ι,σd,g,g',ds,I,G0,S0,h=>by
  have e:keys = []/\vals = []:=by
    cases keys with
    |nil=>cases vals with|nil=>exact⟨rfl,rfl⟩|cons _ _=>simp[fR]at hd
    |cons k _=>cases k<;>cases vals<;>simp[fR]at hd
  obtain⟨rfl,rfl⟩:=e
  cases h
  exact pairTrees_nil_walk ⟨H,ι,I,Ext.refl,G0,.nil⟩
 |p::ps,keys,vals,hd,pins,s,σ,H,ι,σd,g,g',ds,I,G0,S0,h=>by
  obtain⟨k,ks,v,vs,rfl,rfl,h1,h2,h3⟩:∃k ks v vs,keys=some k::ks/\vals=v::vs/\DE X k p.1/\DE X v p.2/\fR X ks vs ps:=by
    cases keys with
    |nil=>cases vals<;>simp[fR]at hd
    |cons k ks =>
     cases k with
     |none=>cases vals<;>simp[fR]at hd
     |some k =>
      cases vals with
      |nil=>simp[fR]at hd
      |cons v vs=>simp only[fR]at hd;exact⟨k,ks,v,vs,rfl,rfl,hd⟩
  . simp only[u6]at h
    obtain⟨⟨d1,g1⟩,e1,h⟩:=bind_some h
    obtain⟨⟨d2,g2⟩,e2,h⟩:=bind_some h
    obtain⟨⟨dr,g3⟩,e3,h⟩:=bind_some h
    cases h
    refine pairTrees_cons_walk (aX (h1.un pins s σ H (λw H'=>∃ι1,Ext H ι H' ι1/\az X.kw H' ι1 g1/\Rel X.kw H' ι1 d1 w) I ⟨ι,σd,g,d1,g1,G0,S0,e1,λH1 ι1 w e G1 r=>⟨ι1,e,G1,r⟩⟩) λu1 s1 q1=>?_)
    obtain⟨w1,H1,I1,Wt,ι1,x1,G1,r1⟩:=q1
    refine aX (h2.un pins s1 σ H1 (λw H'=>∃ι2,Ext H1 ι1 H' ι2/\az X.kw H' ι2 g2/\Rel X.kw H' ι2 d2 w) I1 ⟨ι1,σd,g1,d2,g2,G1,S0.ext x1,e2,λH2 ι2 w e G2 r=>⟨ι2,e,G2,r⟩⟩) λu2 s2 q2=>?_
    obtain⟨w2,H2,I2,Wu,ι2,x2,G2,r2⟩:=q2
    refine aX (u7 ps ks vs h3 I2 G2 ((S0.ext x1).ext x2) e3) λus s3 q3=>?_
    obtain⟨H3,ι3,I3,x3,G3,r3⟩:=q3
    exact⟨H3,ι3,I3,(x1.trans x2).trans x3,G3,.cons (Rel.ext (x2.trans x3) _ r1) Wt (Rel.ext x3 _ r2) Wu r3⟩
theorem u9 (hu:X.A.units+64<cLine){a:Addr}{n:Nat}{E:Value->Y4->Prop}:∀(ds:List (D×D)) (us:List (Value×Value)) {pins:List (Addr×Obj)} {s:Y4} {σ:L2.St} {H:Hp} {ι:Ix} {g g':G} {Q:PUnit->Y4->Prop},Inv X pins σ H s->az X.kw H ι g->dZ ι n a true->j4 X.kw H ι ds us->putAll n ds g=some g' ->
  (∀s' H',Inv X pins σ H' s'->Ext H ι H' ι->az X.kw H' ι g'->Q aes s') ->
  wpAny (model X.prog X.w) X.A (forIn us aes λ(x:Value×Value) (_:PUnit)=>(do dictSet a x.1 x.2;pure (aaX aes):Sem (ForInStep PUnit))) Q E s
 | [],us,pins,s,σ,H,ι,g,g',Q,I,G0,ha,r,h,p=>by
  cases r
  cases h
  rw[ad9]
  exact Y5 (p s H I Ext.refl G0)
 | (k,v)::ds,us,pins,s,σ,H,ι,g,g',Q,I,G0,ha,r,h,p=>by
  cases r with
  |cons h1 h2 h3 h4 r =>
   simp only[putAll,kj]at h
   obtain⟨g1,h5,h⟩:=bind_some h
   obtain⟨xs,hx,h5⟩:=bind_some h5
   split at h5
   . rename_i hk
     simp only[Y3]at hk
     cases h5
     obtain⟨es,vs,c,hH,j0,dI,mK,hh,nd,sy,sz,rl⟩:=G0.nV hx ha
     have en:=Ent.of mK hh rl
     have hz:=aG.le hk.2
     rw[xw en]at hz
     rw[acN]
     refine xv (xv (sF I (by omega) hH dI sz en nd hk.1 h1 h2 h3 h4 λtk h' bV e1 e2 e3 e0 e4 e5=>Y5 ?_))
     refine u9 hu ds _ (uZ I hH e4 e5) (u4 G0 ha j0 hH e1 e2 sy e0 (by omega)) ha (r.ext (Ext.put ha hH)) h λs' H' I' x' G'=>?_
     exact p s' H' I' ((Ext.put ha hH).trans x') G'
   . cases h5
theorem C9 (hu:X.A.units+64<cLine){keys:List (Option Expr)}{vals:List Expr}{pos:Pos}{ps:List (FE×FE)}(hd:fR X keys vals ps)(lh:keys.all (·.isSome)=true)(hl:keys.length=vals.length)(h0:keys ≠ [])(Wv:keys.length<=15):
  DE X (.Dict keys vals pos) (kO ps):=.of (by
 intro pins s σ H Q I h
 obtain⟨ι,σd,g,d,g',G0,S0,h,p⟩:=h
 obtain⟨⟨ds,g1⟩,h1,h⟩:=bind_some h
 obtain⟨g2,h2,h⟩:=Zq.mp h
 cases h
 have hn:=pairTrees_length keys vals X.env pos lh hl
 have jI:pairTrees keys vals X.env pos ≠ []:=λhe=>by
  rw[he]at hn
  exact h0 (adQ.mp hn.symm)
 rw[arm_eval_Dict,zip_pairTrees keys vals X.env pos lh hl,dictDisplay_pairs _ jI (by rw[hn];omega)]
 have hf:H s.heap.objs.size=none:=I.bJ.fresh (Za _)
 have hg:∀h:Heap,(h.push { cls:=.type "dict",data:=.dict #[] }).get? h.objs.size=some { cls:=.type "dict",data:=.dict #[] }:=λh=>Zg _ rfl
 have I1:Inv X pins σ (upd H s.heap.objs.size (dO s.heap.objs.size [] 0)) { s with heap:=s.heap.push { cls:=.type "dict",data:=.dict #[] } }:=I.laid (t':=s.toks) (λb u e=>Y6 _ e) (Za _) ⟨hg _,⟨_,hg _⟩,λh1 h2 q k=>k _ q⟩
 have x1:Ext H ι (upd H s.heap.objs.size (dO s.heap.objs.size [] 0)) (ι.more s.heap.objs.size 1):=Ext.iK (b:=1) hf
 have G1:az X.kw (upd H s.heap.objs.size (dO s.heap.objs.size [] 0)) (ι.more s.heap.objs.size 1) (g ++ [[]]):=G0.iK hf (.d 0 [] [] (ZM _) .nil .nil (by simp[aS]) (beq_eq_false_iff_ne.mpr (aa0 (Zk (big I)))) (ZM _)) (by simp[aj])
 have EV:dZ (ι.more s.heap.objs.size 1) g.length s.heap.objs.size true:=dZ.new G0.len
 refine xv (ab7 (xv ?_))
 unfold subDict
 refine xv (afn ?_)
 refine xv (ZI ?_)
 rw[if_pos (by rw[hn];exact Wv)]
 refine xv (aX (u7 ps keys vals hd I1 G1 (S0.ext x1) h1) λus s1 q=>?_)
 obtain⟨H1,ι1,I2,x2,G2,rp⟩:=q
 refine ZI (xv (u9 hu ds us I2 G2 (x2.at EV) rp h2 λs' H' I' x' G'=>Y5 (Y5 (Y5 ?_))))
 refine⟨.ref s.heap.objs.size,H',I',rfl,p H' ι1 _ ((x1.trans x2).trans x') G' ?_⟩
 simp only[Rel]
 exact⟨_,rfl,x2.at EV⟩)
end
end L3
namespace DK
open PySem PySem.Spec PyProof.Rows L2 L3
section
variable {prog:ZC}{w:World}{A:Zz}{E:Value->Y4->Prop}{s:Y4}{it d:Addr}{i n ep:Nat}{es:Array ZE}{Q:Option Value->Y4->Prop}
theorem next_end (hh:A.handled=none)(hit:s.heap.IsKeyIter it d i n ep)(ho:s.heap.get? d=some { cls:=.type "dict",data:=.dict es ep })(hn:es.size=n)(he:es.size<=i)
  (hQ:∀h',adY it s.heap h'->Q none { s with heap:=h' }):wpAny (model prog w) A (pyNext (.ref it)) Q E s:=by
 subst hn
 obtain⟨o,h1,h2,h3⟩:=id hit
 have T:=hit.typeIs
 have own:ac4 "dict_keyiterator" = false:=by decide
 have Ww:A.in1.handled=none:=hh
 have ge:es[i]? = none:=Array.getElem?_eq_none he
 unfold pyNext
 refine xv (wpAny_attempt (Z_ (name:=Zy "__next__") T F.slot_dict_keyiterator_next (ZN F.slot_dict_keyiterator_next T F.entry_dict_keyiterator_next ?_ (F.args_dict_keyiterator_next_1 _))))
 unfold abt.«dict_keyiterator.__next__»
 wp_walk using (aa3 T),(wpAny_fieldsOf h1 h3),(abo ho rfl),(aaJ ho rfl)
 have ni:¬((i:Int)<0):=by omega
 simp only[ni,if_false,abN,ge]
 wp_walk using (aa3 T),(ac2 h1 h3 (by simp[own]))
 unfold raiseNew
 refine xv (wpAny_handled ?_)
 rw[Ww]
 refine xv (Y5 (wpAny_throw (xv (adJ (T:="StopIteration") (b:=true) (v:=.ref _) (by exact⟨_,Zg _ rfl,rfl⟩) isSubtype_stop ?_))))
 exact Y5 (hQ _ (((aa4 ..).extBut.push _).push _))
theorem next_item {e:ZE}(hit:s.heap.IsKeyIter it d i n ep)(ho:s.heap.get? d=some { cls:=.type "dict",data:=.dict es ep })(hn:es.size=n)(he:es[i]? = some e)
  (hQ:∀h',h'.IsKeyIter it d (i+1) n ep->abR it s.heap h'->Q (some e.key) { s with heap:=h' }):wpAny (model prog w) A (pyNext (.ref it)) Q E s:=by
 subst hn
 obtain⟨o,h1,h2,h3⟩:=id hit
 have T:=hit.typeIs
 have ni:¬((i:Int)<0):=by omega
 have qM:(s.heap.update it (Obj.mapFields (·.setIfInBounds 1 (adE ((i:Int)+1))))).IsKeyIter it d (i+1) es.size ep :=
  ⟨_,abg _ h1 (aec (acj h3 _)),(afd ..).trans h2,by rw[acj h3];simp[adE]⟩
 unfold pyNext
 refine xv (wpAny_attempt (Z_ (name:=Zy "__next__") T F.slot_dict_keyiterator_next (ZN F.slot_dict_keyiterator_next T F.entry_dict_keyiterator_next ?_ (F.args_dict_keyiterator_next_1 _))))
 unfold abt.«dict_keyiterator.__next__»
 wp_walk using (aa3 T),(wpAny_fieldsOf h1 h3),(abo ho rfl),(aaJ ho rfl)
 simp only[ni,if_false,abN,he]
 have own:ac4 "dict_keyiterator" = false:=by decide
 refine xv (xv (aa3 T (Y5 (xv (aee T ?_)))))
 rw[own]
 refine xv (ac2 h1 h3 (by simp) ?_)
 have T':agJ { s with heap:=s.heap.update it (Obj.mapFields (·.setIfInBounds 1 (adE ((i:Int)+1)))) } (.ref it) "dict_keyiterator":=qM.typeIs
 refine xv (ZI (xv (aee T' (Y5 (Y5 ⟨_,rfl,Y5 (hQ _ qM (aa4 ..))⟩)))))
theorem u_ {Q:Value->Y4->Prop}(hd:(d == aa_)=false)(ho:s.heap.get? d=some { cls:=.type "dict",data:=.dict es ep })
  (hQ:Q (.ref s.heap.objs.size) { s with heap:=s.heap.push { cls:=.type "dict_keyiterator",data:=.fields #[.ref d,.int 0 0,.int es.size 0,.int ep 0] } }):wpAny (model prog w) A (pyIter (.ref d)) Q E s:=by
 have T:s.TypeIs (.ref d) "dict":=⟨_,ho,rfl⟩
 refine wpAny_pyIter_slot T F.slot_dict_iter (ZN F.slot_dict_iter T F.entry_dict_iter ?_ (F.args_dict_iter_1 _))
 unfold abt.«dict.__iter__» Builtin.Dict.dictSlotNone Builtin.Dict.showsAll
 wp_walk using (aed T),(abo ho rfl),(aaJ ho rfl)
 exact⟨_,rfl,"dict_keyiterator",_,⟨_,Zg _ rfl,rfl⟩,F.slot_dict_keyiterator_next.lookup,by simpa[adE]using hQ⟩
end
end DK
namespace L3
open PySem PySem.Spec PyProof.Rows L2 SeqAt DK
theorem mL:∀{es:List ZE} {i:Nat} {e:ZE},es[i]? = some e->(jl es)[2*i]? = some e.key
 | [],i,e,h=>by simp at h
 |x::es,0,e,h=>by simp at h;subst h;rfl
 |x::es,i+1,e,h=>by
  rw[show 2*(i+1)=2*i+1+1 by omega]
  simpa[jl]using mL (by simpa using h)
noncomputable def LM (a:Addr)(n c:Nat):It :=
 ⟨λi H=>∃es vs,H a=some (dO a es c)/\Vals vs (jl es)/\es.length=n/\i<n,λi H x H'=>H'=H /\ ∀es vs,H a=some (dO a es c)->Vals vs (jl es)->vs[2*i]? = some x,λi H=>∃es,H a=some (dO a es c)/\es.length=n/\n<=i⟩
theorem A4 {P:ZC}{w:World}{K:PySem.W.Frag}{tg:Expr}(a it:Addr)(n c:Nat):Turn P w K tg (LM a n c) [it] it (λi h=>h.IsKeyIter it a i n (n-c)) where
 mem:=by simp
 obj:=λi h st b hb=>by
  have e:b=it:=by simpa using hb
  subst e
  obtain⟨o,e,c,d⟩:=st
  exact⟨o,e,λv z=>by rw[d]at z;cases z⟩
 keep:=λi h h' st k=>by
  obtain⟨o,e,c,d⟩:=st
  exact⟨o,k it (by simp) o e,c,d⟩
 item:=by
  intro X hP hw hK hc i pins s σ H E I hf st hg
  subst hP hw hK
  obtain⟨es,vs,hH,hv,hn,hi⟩:=hg
  have ho:=iW I hH
  rw[hn]at ho
  have jF:i<es.length:=by omega
  obtain⟨x,hx⟩:∃x,vs[2*i]? = some x:=by
   have h1:=mL (Y8 jF)
   have h2:=(Y7.mp h1).1
   exact⟨_,Y8 (by rw[hv.length];exact h2)⟩
  obtain⟨u,hu,ru⟩:=hv.get hx
  have hk:=mL (Y8 jF)
  rw[hk]at hu
  cases hu
  obtain⟨f0,f1,f2,f3,f4,f5⟩:=hf it (by simp)
  refine next_item (e:=es[i]) st ho (by simpa using hn) (by simp[jF]) λh' cL sb=>?_
  have I1:Inv X pins σ H { s with heap:=h' }:=I.turned (t':=s.toks) (λb o hb e=>(sb.2 b hb).trans e) f0 f1 f3 f4 f5
  obtain⟨o,e,c,d⟩:=id cL
  refine⟨_,rfl,td (s:={ s with heap:=h' }) e c d (by decide) ⟨x,H,I1,ru,⟨rfl,λbV V0 h1 h2=>?_⟩,cL,λb hb=>(hf b hb).1⟩⟩
  have ig:=iW I h1
  have f_:=iW I hH
  rw[f_]at ig
  have:es=bV:=by
   injection ig with q
   injection q with _ _ q _
   injection q with q _
   simpa using congrArg aeN q
  subst this
  rw[Vals.inj h2 hv]
  exact hx
 done:=by
  intro X hP hw hK hc i pins s σ H E I hf st hg
  subst hP hw hK
  obtain⟨es,hH,hn,hi⟩:=hg
  have ho:=iW I hH
  rw[hn]at ho
  obtain⟨f0,f1,f2,f3,f4,f5⟩:=hf it (by simp)
  exact next_end (I.ok.hd hc) st ho (by simpa using hn) (by simp;omega) λh' eb=>⟨rfl,I.turned (t':=s.toks) (λb o hb e=>eb b o hb e) f0 f1 f3 f4 f5⟩
 self:=λ_ _ _ _ _ st h=>aet st h
section
variable {X:Cx}{tg:Expr}
noncomputable def LN (tl:TE):TI:=λσ H R=>tl σ H λx H1=>∃a n c,x = .ref a/\(∃es,H1 a=some (dO a es c)/\es.length=n)/\(a == aa_)=false/\R (LM a n c) H1
theorem HU {l:Expr}{tl:TE}(hl:PE X l tl):PI X tg l (LN tl):=by
 intro pins s σ H R I h
 refine aX (hl pins s σ H _ I h) λv s1 ⟨x,H1,I1,r1,q1⟩=>?_
 obtain⟨a,n,c,e,⟨es,hH,hn⟩,hs,q⟩:=q1
 subst e
 cases r1
 have ho:=iW I1 hH
 refine u_ hs ho ?_
 refine⟨s1.heap.objs.size,[s1.heap.objs.size],_,_,H1,rfl,I1.kept (t':=s1.toks) λb o e=>Y6 _ e,A4 a _ n c,⟨_,Zg _ rfl,rfl,by simp[hn]⟩,λb hb=>?_,q⟩
 have e:b=s1.heap.objs.size:=by simpa using hb
 subst e
 exact I1.ox (Za _) (I1.bJ.fresh (Za _))
end
end L3
namespace L3
open PySem PySem.Spec PyProof.Rows L2
noncomputable def gj (nn L:Nat)(t:FG)(c:FT)(e:FE):Nat->Sg->G->Option (List D×G)
 | 0,_,g=>((g[nn]?).map aS).bind λxs=>if xs.length=L then some ([],g)else none
 |r+1,σ,g=>((g[nn]?).map aS).bind λxs=>if xs.length=L then(xs[L-(r+1)]?).bind λd=>(t d σ g).bind λq=>(c q.1 q.2).bind λk=>if k.1=true then(e q.1 k.2).bind λr'=>(gj nn L t c e r q.1 r'.2).bind λz=>some (r'.1::z.1,z.2)else gj nn L t c e r q.1 k.2 else none
noncomputable def za (K:KW)(J:It)(H:Hp)(ι:Ix)(nn L:Nat):Prop :=
 ∀(i:Nat) H1 ι1 g1,il H ι H1 ι1->az K H1 ι1 g1->∀xs,(g1[nn]?).map aS=some xs->xs.length=L->(L<=i->J.stop i H1) /\ ∀d,xs[i]? = some d->J.go i H1 /\ ∀x H2,J.ub i H1 x H2->Ext H1 ι1 H2 ι1/\az K H2 ι1 g1/\Rel K H2 ι1 d x
inductive LO (K:KW)(f:fS)(σ:L2.St)(H:Hp)(R:(It->Hp->Prop)):Prop
 |mk (ι:Ix) (σd:Sg) (g:G) (nn:Nat) (L:Nat) (g':G) (h0:az K H ι g) (h1:bR K H ι σd σ) (h2:f σd g=some (nn,L,g')) (h3:∀H' ι' J,Ext H ι H' ι'->az K H' ι' g'->za K J H' ι' nn L->R J H'):LO K f σ H R
structure EW (X:Cx)(tg iter:Expr)(f:fS):Prop where of ::
 un:PI X tg iter (LO X.kw f)
noncomputable def i6 (f:FE):fS:=λσ g=>(f σ g).bind λr=>match r.1 with|.aM n=>(r.2[n]?).bind λxs=>some (n,(aS xs).length,r.2)|_=>none
theorem va {K H ι}{xs:List D}{es:List ZE}(en:DK.Ent K H ι xs es):(aS xs).length=es.length:=by
 induction en with
 |nil=>rfl
 |cons _ _ _ _ _ _ _ ih=>simp[aS,ih]
theorem HV {xs:List D}:∀{i:Nat} {d:D},(aS xs)[i]? = some d->xs[2*i]? = some d:=by
 have:∀(n:Nat) (xs:List D),xs.length<=n->∀{i:Nat} {d:D},(aS xs)[i]? = some d->xs[2*i]? = some d:=λn=>by
  induction n with
  |zero=>intro xs h i d e;have:xs = []:=adQ.mp (by omega);subst this;simp[aS]at e
  |succ n ih =>
   intro xs h i d e
   match xs,h,e with
   | [],_,e=>simp[aS]at e
   | [x],_,e=>simp[aS]at e
   |k::v::r,h,e =>
    cases i with
    |zero=>simpa[aS]using e
    |succ i =>
     rw[show 2*(i+1)=2*i+1+1 by omega]
     simpa using ih r (by simp at h;omega) (by simpa[aS]using e)
 exact fun {i d} h=>this xs.length xs (Za _) h
theorem za.aM {K H ι a n L c}(h:dZ ι n a true)(hk:ι.kd n=c+1):za K (LM a L c) H ι n L:=λi H1 ι1 g1 e1 G1 xs hx hl=>by
 obtain⟨ys,hy,rfl⟩:=Zq.mp hx
 obtain⟨es,vs,c1,hH,j0,dI,mK,hh,nd,sy,sz,rl⟩:=G1.nV hy (e1.at h)
 rw[e1.lT n (Y7.mp h.1).1,hk]at j0
 cases j0
 have en:=DK.Ent.of mK hh rl
 have hlen:=va en
 refine⟨λh=>⟨es,hH,by omega,h⟩,λd hd=>?_⟩
 have hi:i<(aS ys).length:=(Y7.mp hd).1
 refine⟨⟨es,vs,hH,mK,by omega,by omega⟩,λx H2 y=>?_⟩
 obtain⟨rfl,y⟩:=y
 have:=y es vs hH mK
 obtain⟨v,hv,rv⟩:=rl.get (HV hd)
 rw[hv]at this
 cases this
 exact⟨Ext.refl,G1,rv⟩
theorem xy {X:Cx}{tg l:Expr}{fe:FE}(hl:DE X l fe):EW X tg l (i6 fe):=.of (PI.imp (HU hl.un) λσ H Q h=>by
 obtain⟨ι,σd,g,nn,L,g',G0,S0,h,p⟩:=h
 obtain⟨⟨d1,g1⟩,h1,h⟩:=bind_some h
 cases d1 with
 |aM n =>
  obtain⟨xs,hx,h⟩:=bind_some h
  cases h
  refine tD.bind G0 S0 h1 λH1 ι1 v e1 G1 S1 r1=>?_
  simp only[Rel]at r1
  obtain⟨a,rfl,ha⟩:=r1
  obtain⟨es,vs,c,hH,j0,dI,mK,hh,nd,sy,sz,rl⟩:=G1.nV hx ha
  have en:=DK.Ent.of mK hh rl
  exact⟨a,_,c,rfl,⟨es,hH,(va en).symm⟩,sy,p H1 ι1 _ e1 G1 (.aM ha j0)⟩
 |_=>cases h)
noncomputable def iX (mk:List D->G->Option (D×G))(fi:fS)(fr:List (Option Nat))(t:FG)(c:FT)(e:FE):FE:=λσ g=>(fi σ g).bind λr=>if aG r.2.1=true then(gj r.1 r.2.1 t c e r.2.1 (bL fr σ) r.2.2).bind λq=>mk q.1 q.2 else none
noncomputable def A5 (fi:fS):nY:=λσ g=>(fi σ g).map λr=>(λg=>(g[r.1]?).map aS,r.2.1,r.2.2)
theorem xA {X:Cx}{tg iter:Expr}{fi:fS}(h:EW X tg iter fi):uH X tg iter (A5 fi):=.of (PI.imp h.un λσ H Q q=>by
 obtain⟨ι,σd,g,sh,L,g',G0,S0,h2,p⟩:=q
 obtain⟨⟨nn,L1,g1⟩,h1,e⟩:=Zq.mp h2
 cases e
 exact⟨ι,σd,g,nn,L1,g1,G0,S0,h1,λH' ι' J e1 G1 J1=>p H' ι' J e1 G1 J1⟩)
theorem vb {nn L:Nat}{t:FG}{c:FT}{e:FE}:∀(k:Nat) (σ:Sg) (g:G),gj nn L t c e k σ g=cR (λg=>(g[nn]?).map aS) L t c e k σ g
 | 0,σ,g=>by simp only[gj,cR]
 |k+1,σ,g=>by simp only[gj,cR,vb k]
theorem C_ {mk:List D->G->Option (D×G)}{fi:fS}{fr:List (Option Nat)}{t:FG}{c:FT}{e:FE}:iX mk fi fr t c e=iS mk (A5 fi) fr t c e:=by
 funext σ g
 unfold iX iS A5
 cases fi σ g with
 |none=>rfl
 |some r=>simp only[Zb,ZP,vb]
section
variable {X:Cx}{tg iter elt:Expr}{ifs:List Expr}{scope:Scope}{pos fU:Pos}{N:List Str}{fr:List (Option Nat)}{fi:fS}{t:FG}{c:FT}{e:FE}
theorem Dd (je:X.xe=λ_ _=>False)(hc:X.calm=true)(ok:fF X N fr scope)(hit:EW X tg iter fi)(df:∀C s3 H fp pins,DG (bP X N scope C s3 H fp pins) tg t/\iA (bP X N scope C s3 H fp pins) ifs c/\DE (bP X N scope C s3 H fp pins) elt e)
  (hs:∀x,ZV iter X.env x=pure x:=by intro _;rfl):DE X (.ListComp elt [⟨tg,iter,ifs,0⟩] scope pos) (iX aY fi fr t c e):=by
 rw[C_];exact oC je hc ok (xA hit) df hs
end
section
variable {σ:Sg}{g:G}{fa:FE}
@[simp] theorem Vg:i6 fa σ g=(fa σ g).bind λr=>match r.1 with|.aM n=>(r.2[n]?).bind λxs=>some (n,(aS xs).length,r.2)|_=>none:=rfl
@[simp] theorem A6 {mk:List D->G->Option (D×G)}{fi:fS}{fr:List (Option Nat)}{t:FG}{c:FT}:iX mk fi fr t c fa σ g=(fi σ g).bind λr=>if aG r.2.1=true then(gj r.1 r.2.1 t c fa r.2.1 (bL fr σ) r.2.2).bind λq=>mk q.1 q.2 else none:=rfl
end
noncomputable def hV (nn L:Nat)(t:FG)(b:FS):Nat->FS
 | 0,σ,g=>((g[nn]?).map aS).bind λxs=>if xs.length=L then some (.nx,σ,g)else none
 |r+1,σ,g=>((g[nn]?).map aS).bind λxs=>if xs.length=L then(xs[L-(r+1)]?).bind λd=>(t d σ g).bind λq=>(b q.1 q.2).bind λr'=>match r'.1 with
   |.nx=>hV nn L t b r r'.2.1 r'.2.2
   |.ct=>hV nn L t b r r'.2.1 r'.2.2
   |.bk=>some (.nx,r'.2.1,r'.2.2)
   |.rt d=>some (.rt d,r'.2.1,r'.2.2)
  else none
noncomputable def j5 (fi:fS)(t:FG)(b:FS):FS:=λσ g=>(fi σ g).bind λr=>hV r.1 r.2.1 t b r.2.1 σ r.2.2
theorem xB {nn L:Nat}{t:FG}{b:FS}:∀(k:Nat) (σ:Sg) (g:G),hV nn L t b k σ g=gv (λg=>(g[nn]?).map aS) L t b k σ g
 | 0,σ,g=>by simp only[hV,gv]
 |k+1,σ,g=>by simp only[hV,gv,xB k]<;>rfl
theorem HW {fi:fS}{t:FG}{b:FS}:j5 fi t b=pD (A5 fi) t b:=by
 funext σ g
 unfold j5 pD A5
 cases fi σ g with
 |none=>rfl
 |some r=>simp only[Zb,ZP,xB]
theorem HY {X:Cx}{tg:Expr}{pos:Pos}{iter:Expr}{body:List Stmt}{fi:fS}{t:FG}{b:FS}(hp:acD (model X.prog X.w) X.A X.env X.xe)(hc:X.calm=true)(hi:EW X tg iter fi)(hg:DG X tg t)(hb:jW X body b)
  (hs:∀x,ZV iter X.env x=pure x:=by intro _;rfl):DS X (.For tg iter body [] pos) (j5 fi t b):=by
 rw[HW];exact w9 hp hc (xA hi) hg hb hs
theorem De {fi:fS}{t:FG}{b:FS}{σ:Sg}{g:G}:j5 fi t b σ g=(fi σ g).bind λr=>hV r.1 r.2.1 t b r.2.1 σ r.2.2:=rfl
noncomputable def sN:Bool->String
 |true=>"list"
 |false=>"tuple"
noncomputable def iN:Bool->String
 |true=>"list_iterator"
 |false=>"tuple_iterator"
noncomputable def LP (κ:Bool)(h:Heap)(a:Addr)(xs:Array Value):Prop:=∃o,h.get? a=some o/\o.cls = .type (sN κ) /\ ∃n,o.data = .seq xs n
noncomputable def LQ (κ:Bool)(h:Heap)(j a:Addr)(i:Nat):Prop:=∃o,h.get? j=some o/\o.cls = .type (iN κ)/\o.data = .fields #[.ref a,.int i 0]
theorem LP.extBut {κ:Bool}{h h':Heap}{a b items}(x:LP κ h a items)(hs:adY b h h')(K3:a≠b):LP κ h' a items:=let⟨o,ho,r⟩:=x;⟨o,hs a o K3 ho,r⟩
theorem LQ.at {κ:Bool}{h h':Heap}{j a i}(x:LQ κ h j a i)(k:∀o,h.get? j=some o->h'.get? j=some o):LQ κ h' j a i:=let⟨o,ho,r⟩:=x;⟨o,k o ho,r⟩
noncomputable def vc (K:PySem.W.Frag):Bool->Hp->Addr->List V->Prop
 |true=>dq K
 |false=>dP K
noncomputable def Sv (K:PySem.W.Frag)(κ1 κ2:Bool)(a b:Addr):It :=
 ⟨λi H=>∃xs ys x y,vc K κ1 H a xs/\vc K κ2 H b ys/\xs[i]? = some x/\ys[i]? = some y,λi H x H'=>∃T v u,x = .ref T/\H T=none/\H'=upd H T (.tup [v,u]) /\ ∀xs ys,vc K κ1 H a xs->vc K κ2 H b ys->xs[i]? = some v/\ys[i]? = some u,
  λi H=>∃xs ys,vc K κ1 H a xs/\vc K κ2 H b ys/\(xs.length<=i\/ys.length<=i)⟩
noncomputable abbrev VW:=G->Option (List D)
noncomputable abbrev Qs:=Sg->G->Option (VW×Nat×G)
noncomputable def zb (K:KW)(J:It)(H:Hp)(ι:Ix)(vw:VW)(L:Nat):Prop :=
 ∀(i:Nat) H1 ι1 g1,il H ι H1 ι1->az K H1 ι1 g1->∀xs,vw g1=some xs->xs.length=L->(L<=i->J.stop i H1) /\ ∀d,xs[i]? = some d->J.go i H1 /\ ∀x H2,J.ub i H1 x H2->Ext H1 ι1 H2 ι1/\az K H2 ι1 g1/\Rel K H2 ι1 d x
inductive LR (K:KW)(f:Qs)(σ:L2.St)(H:Hp)(R:(It->Hp->Prop)):Prop
 |mk (ι:Ix) (σd:Sg) (g:G) (vw:VW) (L:Nat) (g':G) (h0:az K H ι g) (h1:bR K H ι σd σ) (h2:f σd g=some (vw,L,g')) (h3:∀H' ι' J,Ext H ι H' ι'->az K H' ι' g'->zb K J H' ι' vw L->R J H'):LR K f σ H R
structure Yz (X:Cx)(tg iter:Expr)(f:Qs):Prop where of ::
 un:PI X tg iter (LR X.kw f)
noncomputable def zc (vw:VW)(L:Nat)(t:FG)(b:FS):Nat->FS
 | 0,σ,g=>(vw g).bind λxs=>if xs.length=L then some (.nx,σ,g)else none
 |r+1,σ,g=>(vw g).bind λxs=>if xs.length=L then(xs[L-(r+1)]?).bind λd=>(t d σ g).bind λq=>(b q.1 q.2).bind λr'=>match r'.1 with
   |.nx=>zc vw L t b r r'.2.1 r'.2.2
   |.ct=>zc vw L t b r r'.2.1 r'.2.2
   |.bk=>some (.nx,r'.2.1,r'.2.2)
   |.rt d=>some (.rt d,r'.2.1,r'.2.2)
  else none
section
variable {X:Cx}{tg:Expr}{pos:Pos}
inductive Pc (X:Cx)(t:FG)(b:FS)(vw:VW)(L:Nat)(H1:Hp)(ι1:Ix)(r:F)(b5:Sg)(g':G)(i:Nat)(σ2:L2.St)(H2:Hp):Prop
 |mk (ι2:Ix) (lU:Sg) (g2:G) (e2:Ext H1 ι1 H2 ι2) (G2:az X.kw H2 ι2 g2) (S2:bR X.kw H2 ι2 lU σ2) (hf:zc vw L t b (L-i) lU g2=some (r,b5,g')):Pc X t b vw L H1 ι1 r b5 g' i σ2 H2
end
noncomputable def Df:D->Option (Bool×VW)
 |.lst xs=>some (true,λ_=>some xs)
 |.tup xs=>some (false,λ_=>some xs)
 |.ref n=>some (true,λg=>g[n]?)
 |_=>none
noncomputable def Sw (v w:VW):VW:=λg=>(v g).bind λxs=>(w g).map λys=>C5 xs ys
theorem EX {K H ι d x κ v}(r:Rel K H ι d x)(h:Df d=some (κ,v)){H1 ι1 g1}(e:il H ι H1 ι1)(G1:az K H1 ι1 g1){xs:List D}(hv:v g1=some xs):∃a vs,x = .ref a/\vc K.fr κ H1 a vs/\aj K H1 ι1 xs vs:=by
 cases d with
 |lst ys =>
  cases h
  cases hv
  simp only[Rel]at r
  obtain⟨a,vs,rfl,hq,hr⟩:=r
  exact⟨a,vs,rfl,(hq.eu e).sq,aj.eu e _ hr⟩
 |tup ys =>
  cases h
  cases hv
  simp only[Rel]at r
  obtain⟨a,vs,rfl,hq,hr⟩:=r
  exact⟨a,vs,rfl,(hq.eu e).sq,aj.eu e _ hr⟩
 |ref n =>
  cases h
  simp only[Rel]at r
  obtain⟨a,rfl,ha⟩:=r
  obtain⟨vs,hH,hr⟩:=G1.at hv (e.at ha)
  exact⟨a,vs,rfl,.inl (.inl hH),hr⟩
 |_=>cases h
theorem zb.zip {K H ι a b d1 d2 κ1 κ2 v w L}(r1:Rel K H ι d1 (.ref a))(h1:Df d1=some (κ1,v))(r2:Rel K H ι d2 (.ref b))(h2:Df d2=some (κ2,w)):zb K (Sv K.fr κ1 κ2 a b) H ι (Sw v w) L:=λi H1 ι1 g1 e1 G1 zs hz hl=>by
 obtain⟨xs,hx,hz⟩:=bind_some hz
 obtain⟨ys,hy,hz⟩:=Zq.mp hz
 subst hz
 obtain⟨_,vs,e,hq,hr⟩:=EX r1 h1 e1 G1 hx
 cases e
 obtain⟨_,us,e,mE,jZ⟩:=EX r2 h2 e1 G1 hy
 cases e
 refine⟨λhi=>⟨vs,us,hq,mE,by
  have LS:min xs.length ys.length=L:=by simpa[C5]using hl
  rw[<- hr.length,<- jZ.length];omega⟩,λd hd=>?_⟩
 unfold C5 at hd
 rw[ZS]at hd
 cases hx:(xs.zip ys)[i]? with
 |none=>rw[hx]at hd;cases hd
 |some pr =>
  obtain⟨d0,d1⟩:=pr
  rw[hx]at hd
  simp only[ZP,aai]at hd
  subst hd
  rw[List.getElem?_zip_eq_some]at hx
  obtain⟨v,hv,rv⟩:=hr.get hx.1
  obtain⟨u,hu,ru⟩:=jZ.get hx.2
  refine⟨⟨vs,us,v,u,hq,mE,hv,hu⟩,λx H2 y=>?_⟩
  obtain⟨T,v',u',rfl,hn,rfl,hy⟩:=y
  obtain⟨y1,y2⟩:=hy vs us hq mE
  rw[hv]at y1
  rw[hu]at y2
  cases y1
  cases y2
  refine⟨Ext.lay hn,G1.lay hn,?_⟩
  simp only[Rel]
  refine⟨T,_,rfl,.inl ⟨.inl bA,G1.fresh hn⟩,?_⟩
  simp only[aj]
  exact⟨_,_,rfl,Rel.ext (Ext.lay hn) _ rv,_,_,rfl,Rel.ext (Ext.lay hn) _ ru,rfl⟩
end L3
namespace RI
open PySem PySem.Spec PyProof.Rows L2 L3
structure G0 where
 T:Nat->Fn
 k:Nat
 fns:List (Str×Nat×Nat)
 jf:List Str
 vd:List (Str×D)
 xC:List (Str×List (Str×D))
structure Cs where
 N:List Str
 sc:Scope
 all:Bool
 mt:List Str
 own:List Str
inductive A7 (m:G0)(X:Cx)(x:Str)(i n:Nat):Prop
 |mk (f:Addr) (fd:aae) (ps:List Str) (ok:dN X.prog X.w X.K X.mg X.base i_ m.k f fd ps (mw X.kw n (m.T i))) (hm:X.mg x=some (.ref f)) (kp:PySem.W.keepIn X.K (.ref f)=true) (b:Binds X.K fd ps []) (ln:∀ds g r,m.T i ds g=some r->ds.length=n):A7 m X x i n
structure Gd (m:G0)(c:Cs)(X:Cx):Prop where
 hN:X.N=c.N
 hs:X.env.scope=c.sc
 nd:c.N.Nodup
 xe:X.xe=λ_ _=>False
 cm:X.calm=true
 rm:aO m.k X.A
 al:c.all=true->∀x,X.fn x=true
 ow:∀x∈c.own,X.fn x=true
 fn:∀x i n,(x,i,n)∈m.fns->A7 m X x i n
 bl:∀x∈m.jf,X.mg x=none
 cn:∀x d,(x,d)∈m.vd->∃v u,X.mg x=some u/\RelV v u /\ ∀K H ι,Rel K H ι d v
 dc:∀x t,(x,t)∈m.xC->∃a,X.mg x=some (.ref a)/\tG X.w X.kw a t
noncomputable def mM:FT:=λ_ _=>none
noncomputable def pP:FA:=λ_ _=>none
noncomputable def dy:FS:=λ_ _=>none
noncomputable def pQ:FI:=λ_ _=>none
noncomputable def pR:FG:=λ_ _ _=>none
section
variable {X:Cx}
theorem qQ {e:Expr}:DT X e mM:=.of (λpins s σ H Q I h=>by obtain⟨_,_,_,_,_,_,_,h,_⟩:=h;cases h)
theorem qR {es:List Expr}:DA X es pP:=.of (λ_ pins s σ H Q I h=>by obtain⟨_,_,_,_,_,_,_,h,_⟩:=h;cases h)
theorem cT {e:Stmt}:DS X e dy:=.of (λpins s σ H Q I h=>by obtain⟨_,_,_,_,_,_,_,_,h,_⟩:=h;cases h)
theorem qS {tg e:Expr}:DI X tg e pQ:=.of (λpins s σ H Q I h=>by obtain⟨_,_,_,_,_,_,_,h,_⟩:=h;cases h)
theorem iD {e:Expr}:DG X e pR:=.of (λpins s σ H v u Q I r h=>by obtain⟨_,_,_,_,_,_,_,_,_,h,_⟩:=h;cases h)
end
noncomputable def isStar:Expr->Bool
 |.Starred ..=>true
 |_=>false
noncomputable def isSet:Expr->Bool
 |.Set ..=>true
 |_=>false
noncomputable def zd:Expr->Bool
 |.Slice ..=>true
 |_=>false
noncomputable def pS:Expr->Bool
 |.ListComp ..=>true
 |.SetComp ..=>true
 |.DictComp ..=>true
 |_=>false
noncomputable def Pe:Expr->Bool
 |.List ..=>true
 |_=>false
noncomputable def pT:Expr->Bool
 |.Tuple ..=>true
 |_=>false
noncomputable def xD:Expr->Bool
 |.Call (.Name _ _) [] [] _=>true
 |_=>false
noncomputable def ve:Expr->Bool
 |.UnaryOp .Not _ _=>false
 |.BoolOp ..=>false
 |.IfExp ..=>false
 |.Compare ..=>false
 |_=>true
noncomputable def Pf:Expr->Bool
 |.Name ..=>true
 |.Subscript ..=>true
 |.Constant ..=>true
 |_=>false
theorem b6 {e:Expr}{es:List Expr}{env:Env}(h:isStar e=false):Zv (e::es) env=(false,eval e env)::Zv es env:=by
 cases e<;>first|rfl|cases h
theorem marks {op:CmpOp}{e:Expr}(h:isSet e=false):abD op e=false:=by
 cases e<;>first|rfl|cases h
theorem plainT {e:Expr}{env:Env}(h:ve e=true):∀whole,isTrue e env whole=(do let v <- whole;ad5 e.pos;abS [v] (truthy v)):=by
 intro whole
 cases e with
 |UnaryOp op a p=>cases op<;>first|rfl|cases h
 |_=>first|rfl|cases h
theorem HZ {e:Expr}(h:zd e=false):qC e:=by
 intro o i
 cases e<;>first|rfl|cases h
theorem baseOk {e:Expr}{x:Str}{env:Env}(h:xD e=false):adj e x env (eval e env)=eval e env:=by
 unfold adj
 split
 . cases h
 . rfl
theorem vf {e:Expr}{t:Option Expr}{l:Nat}{env:Env}(h:pS e=false):abY e t l env=pure false:=by
 cases e<;>first|rfl|cases h
theorem lB {e:Expr}{env:Env}(h:isSet e=false):∀x,ZV e env x=pure x:=by
 intro x
 cases e<;>first|rfl|cases h
theorem nB {es:List Expr}{env:Env}{pos:Pos}(h:es.any isStar=false):(abw pos (Zv es env)).any (·.1)=false:=by
 induction es with
 |nil=>rfl
 |cons e es ih =>
  rw[aak,aan]at h
  rw[b6 h.1]
  show(false||(abw pos (Zv es env)).any (·.1))=false
  rw[ih h.2];rfl
theorem Dg {es:List Expr}{env:Env}{pos:Pos}(h:es.any isStar=false):(abw pos (Zv es env)).all (λx=>!x.1)=true:=by
 induction es with
 |nil=>rfl
 |cons e es ih =>
  rw[aak,aan]at h
  rw[b6 h.1]
  show(true&&(abw pos (Zv es env)).all (λx=>!x.1))=true
  rw[ih h.2];rfl
noncomputable def i7:List Str->Str->Option Nat
 | [],_=>none
 |y::N,x=>if y == x then some 0 else(i7 N x).map (· + 1)
theorem eV:∀{N:List Str} {x:Str} {i:Nat},i7 N x=some i->N[i]? = some x
 | [],_,_,h=>by cases h
 |y::N,x,i,h=>by
  unfold i7 at h
  split at h
  . rename_i e
    cases h
    simp[eq_of_beq e]
  . obtain⟨j,hj,rfl⟩:=Zq.mp h
    simpa using eV hj
theorem lookup_mem {α:Type}:∀{l:List (Str×α)} {x:Str} {a:α},l.lookup x=some a->(x,a)∈l
 | [],_,_,h=>by cases h
 | (y,b)::l,x,a,h=>by
  rw[ZQ]at h
  split at h
  . rename_i e
    cases h
    rw[eq_of_beq e];exact Zp
  . exact Zs _ (lookup_mem h)
noncomputable def nC (x:Str):Bool:=x == ("__debug__":Str)||x == ("__classdict__":Str)||x == ("__name__":Str)
theorem A8 {x:Str}(h:nC x=false):(x == ("__debug__":Str))=false/\(x == ("__classdict__":Str))=false/\x ≠ "__name__":=by
 simp only[nC,aan]at h
 exact⟨h.1.1,h.1.2,λe=>by have:=h.2;rw[e]at this;simp at this⟩
structure gw where
 nm:Str
 fn:Fn
 ok:∀{X:Cx} {k:Nat},aO k X.A->X.calm=true->(∃id,cA X (.builtin id) (ik X.kw fn)/\aaK nm=some (.builtin id))\/(∃T,cA X (.type T) (ik X.kw fn)/\aaK nm=some (.type T))
structure pU where
 nm:Str
 iq:D->Bool
 m:D->List D->G->Option (D×G)
 ok:∀{X:Cx} {k:Nat},aO k X.A->∃T id,MR X T nm id iq m
noncomputable def aE (E:Expr->FE):List Expr->FA
 | []=>ag
 |e::es=>if isStar e then pP else aa (E e) (aE E es)
structure ze where
 nm:Str
 tup:Bool
 f:(Expr->FE)->List Expr->FI
 ok:∀{X:Cx} {k:Nat} {E:Expr->FE} {tg:Expr} {as:List Expr} {p pos:Pos},aO k X.A->X.calm=true->X.mg nm=none->Gl X nm->(∀e,DE X e (E e))->as.any isStar=false->(tup=true->pT tg=true)->DI X tg (.Call (.Name nm p) as [] pos) (f E as)
structure nD where
 e:G0->Cs->(Expr->FE)->Bool->Expr->Option FE
 xF:∀{m:G0} {c:Cs} {X:Cx} {E:Expr->FE},Gd m c X->(∀e,DE X e (E e))->∀{rf x f},e m c E rf x=some f->DE X x f
 t:G0->Cs->(Expr->FE)->Expr->Option FT
 tok:∀{m:G0} {c:Cs} {X:Cx} {E:Expr->FE},Gd m c X->(∀e,DE X e (E e))->∀{x f},t m c E x=some f->DT X x f
structure Pk where
 bl:List gw
 br:List gw
 mt:List pU
 it:List ze
 xr:List nD
noncomputable def A9:Const->FE
 |.int i=>fC (.int i)
 |.str x=>fC (.str x)
 |.bool b=>fC (.bl b)
 |.none=>fC .aA
 |_=>ck
noncomputable def EY:Option aa6->Bool
 |some .local=>true
 |some .cell=>true
 |some .free=>true
 |_=>false
noncomputable def eName (m:G0)(c:Cs)(x:Str):FE :=
 if nC x then ck else
 match EY (c.sc.names.lookup x),i7 c.N x with
 |true,some i=>af i
 |true,none=>ck
 |false,_=>if c.sc.names.lookup x=some .globalImplicit then(match m.vd.lookup x with|some d=>fC d|none=>match m.fns.lookup x with|some _=>fC (.fn x)|none=>ck)else ck
noncomputable def LU (op:Operator)(rf ls:Bool)(fa fb:FE):FE:=match op with
 |.Add=>aq aV fa fb
 |.Sub=>aq (aR bp (· - ·)) fa fb
 |.Mult=>aq bU fa fb
 |.FloorDiv=>aq (aR fN (· / ·)) fa fb
 |.Mod=>aq (aR cY (· % ·)) fa fb
 |.Pow=>aq (aR cM (λi j=>i ^ j.toNat)) fa fb
 |.LShift=>aq (aR cM (λi j=>i*2 ^ j.toNat)) fa fb
 |.BitAnd=>aq (aR bp ZJ) fa fb
 |.BitOr=>aq (aR bp abC) fa fb
 |_=>ck
noncomputable def Qt (op:UnaryOp)(fa:FE):FE:=match op with
 |.USub=>mr jG fa
 |.Not=>jn fa
 |_=>ck
noncomputable def bE (E:Expr->FE)(g:Bool)(op:BoolOp):List Expr->FE
 | []=>ck
 | [a]=>E a
 |a::b::r=>match op with
  |.And=>dA (E a) (bE E g .And (b::r))
  |.Or=>mv (E a) (bE E g .Or (b::r))
noncomputable def EZ:CmpOp->D->D->G->Option (D×G)
 |.Lt=>oLt
 |.LtE=>oLe
 |.Gt=>xf
 |.GtE=>AH
 |.Eq=>oEq
 |.NotEq=>gZ
 |.Is=>xk
 |.IsNot=>cF
 |.In=>hJ
 |.NotIn=>gK
noncomputable def qT (E:Expr->FE)(l:Expr):List CmpOp->List Expr->FE
 | [op],[b]=>if isSet b then ck else aq (EZ op) (E l) (E b)
 | [op,cu],[b,d]=>if isSet d then ck else gU (EZ op) (EZ cu) (E l) (E b) (E d)
 |_,_=>ck
noncomputable def pE (E:Expr->FE):Option Expr->FO
 |none=>cN
 |some e=>cC (E e)
noncomputable def Dh (E:Expr->FE)(v:Expr):Expr->FE
 |.Slice lo hi none _=>dX (E v) (pE E lo) (pE E hi)
 |.Slice lo hi (some st) _=>oG (E v) (pE E lo) (pE E hi) (cC (E st))
 |s=>aq ay (E v) (E s)
noncomputable def zf (m:G0)(P:Pk)(c:Cs)(rf:Bool)(E:Expr->FE)(f:Expr)(as:List Expr)(pos:Pos):FE:=match f with
 |.Name x _=>if nC x||as.any isStar then ck else if c.sc.names.lookup x=some .globalImplicit then
   (match m.fns.lookup x with
   |some (i,_)=>ao (m.T i) (aE E as)
   |none=>if as.isEmpty || !(m.jf.elem x)then ck else match(if rf then P.br else P.bl).find? (λr=>r.nm == x)with
    |some r=>ao r.fn (aE E as)
    |none=>ck)
  else ck
 |.Attribute o x ap=>if xD o||as.any isStar || !(ap.endLine == pos.line) || !(decide (as.length<29))then ck else match P.mt.find? (λr=>r.nm == x)with
  |some r=>cq r.iq r.m (E o) (aE E as)
  |none=>ck
 |_=>ck
section
variable {m:G0}{c:Cs}{X:Cx}{E:Expr->FE}
theorem Gd.hu (g:Gd m c X):X.A.units+64<cLine:=g.rm.units
theorem Gd.gl (g:Gd m c X){x:Str}(h:c.sc.names.lookup x=some .globalImplicit):Gl X x:=by
 show X.env.scope.names.lookup x=_
 rw[g.hs];exact h
theorem hW (hE:∀e,DE X e (E e)):∀es:List Expr,DA X es (aE E es)
 | []=>uy
 |e::es=>by
  unfold aE
  split
  . exact qR
  . rename_i h
    exact nj (hE e) (hW hE es) (b6 (by simpa using h))
theorem A_ {v:Const}{j:Nat}{p:Pos}:DE X (.Constant v j p) (A9 v):=by
 cases v with
 |int i=>exact Kn
 |str x=>exact Ko
 |bool b=>exact OJ
 |none=>exact Kp
 |_=>exact bY
theorem Di (g:Gd m c X){x:Str}{p:Pos}:DE X (.Name x p) (eName m c x):=by
 unfold eName
 split
 . exact bY
 rename_i ho
 obtain⟨o1,o2,_⟩:=A8 (by simpa using ho)
 split
 . rename_i i hv hi
   refine Kq i (by rw[g.hN];exact eV hi) ?_ o1 o2
   rw[g.hs]
   unfold EY at hv
   split at hv
   . rename_i e;exact .inl e
   . rename_i e;exact .inr (.inl e)
   . rename_i e;exact .inr (.inr e)
   . cases hv
 . exact bY
 . split
   . rename_i hg
     split
     . rename_i d hd
       obtain⟨v,u,h1,h2,h3⟩:=g.cn x d (lookup_mem hd)
       exact Hf (g.gl hg) h1 h2 h3 o1
     . split
       . rename_i y hy
         obtain⟨i,n⟩:=y
         obtain⟨f,fd,ps,_,hm,_⟩:=g.fn x i n (lookup_mem hy)
         exact .of (PE.imp (wO (v:=.ref f) (g.gl hg) hm rfl o1) λσ H Q h=>by
          obtain⟨ι,σd,g1,d,g',G0,S0,h,p⟩:=h
          cases h
          exact p H ι _ Ext.refl G0 (by simp only[Rel];exact⟨f,rfl,hm⟩))
       . exact bY
   . exact bY
theorem H0 {op:Operator}{rf ls:Bool}{a b:Expr}{p:Pos}{fa fb:FE}(ha:DE X a fa)(hb:DE X b fb):DE X (.BinOp a op b p) (LU op rf ls fa fb):=by
 cases op<;>first|exact bY|skip
 . exact jm Li ha hb
 . exact jm KZ ha hb
 . exact jm Lg ha hb
 . exact jm K0 ha hb
 . exact jm K1 ha hb
 . exact jm Lx ha hb
 . exact jm Pb ha hb
 . exact jm Ly ha hb
 . exact jm Hu ha hb
theorem LV {op:UnaryOp}{a:Expr}{p:Pos}{fa:FE}(ha:DE X a fa):DE X (.UnaryOp op a p) (Qt op fa):=by
 cases op with
 |USub=>exact OK K2 ha
 |Not=>exact Ky ha
 |_=>exact bY
theorem E2 (hE:∀e,DE X e (E e)){gf:Bool}{op:BoolOp}{p:Pos}:∀es:List Expr,DE X (.BoolOp op es p) (bE E gf op es)
 | []=>bY
 | [a]=>Kx (hE a)
 |a::b::r=>by
  have ih:=E2 hE (gf:=gf) (op:=op) (p:=p) (b::r)
  cases op<;>cases gf
  . exact Aq (hE a) ih
  . exact Aq (hE a) ih
  . exact Ez (hE a) ih
  . exact Ez (hE a) ih
theorem kP (hu:X.A.units+64<cLine):∀op:CmpOp,bz X (ZF op) (cG X.kw (EZ op))
 |.Lt=>OR
 |.LtE=>OS
 |.Gt=>OT
 |.GtE=>OU
 |.Eq=>OW hu
 |.NotEq=>Ls hu
 |.Is=>O0
 |.IsNot=>HF
 |.In=>LF hu
 |.NotIn=>A3 hu
theorem H_ (hu:X.A.units+64<cLine)(hE:∀e,DE X e (E e)){l:Expr}{ops:List CmpOp}{rs:List Expr}{p:Pos}:DE X (.Compare l ops rs p) (qT E l ops rs):=by
 unfold qT
 split
 . split
   . exact bY
   . rename_i h
     exact Ao (kP hu _) (hE _) (hE _) (marks (by simpa using h))
 . split
   . exact bY
   . rename_i h
     exact CG (kP hu _) (kP hu _) (hE _) (hE _) (hE _) (by show abD _ _=false;exact marks (by simpa using h))
 . exact bY
theorem Ia (hu:X.A.units+64<cLine)(hE:∀e,DE X e (E e)){l:Expr}{ops:List CmpOp}{rs:List Expr}{p:Pos}:DT X (.Compare l ops rs p) (aH (qT E l ops rs)):=by
 have none_:DT X (.Compare l ops rs p) (aH ck):=.of (λpins s σ H Q I h=>by obtain⟨_,_,_,_,_,_,_,h,_⟩:=h;cases h)
 unfold qT
 split
 . split
   . exact none_
   . rename_i h
     exact Ap (kP hu _) (hE _) (hE _) (marks (by simpa using h))
 . split
   . exact none_
   . rename_i h
     exact CH (kP hu _) (kP hu _) (hE _) (hE _) (hE _) (by show abD _ _=false;exact marks (by simpa using h))
 . exact none_
theorem tJ (hE:∀e,DE X e (E e)):∀o:Option Expr,DO X o (pE E o)
 |none=>HB
 |some e=>xc (hE e)
theorem Ib (hu:X.A.units+64<cLine)(hE:∀e,DE X e (E e)){v s:Expr}{p:Pos}:DE X (.Subscript v s p) (Dh E v s):=by
 unfold Dh
 split
 . exact AX (hE _) (tJ hE _) (tJ hE _)
 . exact AS (hE _) (tJ hE _) (tJ hE _) (xc (hE _))
 . rename_i h1 h2
   refine LD hu (hE _) (hE _) (HZ ?_)
   cases s with
   |Slice lo hi st q =>
    cases st with
    |none=>exact absurd rfl (h1 _ _ _)
    |some e=>exact absurd rfl (h2 _ _ _ _)
   |_=>rfl
theorem Dj (P:Pk){rf:Bool}(g:Gd m c X)(hE:∀e,DE X e (E e)){f:Expr}{as:List Expr}{pos:Pos}:DE X (.Call f as [] pos) (zf m P c rf E f as pos):=by
 unfold zf
 split
 . rename_i x p
   split
   . exact bY
   rename_i h
   simp only[ZR,not_or,ab3]at h
   obtain⟨o1,o2,o3⟩:=A8 h.1
   have cU:=h.2
   split
   . rename_i hg
     split
     . rename_i i n hf
       obtain⟨fa,fd,ps,ok,hm,kp,b,ln⟩:=g.fn x i n (lookup_mem hf)
       cases as with
       |nil=>exact CO ok g.rm hm kp b ln (g.gl hg) o1
       |cons e es =>
         rw[aak,aan]at cU
         exact Hq ok g.rm hm kp b ln (hW hE _) (g.gl hg) o1 (b6 cU.1) (nB cU.2)
     . split
       . exact bY
       rename_i hb
       simp only[ZR,not_or,ab3,aeW,Zx]at hb
       split
       . rename_i r hr
         have hn:r.nm=x:=by have:=acf hr;exact eq_of_beq this
         have hx:x∈m.jf:=abm.mp (by simpa using hb.2)
         cases as with
         |nil=>simp at hb
         |cons e es =>
          rw[aak,aan]at cU
          rcases r.ok g.rm g.cm with⟨id,h1,h2⟩|⟨T,h1,h2⟩
          . rw[hn]at h2
            exact CP h1 (g.bl x hx) h2 (hW hE _) (g.gl hg) o3 o1 (b6 cU.1) (nB cU.2)
          . rw[hn]at h2
            exact Ax h1 (g.bl x hx) h2 (hW hE _) (g.gl hg) o3 o1 (b6 cU.1) (nB cU.2)
       . exact bY
   . exact bY
 . rename_i o x ap
   split
   . exact bY
   rename_i h
   simp only[ZR,not_or,ab3,Zx,aeW,decide_eq_false_iff_not,Classical.not_not]at h
   obtain⟨⟨⟨h1,h2⟩,h3⟩,h4⟩:=h
   split
   . rename_i r hr
     have hn:r.nm=x:=by have:=acf hr;exact eq_of_beq this
     obtain⟨T,id,R⟩:=r.ok g.rm
     rw[hn]at R
     cases as with
     |nil=>exact HR R (hE o) (baseOk h1) (by simpa using h3)
     |cons e es =>
       rw[aak,aan]at h2
       refine LH R (hE o) (hW hE _) (baseOk h1) ?_ (by simpa using h3) (b6 h2.1) (nB h2.2)
       rw[Dg (by rw[aak,h2.1,h2.2];rfl)]
       have h5:decide ((e::es).length+([]:List ae7).length+(if([]:List ae7).isEmpty then 0 else 1)<30)=true:=by simp at h4 ⊢;omega
       rw[h5];rfl
   . exact bY
 . exact bY
end
noncomputable def vg (c:Cs)(x:Str):Option Nat:=match c.sc.names.lookup x with
 |some .local=>i7 c.N x
 |some .cell=>if c.all||c.own.elem x then i7 c.N x else none
 |_=>none
noncomputable def Dk (f:Expr->FG):List Expr->nX
 | []=>aP
 |e::es=>au (f e) (Dk f es)
noncomputable def jg (c:Cs)(E:Expr->FE):Nat->Expr->FG
 |_,.Name x _=>match vg c x with|some i=>gN i|none=>pR
 |_,.Subscript o i _=>if zd i then pR else eU (E o) (E i)
 |n+1,.Tuple es _ _=>if es.any isStar then pR else gT es.length (Dk (jg c E n) es)
 |_,_=>pR
section
variable {m:G0}{c:Cs}{X:Cx}{E:Expr->FE}
theorem nE (g:Gd m c X){x:Str}{i:Nat}(h:vg c x=some i):X.N[i]? = some x/\Loc X.env.scope x/\(X.fn x=true\/X.env.scope.names.lookup x=some .local):=by
 unfold vg at h
 rw[g.hN,g.hs]
 split at h
 . rename_i e;exact⟨eV h,.inl e,.inr e⟩
 . rename_i e
   split at h
   . rename_i ha
     rw[ZR]at ha
     exact⟨eV h,.inr e,.inl (ha.elim (λha=>g.al ha x) λha=>g.ow x (abm.mp ha))⟩
   . cases h
 . cases h
theorem Gd.sG (g:Gd m c X):X.N.Nodup:=by rw[g.hN];exact g.nd
theorem oI {e:Expr}{es:List Expr}{env:Env}(h:isStar e=false):aaw (e::es) env=(false,ab6 e env)::aaw es env:=by
 cases e<;>first|rfl|cases h
theorem xG {es:List Expr}{env:Env}(h:es.any isStar=false):(aaw es env).length=es.length/\(aaw es env).findIdx? (·.1)=none:=by
 induction es with
 |nil=>exact⟨rfl,rfl⟩
 |cons e es ih =>
  rw[aak,aan]at h
  obtain⟨a,b⟩:=ih h.2
  rw[oI h.1]
  exact⟨by simp[a],by rw[List.findIdx?_cons,b];rfl⟩
theorem xH {o i:Expr}{pos:Pos}{env:Env}(h:zd i=false):∀v,ab6 (.Subscript o i pos) env v=(do
  let ov <- abS [v] (eval o env)
  let iv <- abS [v,ov] (eval i env)
  ad5 pos
  abS [v,ov,iv] (ae6 ov iv v)
  release [v,ov,iv] []):=by
 intro v
 cases i<;>first|rfl|cases h
theorem kQ (g:Gd m c X)(hE:∀e,DE X e (E e)):∀(n:Nat) (e:Expr),DG X e (jg c E n e):=by
 intro n
 induction n with
 |zero =>
  intro e
  unfold jg
  split
  . split
    . rename_i i h;obtain⟨a,b,d⟩:=nE g h;exact w4 g.sG a b d
    . exact iD
  . split
    . exact iD
    . rename_i h;exact xx g.hu (hE _) (hE _) (xH (by simpa using h))
  . rename_i h;cases h
  . exact iD
 |succ n ih =>
  intro e
  unfold jg
  split
  . split
    . rename_i i h;obtain⟨a,b,d⟩:=nE g h;exact w4 g.sG a b d
    . exact iD
  . split
    . exact iD
    . rename_i h;exact xx g.hu (hE _) (hE _) (xH (by simpa using h))
  . rename_i n' es kt tp hn
    cases hn
    split
    . exact iD
    . rename_i hs
      have hs:es.any isStar=false:=by simpa using hs
      have hg:∀es:List Expr,es.any isStar=false->Au X es (Dk (jg c E n) es):=λes=>by
       induction es with
       |nil=>exact λ_=>Hm
       |cons e es Wx =>
        intro h
        rw[aak,aan]at h
        exact CM (ih e) (Wx h.2) (by rw[oI h.1];rfl)
      have hg:=hg es hs
      exact KI g.cm hg (xG hs).1 (xG hs).2
  . exact iD
end
noncomputable def Ba (m:G0)(P:Pk)(c:Cs)(E:Expr->FE)(tg:Expr)(it:Expr):FI:=match it with
 |.Call (.Name x _) as [] _=>if c.sc.names.lookup x=some .globalImplicit then(match P.it.find? (λr=>r.nm == x)with
  |some r=>if m.jf.elem x && !(as.any isStar)&&(!r.tup||pT tg)then r.f E as else pQ
  |none=>bQ (E it))else bQ (E it)
 |it=>bQ (E it)
theorem vh {m:G0}{c:Cs}{X:Cx}{E:Expr->FE}(P:Pk)(g:Gd m c X)(hE:∀e,DE X e (E e)){tg it:Expr}:DI X tg it (Ba m P c E tg it):=by
 unfold Ba
 split
 . rename_i x p as pos
   split
   . rename_i hg
     split
     . rename_i r hr
       have hn:r.nm=x:=by have:=acf hr;exact eq_of_beq this
       split
       . rename_i h
         simp only[Y3,ZR,Zx,beq_iff_eq]at h
         obtain⟨⟨h1,h2⟩,h4⟩:=h
         have hx:x∈m.jf:=abm.mp h1
         subst hn
         exact r.ok g.rm g.cm (g.bl _ hx) (g.gl hg) hE h2 (λz=>by rcases h4 with h4|h4;(rw[z]at h4;cases h4);exact h4)
       . exact qS
     . exact uN (hE _)
   . exact uN (hE _)
 . exact uN (hE _)
noncomputable def LW (sc:Scope)(S:Scope):Scope:={ sc with names:=sc.names.map λ(n,k)=>if(k == .free&&S.kind == .function&&S.names.lookup n == some .cell)then(n,.cell)else(n,k) }
noncomputable def xI:List Str->Bool
 | []=>true
 |x::r=>!(r.elem x)&&xI r
theorem vm:∀{l:List Str},xI l=true->l.Nodup
 | [],_=>acp
 |x::r,h=>by
  simp only[xI,Y3,Zx]at h
  exact aaD.mpr (And.intro (λz=>(by rw[abm.mpr z]at h;exact absurd h.1 (by simp))) (vm h.2))
noncomputable def km (sc:Scope):List Str:=(sc.names.filter λy=>y.2 == .local||y.2 == .cell).map (·.1)
noncomputable def Pg (sc:Scope):List Str:=(sc.names.filter λy=>y.2 == .cell).map (·.1)
noncomputable def iM (sc:Scope):List Str:=(sc.names.filter λy=>y.2 == .free).map (·.1)
noncomputable def dm (c:Cs)(sc:Scope):Cs:=⟨km sc++iM sc,LW sc c.sc,false,c.mt,Pg sc⟩
noncomputable def oJ (c:Cs)(sc:Scope):List (Option Nat):=(km sc).map (λ_=>none)++(iM sc).map (λx=>i7 c.N x)
noncomputable def zg (c:Cs)(sc:Scope):Bool:=qH c.sc c.N (km sc++iM sc) (oJ c sc) sc&&xI (km sc++iM sc)
noncomputable def vn (T:Expr->FT):List Expr->FT
 | []=>aQ
 | [t]=>T t
 |_=>mM
noncomputable def vo (c:Cs):Expr->Bool
 |.Name x _=>c.mt.elem x
 |_=>false
noncomputable def Bb (c:Cs):Expr->Bool
 |.Name x _=>c.mt.elem (Zy "*" ++ x)
 |_=>false
noncomputable def tK (m:G0)(P:Pk)(c:Cs)(rf:Bool)(E:Cs->Expr->FE)(T:Cs->Expr->FT)(elt:Expr)(gs:List adk)(sc:Scope):FE:=match gs with
 | [⟨tg,it,ifs,0⟩]=>if zg c sc && !(isSet it)then
  (if Bb c it then(if rf then ck else iX aY (i6 (E c it)) (oJ c sc) (jg (dm c sc) (E (dm c sc)) 3 tg) (vn (T (dm c sc)) ifs) (E (dm c sc) elt))
  else if vo c it then fJ aY (mI (E c it)) (oJ c sc) (jg (dm c sc) (E (dm c sc)) 3 tg) (vn (T (dm c sc)) ifs) (E (dm c sc) elt)
  else bh aY (Ba m P c (E c) tg it) (oJ c sc) (jg (dm c sc) (E (dm c sc)) 3 tg) (vn (T (dm c sc)) ifs) (E (dm c sc) elt))else ck
 |_=>ck
section
variable {m:G0}{c:Cs}{X:Cx}
theorem Gd.comp (g:Gd m c X){sc:Scope}(h:xI (km sc++iM sc)=true){C:Addr}{s3:Y4}{H:Hp}{fp:List Addr}{pins:List (Addr×Obj)}:Gd m (dm c sc) (bP X (km sc++iM sc) sc C s3 H fp pins) where
 hN:=rfl
 hs:=by
  show adB sc X.env=LW sc c.sc
  rw[<- g.hs];rfl
 nd:=vm h
 xe:=rfl
 cm:=g.cm
 rm:=g.rm
 al:=λz=>by cases z
 ow:=λx hx=>by
  show(sc.names.any λy=>y.1 == x&&y.2 == .cell)=true
  obtain⟨y,hy,e⟩:=Zc.mp (show x∈(sc.names.filter λy=>y.2 == .cell).map (·.1) from hx)
  rw[Zt]at hy
  rw[aaN]
  exact⟨y,hy.1,by rw[e,hy.2];simp⟩
 fn:=λx i n hm=>by
  obtain⟨f,fd,ps,a,b,d,e,l⟩:=g.fn x i n hm
  exact⟨f,fd,ps,a,b,d,e,l⟩
 bl:=g.bl
 cn:=g.cn
 dc:=g.dc
theorem LX {T:Expr->FT}(hT:∀e,DT X e (T e)):∀ifs:List Expr,iA X ifs (vn T ifs)
 | []=>CS
 | [t]=>CT (hT t)
 |_::_::_=>.of (λpins s σ H Q I h=>by obtain⟨_,_,_,_,_,_,_,h,_⟩:=h;cases h)
theorem xJ (g:Gd m c X){E:Cs->Expr->FE}{T:Cs->Expr->FT}(hE:∀c X,Gd m c X->∀e,DE X e (E c e))(hT:∀c X,Gd m c X->∀e,DT X e (T c e)){sc:Scope}(h:zg c sc=true){tg elt:Expr}{ifs:List Expr}:
  fF X (km sc++iM sc) (oJ c sc) sc /\ ∀C s3 H fp pins,DG (bP X (km sc++iM sc) sc C s3 H fp pins) tg (jg (dm c sc) (E (dm c sc)) 3 tg) /\
   iA (bP X (km sc++iM sc) sc C s3 H fp pins) ifs (vn (T (dm c sc)) ifs)/\DE (bP X (km sc++iM sc) sc C s3 H fp pins) elt (E (dm c sc) elt):=by
 simp only[zg,Y3]at h
 refine⟨AI g.hs g.hN h.1,λC s3 H fp pins=>?_⟩
 have g':=g.comp h.2 (C:=C) (s3:=s3) (H:=H) (fp:=fp) (pins:=pins)
 exact⟨kQ g' (hE _ _ g') 3 tg,LX (hT _ _ g') ifs,hE _ _ g' elt⟩
theorem vp (P:Pk)(g:Gd m c X){rf:Bool}{E:Cs->Expr->FE}{T:Cs->Expr->FT}(hE:∀c X,Gd m c X->∀e,DE X e (E c e))(hT:∀c X,Gd m c X->∀e,DT X e (T c e)){elt:Expr}{gs:List adk}{sc:Scope}{p:Pos}:
   DE X (.ListComp elt gs sc p) (tK m P c rf E T elt gs sc):=by
 unfold tK
 split
 . rename_i tg it ifs
   split
   . rename_i h
     simp only[Y3,Zx]at h
     obtain⟨ok,df⟩:=xJ g hE hT h.1 (tg:=tg) (elt:=elt) (ifs:=ifs)
     split
     . split
       . exact bY
       . exact Dd g.xe g.cm ok (xy (hE c X g it)) df (lB h.2)
     split
     . exact C8 g.xe g.cm ok (xn (hE c X g it)) df (lB h.2)
     . exact Hr g.xe g.cm ok (vh P g (hE c X g)) df (lB h.2)
   . exact bY
 . exact bY
end
noncomputable def tB (T:Expr->FT)(op:BoolOp):List Expr->FT
 | []=>mM
 | [a]=>T a
 |a::b::r=>match op with
  |.And=>i4 (T a) (tB T .And (b::r))
  |.Or=>gW (T a) (tB T .Or (b::r))
noncomputable def xE (P:Pk)(m:G0)(c:Cs)(E:Expr->FE)(rf:Bool)(e:Expr):Option FE:=P.xr.findSome? λr=>r.e m c E rf e
noncomputable def xT (P:Pk)(m:G0)(c:Cs)(E:Expr->FE)(e:Expr):Option FT:=P.xr.findSome? λr=>r.t m c E e
noncomputable def E3 (m:G0)(P:Pk)(E:Cs->Bool->Expr->FE)(T:Cs->Expr->FT)(c:Cs)(rf:Bool):Expr->FE
 |.Constant v _ _=>A9 v
 |.Name x _=>eName m c x
 |.BinOp a op b _=>LU op rf (Pe a) (E c false a) (E c false b)
 |.UnaryOp op a _=>Qt op (E c false a)
 |.BoolOp op vs _=>bE (E c false) (vs.dropLast.any Pf) op vs
 |.IfExp t a b _=>ux (T c t) (E c rf a) (E c rf b)
 |.Compare l ops rs _=>qT (E c false) l ops rs
 |.Tuple es _ _=>aK aJ (aE (E c false) es)
 |.List es _=>aK (if rf then mkRef else cj) (aE (E c false) es)
 |.Dict [] [] _=>if rf then hU else fC .dw
 |.Subscript v s _=>Dh (E c false) v s
 |.Call f as [] pos=>zf m P c rf (E c false) f as pos
 |.ListComp elt gs sc _=>tK m P c rf (λc e=>E c false e) T elt gs sc
 |_=>ck
noncomputable def E4 (m:G0)(P:Pk)(E:Cs->Bool->Expr->FE)(T:Cs->Expr->FT)(c:Cs):Expr->FT
 |.Compare l ops rs _=>aH (qT (E c false) l ops rs)
 |.UnaryOp .Not a _=>cz (T c a)
 |.BoolOp op vs _=>tB (T c) op vs
 |e=>if ve e then bW (E c false e)else mM
noncomputable def zh (m:G0)(P:Pk)(E:Cs->Bool->Expr->FE)(T:Cs->Expr->FT)(c:Cs)(rf:Bool)(e:Expr):FE:=match xE P m c (E c false) rf e with
 |some f=>f
 |none=>E3 m P E T c rf e
noncomputable def stepT (m:G0)(P:Pk)(E:Cs->Bool->Expr->FE)(T:Cs->Expr->FT)(c:Cs)(e:Expr):FT:=match xT P m c (E c false) e with
 |some f=>f
 |none=>E4 m P E T c e
noncomputable def iv (m:G0)(P:Pk):Nat->(Cs->Bool->Expr->FE)×(Cs->Expr->FT)
 | 0=>(λ_ _ _=>ck,λ_ _=>mM)
 |n+1=>(zh m P (iv m P n).1 (iv m P n).2,stepT m P (iv m P n).1 (iv m P n).2)
section
variable {m:G0}{X:Cx}
theorem jL {α β:Type}{f:α->Option β}:∀{l:List α} {b:β},l.findSome? f=some b->∃a∈l,f a=some b
 | [],_,h=>by cases h
 |a::l,b,h=>by
  rw[List.findSome?_cons]at h
  cases ha:f a with
  |none=>rw[ha]at h;obtain⟨x,hx,e⟩:=jL h;exact⟨x,Zs _ hx,e⟩
  |some c=>rw[ha]at h;cases h;exact⟨a,Zp,ha⟩
theorem Ph {T:Expr->FT}(hT:∀e,DT X e (T e)){op:BoolOp}{p:Pos}:∀es:List Expr,DT X (.BoolOp op es p) (tB T op es):=by
 have w:∀es:List Expr,es ≠ []->DW X (.BoolOp op es p) (tB T op es):=λes=>by
  induction es with
  |nil=>intro h;exact absurd rfl h
  |cons a r ih =>
   intro _
   cases r with
   |nil=>cases op;exact Hh (hT a);exact Ku (hT a)
   |cons b r =>
    have:=ih (by simp)
    cases op
    . exact Kv (hT a) this
    . exact OL (hT a) this
 intro es
 cases es with
 |nil=>exact qQ
 |cons a r=>exact(w (a::r) (by simp)).dt
theorem E5 (m:G0)(P:Pk):∀n:Nat,(∀c X,Gd m c X->∀rf e,DE X e ((iv m P n).1 c rf e))/\(∀c X,Gd m c X->∀e,DT X e ((iv m P n).2 c e))
 | 0=>⟨λ_ _ _ _ _=>bY,λ_ _ _ _=>qQ⟩
 |n+1=>by
  obtain⟨hE,hT⟩:=E5 m P n
  refine⟨λc X g rf e=>?_,λc X g e=>?_⟩
  . show DE X e (zh m P (iv m P n).1 (iv m P n).2 c rf e)
    unfold zh
    split
    . rename_i f hf
      obtain⟨r,_,h⟩:=jL hf
      exact r.xF g (hE c X g false) h
    have oa:=hE c X g false
    unfold E3
    split
    . exact A_
    . exact Di g
    . exact H0 (oa _) (oa _)
    . exact LV (oa _)
    . exact E2 oa _
    . exact Kz (hT c X g _) (hE c X g rf _) (hE c X g rf _)
    . exact H_ g.hu oa
    . exact Ar (hW oa _)
    . cases rf
      . exact KA (hW oa _)
      . exact As (hW oa _)
    . cases rf
      . exact CY
      . exact HS
    . exact Ib g.hu oa
    . exact Dj P g oa
    . exact vp P g (λc X g e=>hE c X g false e) hT
    . exact bY
  . show DT X e (stepT m P (iv m P n).1 (iv m P n).2 c e)
    unfold stepT
    split
    . rename_i f hf
      obtain⟨r,_,h⟩:=jL hf
      exact r.tok g (hE c X g false) h
    unfold E4
    split
    . exact Ia g.hu (hE c X g false)
    . exact Kw (hT c X g _)
    . exact Ph (hT c X g) _
    . split
      . rename_i h;exact Kt (hE c X g false _) (plainT h)
      . exact qQ
end
noncomputable def E6 (f:Stmt->FS):List Stmt->FS
 | []=>aN
 | [s]=>f s
 |s::t::r=>aw (f s) (E6 f (t::r))
noncomputable def zi (S:Scope):Bool:=(if S.kind.isAnnotationScope then ada else S.kind)== .function
noncomputable def zj (S:Scope)(x:Str)(px p:Pos)(sc:Scope):Bool:=zi S&&S.names.lookup x == some .local&&px.line == p.line && !(sc.names.any λ(n,k)=>n == x&&(k == .local||k == .cell))
noncomputable def LY (mt:List Str):Expr->Bool
 |.Name x _=>mt.elem x
 |_=>false
noncomputable def aZ (E:Bool->Expr->FE)(mt:List Str):List Expr->List Expr->FA
 |_,[]=>ag
 | [],v::vs=>if isStar v then pP else aa (E false v) (aZ E mt [] vs)
 |t::ts,v::vs=>if isStar v then pP else aa (E (LY mt t) v) (aZ E mt ts vs)
noncomputable def E_ (m:G0)(P:Pk)(c:Cs)(rf:Bool)(E:Cs->Expr->FE)(T:Cs->Expr->FT)(elt:Expr)(gs:List adk)(sc:Scope):FE:=match gs with
 | [⟨tg,it,ifs,0⟩]=>if zg c sc && !(isSet it)then
  (if vo c it then fJ aY (mI (E c it)) (oJ c sc) (jg (dm c sc) (E (dm c sc)) 3 tg) (vn (T (dm c sc)) ifs) (E (dm c sc) elt)
  else bh aY (Ba m P c (E c) tg it) (oJ c sc) (jg (dm c sc) (E (dm c sc)) 3 tg) (vn (T (dm c sc)) ifs) (E (dm c sc) elt))else ck
 |_=>ck
noncomputable def og (S:Scope)(ts:List Expr):List Str:=ts.filterMap fun
 |.Name id pos=>if S.names.lookup id == some .local&&pos.line == (ts.head?.map (·.pos.line)).getD 0 then some id else none
 |_=>none
noncomputable def LZ (S:Scope)(ts vs:List Expr):Option Bool :=
 if !(ts.length == 2||ts.length == 3)||vs.length != ts.length || !(zi S)then some false
 else if(og S ts).length != ts.length||(og S ts).eraseDups.length != (og S ts).length then some false
 else if vs.all (foldedForSure 8)then some false
 else if vs.all (constantsAlone 8)then none
 else some true
noncomputable def kS (c:Cs)(x:Str):Bool:=c.sc.names.lookup x == some .local
noncomputable def Dm (m:G0)(P:Pk)(E:Cs->Bool->Expr->FE)(T:Cs->Expr->FT)(c:Cs)(tg v:Expr):FS:=match tg,v with
 |.Name x px,.ListComp elt gs sc p=>(match vg c x with
  |some i=>aC (if zj c.sc x px p sc then E_ m P c (c.mt.elem x) (λc e=>E c false e) T elt gs sc else tK m P c (c.mt.elem x) (λc e=>E c false e) T elt gs sc) (gN i)
  |none=>dy)
 |.Name x px,v=>(match vg c x with
  |some i=>if pS v then dy else aC (E c (c.mt.elem x) v) (gN i)
  |none=>dy)
 |.Tuple ts kt pt,.Tuple vs _ _=>if vs.any isStar then dy else(match LZ c.sc ts vs with
  |some false=>aC (aK aJ (aZ (E c) c.mt ts vs)) (jg c (E c false) 3 (.Tuple ts kt pt))
  |some true=>(match ts,vs with
   | [.Name x _,.Name y _],[a,b]=>(match i7 c.N x,i7 c.N y with|some i,some j=>if og c.sc ts == [x,y]&&kS c x&&kS c y && !(i == j)then qL i j (aZ (E c) c.mt ts [a,b])else dy|_,_=>dy)
   | [.Name x _,.Name y _,.Name z _],[a,b,d]=>(match i7 c.N x,i7 c.N y,i7 c.N z with|some i,some j,some k=>if og c.sc ts == [x,y,z]&&kS c x&&kS c y&&kS c z && !(i == j) && !(i == k) && !(j == k)then pM i j k (aZ (E c) c.mt ts [a,b,d])else dy|_,_,_=>dy)
   |_,_=>dy)
  |none=>dy)
 |.Subscript o i q,v=>aC (E c false v) (jg c (E c false) 3 (.Subscript o i q))
 |tg,v=>if pS v||pT v||isStar tg then dy else aC (E c false v) (jg c (E c false) 3 tg)
noncomputable def Dp (m:G0)(P:Pk)(W:Nat)(kp:Bool)(E:Cs->Bool->Expr->FE)(T:Cs->Expr->FT)(B:List Stmt->FS)(c:Cs):Stmt->FS
 |.Return (some e) _=>aF (E c kp e)
 |.If t a b _=>bK (T c t) (B a) (B b)
 |.Assign [tg] v _=>Dm m P E T c tg v
 |.For tg it body [] _=>if isSet it then dy else if Bb c it then j5 (i6 (E c false it)) (jg c (E c false) 3 tg) (B body)else cS (Ba m P c (E c false) tg it) (jg c (E c false) 3 tg) (B body)
 |.While t body [] _=>kG W (T c t) (B body)
 |.Pass _=>aN
 |.Expr (.Constant (.str _) _ _) _=>aN
 |.Expr e _=>if pS e then dy else cX (E c false e)
 |_=>dy
noncomputable def sS (m:G0)(P:Pk)(W:Nat)(kp:Bool)(E:Cs->Bool->Expr->FE)(T:Cs->Expr->FT)(c:Cs):Nat->Stmt->FS
 | 0,_=>dy
 |n+1,s=>Dp m P W kp E T (E6 (sS m P W kp E T c n)) c s
noncomputable def body (m:G0)(P:Pk)(W:Nat)(kp:Bool)(c:Cs)(nW:List Stmt):FS:=E6 (sS m P W kp (iv m P 30).1 (iv m P 30).2 c 12) nW
section
variable {m:G0}{c:Cs}{X:Cx}
theorem vq {f:Stmt->FS}(h:∀s,DS X s (f s)):∀nW:List Stmt,jW X nW (E6 f nW)
 | []=>Hi
 | [s]=>Hj (h s)
 |s::t::r=>CL (h s) (vq h (t::r))
theorem pV {E:Bool->Expr->FE}{mt:List Str}(hE:∀rf e,DE X e (E rf e)):∀(ts vs:List Expr),DA X vs (aZ E mt ts vs)
 |_,[]=>by cases ‹List Expr›<;>exact uy
 | [],v::vs=>by
  unfold aZ
  split
  . exact qR
  . rename_i h;exact nj (hE _ v) (pV hE [] vs) (b6 (by simpa using h))
 |t::ts,v::vs=>by
  unfold aZ
  split
  . exact qR
  . rename_i h;exact nj (hE _ v) (pV hE ts vs) (b6 (by simpa using h))
theorem xK (g:Gd m c X){elt:Expr}{gs:List adk}{sc:Scope}{p px:Pos}{x:Str}{l:Nat}:abY (.ListComp elt gs sc p) (some (.Name x px)) l X.env=pure (zj c.sc x px p sc):=by
 rw[<- g.hs];rfl
theorem L0 {ts vs:List Expr}{kt k2:Nat}{pt gE:Pos}{r:Bool}(g:Gd m c X)(hv:vs.any isStar=false)(h:LZ c.sc ts vs=some r):aa2 [.Tuple ts kt pt] (.Tuple vs k2 gE) X.env=pure (if r then some (og c.sc ts)else none):=by
 have cU:(vs.any fun|.Starred ..=>true|_=>false)=false:=by
   have:(λ(e:Expr)=>match e with|.Starred ..=>true|_=>false)=isStar:=by funext e;cases e<;>rfl
   rw[this];exact hv
 have Wy:(X.env.blockKind != ada)= !(zi c.sc):=by rw[<- g.hs];rfl
 unfold LZ at h
 show(if(!(ts.length == 2||ts.length == 3)||vs.length != ts.length||X.env.blockKind != ada)=true then pure none else if(vs.any fun|.Starred ..=>true|_=>false)=true then pure none else
   if((og X.env.scope ts).length != ts.length||(og X.env.scope ts).eraseDups.length != (og X.env.scope ts).length)=true then pure none else if vs.all (foldedForSure 8)=true then pure none else if vs.all (constantsAlone 8)=true then _ else pure (some (og X.env.scope ts)))=_
 rw[Wy,cU,g.hs]
 split at h
 . rename_i h1;cases h;rw[if_pos h1];rfl
 rename_i h1
 rw[if_neg h1,if_neg (by simp)]
 split at h
 . rename_i h2;cases h;rw[if_pos h2];rfl
 rename_i h2
 rw[if_neg h2]
 split at h
 . rename_i h3;cases h;rw[if_pos h3];rfl
 rename_i h3
 rw[if_neg h3]
 split at h
 . cases h
 rename_i h4
 cases h
 rw[if_neg h4];rfl
theorem Sx {tg v:Expr}{env:Env}(h:pT v=false):aa2 [tg] v env=pure none:=by
 cases tg with
 |Tuple es kt p=>cases v<;>first|rfl|cases h
 |List es p=>cases v<;>first|rfl|cases h
 |_=>rfl
theorem xM {tg:Expr}{env:Env}(h:isStar tg=false):(aaw [tg] env).map (·.2)= [ab6 tg env]:=by
 rw[oI h];rfl
theorem Dq {o i v:Expr}{q:Pos}{l:Nat}{env:Env}:abi [.Subscript o i q] v l env=pure false:=by cases v<;>rfl
theorem L4 {o i v:Expr}{q:Pos}{env:Env}:aa2 [.Subscript o i q] v env=pure none:=by cases v<;>rfl
theorem Ic (P:Pk)(g:Gd m c X){E:Cs->Bool->Expr->FE}{T:Cs->Expr->FT}(hE:∀c X,Gd m c X->∀rf e,DE X e (E c rf e))(hT:∀c X,Gd m c X->∀e,DT X e (T c e)){tg v:Expr}{p:Pos}:DS X (.Assign [tg] v p) (Dm m P E T c tg v):=by
 have Bc:∀{x:Str},kS c x=true->X.env.scope.names.lookup x=some .local:=fun {x} h=>by
   rw[g.hs];exact eq_of_beq h
 unfold Dm
 split
 . rename_i x px elt gs sc q
   split
   . rename_i i hi
     obtain⟨a,b,d⟩:=nE g hi
     split
     . rename_i pC
       unfold E_
       split
       . rename_i tg it ifs
         split
         . rename_i h
           simp only[Y3,Zx]at h
           obtain⟨ok,df⟩:=xJ g (λc X g e=>hE c X g false e) hT h.1 (tg:=tg) (elt:=elt) (ifs:=ifs)
           have hs:=(xK g (elt:=elt) (gs:=[⟨tg,it,ifs,0⟩]) (sc:=sc) (p:=q) (px:=px) (x:=x) (l:=p.line)).trans (by rw[pC])
           split
           . exact uV g.xe g.cm ok (xn (hE c X g false it)) df g.sG a b hs (lB h.2) d
           . exact yQ g.xe g.cm ok (vh P g (hE c X g false)) df g.sG a b hs (lB h.2) d
         . exact .of (λpins s σ H Q I h=>by obtain⟨_,_,_,_,_,_,_,_,h,_⟩:=h;cases h)
       . exact .of (λpins s σ H Q I h=>by obtain⟨_,_,_,_,_,_,_,_,h,_⟩:=h;cases h)
     . rename_i pC
       exact Av g.sG a b (vp P g (λc X g e=>hE c X g false e) hT) ((xK g).trans (by rw[show zj c.sc x px q sc=false by simpa using pC])) d
   . exact cT
 . rename_i x px _
   split
   . rename_i i hi
     obtain⟨a,b,d⟩:=nE g hi
     split
     . exact cT
     . rename_i h
       exact Av g.sG a b (hE c X g _ _) (vf (by simpa using h)) d
   . exact cT
 . rename_i ts kt pt vs k2 gE
   split
   . exact cT
   rename_i hv
   have hv:vs.any isStar=false:=by simpa using hv
   have Dr:∀l,abi [.Tuple ts kt pt] (.Tuple vs k2 gE) l X.env=pure false:=λ_=>rfl
   split
   . rename_i hp
     exact uz (Ar (pV (hE c X g) ts vs)) (kQ g (hE c X g false) 3 _) (Dr _) (L0 g hv hp) rfl
   . rename_i hp
     split
     . rename_i x px y py a b
       split
       . rename_i i j hi hj
         split
         . rename_i h
           simp only[Y3,Zx,beq_iff_eq]at h
           obtain⟨⟨⟨h1,h2⟩,h3⟩,h4⟩:=h
           exact Lm g.cm g.sG (by rw[g.hN];exact eV hi) (by rw[g.hN];exact eV hj) (by simpa using h4) (Bc h2) (Bc h3) (pV (hE c X g) _ _) ((L0 g hv hp).trans (by rw[if_pos rfl,h1])) (Dr _)
         . exact cT
       . exact cT
     . rename_i x px y py z pz a b d
       split
       . rename_i i j k hi hj hk
         split
         . rename_i h
           simp only[Y3,Zx,beq_iff_eq]at h
           obtain⟨⟨⟨⟨⟨⟨h1,h2⟩,h3⟩,h4⟩,h5⟩,h6⟩,h7⟩:=h
           exact HK g.cm g.sG (by rw[g.hN];exact eV hi) (by rw[g.hN];exact eV hj) (by rw[g.hN];exact eV hk) (by simpa using h5) (by simpa using h6) (by simpa using h7) (Bc h2) (Bc h3) (Bc h4) (pV (hE c X g) _ _) ((L0 g hv hp).trans (by rw[if_pos rfl,h1])) (Dr _)
         . exact cT
       . exact cT
     . exact cT
   . exact cT
 . exact uz (hE c X g false _) (kQ g (hE c X g false) 3 _) Dq L4 (xM rfl)
 . split
   . exact cT
   rename_i h
   simp only[ZR,not_or,ab3]at h
   exact uz (hE c X g false _) (kQ g (hE c X g false) 3 _) (vf h.1.1) (Sx h.1.2) (xM h.2)
theorem Ie (P:Pk){W:Nat}{kp:Bool}(g:Gd m c X){E:Cs->Bool->Expr->FE}{T:Cs->Expr->FT}(hE:∀c X,Gd m c X->∀rf e,DE X e (E c rf e))(hT:∀c X,Gd m c X->∀e,DT X e (T c e)){B:List Stmt->FS}(hB:∀b,jW X b (B b))(s:Stmt):
   DS X s (Dp m P W kp E T B c s):=by
 have nv:acD (model X.prog X.w) X.A X.env X.xe:=by rw[g.xe];exact PassesOwn.never
 unfold Dp
 split
 . exact KC (hE c X g _ _)
 . exact OM (hT c X g _) (hB _) (hB _)
 . exact Ic P g hE hT
 . split
   . exact cT
   . rename_i h
     split
     . exact HY nv g.cm (xy (hE c X g false _)) (kQ g (hE c X g false) 3 _) (hB _) (lB (by simpa using h))
     exact KY nv g.cm (vh P g (hE c X g false)) (kQ g (hE c X g false) 3 _) (hB _) (lB (by simpa using h))
 . exact CN W nv (hT c X g _) (hB _)
 . exact Hk
 . exact KD
 . split
   . exact cT
   . rename_i h;exact Hl (hE c X g false _) (vf (by simpa using h))
 . exact cT
theorem Ig (P:Pk){W:Nat}{kp:Bool}(g:Gd m c X)(nW:List Stmt):jW X nW (body m P W kp c nW):=by
 obtain⟨hE,hT⟩:=E5 m P 30
 have:∀n s,DS X s (sS m P W kp (iv m P 30).1 (iv m P 30).2 c n s):=λn=>by
  induction n with
  |zero=>exact λ_=>cT
  |succ n ih=>exact λs=>Ie P g hE hT (vq ih) s
 exact vq (this 12) nW
end
structure bw where
 nm:Str
 ps:List Str
 N:List Str
 st:Stmt
 kp:Bool
 mt:List Str
 pu:Bool
structure Mo where
 ds:List bw
 jf:List Str
 vd:List (Str×D)
 xC:List (Str×List (Str×D))
 P:Pk
 W:Nat
noncomputable def tL:Nat->List bw->List (Str×Nat×Nat)
 |_,[]=>[]
 |j,d::ds=>(d.nm,j,d.ps.length)::tL (j+1) ds
noncomputable def Mo.g (M:Mo)(T:Nat->Fn)(k:Nat):G0:=⟨T,k,tL 0 M.ds,M.jf,M.vd,M.xC⟩
noncomputable def zk (pu:Bool)(f:Fn):Fn:=if pu then mF f else f
noncomputable def bw.run (M:Mo)(d:bw)(T:Nat->Fn)(k:Nat):Fn:=zk d.pu (aD d.kp d.N.length d.ps.length (body (M.g T k) M.P M.W d.kp ⟨d.N,bN d.st,true,d.mt,[]⟩ (eZ d.st)))
theorem sH:∀{ds:List bw} {j:Nat} {x:Str} {i n:Nat},(x,i,n)∈tL j ds->∃d q,i=j+q/\ds[q]? = some d/\d.nm=x/\d.ps.length=n
 | [],_,_,_,_,h=>by simp[tL]at h
 |d::ds,j,x,i,n,h=>by
  rcases Zd.mp h with h|h
  . cases h;exact⟨d,0,rfl,rfl,rfl,rfl⟩
  . obtain⟨e,q,h1,h2,h3,h4⟩:=sH h
    exact⟨e,q+1,by omega,by simpa using h2,h3,h4⟩
structure Good (M:Mo)(T:Nat->Nat->Fn):Prop where
 z:∀j ds g,T 0 j ds g=none
 s:∀k j d,M.ds[j]? = some d->T (k+1) j=d.run M (T k) k
 sc:∀d∈M.ds,jt d.N d.ps (bN d.st)
structure Aj (M:Mo)(K:KW)(f:Nat->Addr)(fd:Nat->aae):Prop where
 fn:∀j d,M.ds[j]? = some d->wZ K.fr d.nm d.nm d.st (f j) (fd j)/\K.mg d.nm=some (.ref (f j))/\Binds K.fr (fd j) d.ps []
 bl:∀x∈M.jf,K.mg x=none
 cn:∀x d,(x,d)∈M.vd->∃v u,K.mg x=some u/\RelV v u /\ ∀K H ι,Rel K H ι d v
 dc:∀x t,(x,t)∈M.xC->∃a,K.mg x=some (.ref a)/\tG K.w K a t
section
variable {M:Mo}{T:Nat->Nat->Fn}{K:KW}{f:Nat->Addr}{fd:Nat->aae}{P:ZC}{base:Heap}
theorem Good.len (G:Good M T){k j:Nat}{d:bw}(h:M.ds[j]? = some d):∀ds g r,T k j ds g=some r->ds.length=d.ps.length:=λds g r q=>by
 cases k with
 |zero=>rw[G.z]at q;cases q
 |succ k =>
  rw[G.s k j d h]at q
  unfold bw.run zk at q
  split at q
  . exact yW (λ_ _ _=>sj _ _ _) ds g r q
  . exact sj ds g r q
theorem Bd (G:Good M T)(A:Aj M K f fd):∀k j d,M.ds[j]? = some d->dN P K.w K.fr K.mg base i_ k (f j) (fd j) d.ps (mw K d.ps.length (T k j))
 | 0,j,d,h=>Ho λds g=>G.z j ds g
 |k+1,j,d,h=>by
  have ih:=Bd G A k
  obtain⟨F,hm,hb⟩:=A.fn j d h
  have S:=G.sc d (ZY h)
  have jV:d.ps.length<=d.N.length:=by have:=congrArg aca S.pre;rw[aaM]at this;omega
  have main:dN P K.w K.fr K.mg base i_ (k+1) (f j) (fd j) d.ps (mw K d.ps.length (aD d.kp d.N.length d.ps.length (body (M.g (T k) k) M.P M.W d.kp ⟨d.N,bN d.st,true,d.mt,[]⟩ (eZ d.st)))):=by
    refine OP F S jV λet A' outer s H E hr=>?_
    have gd:Gd (M.g (T k) k) ⟨d.N,bN d.st,true,d.mt,[]⟩ (mh i_ P K.w K.fr K.mg base d.N d.nm (bN d.st) (f j) et A' outer s H E).wQ:=⟨rfl,rfl,S.nd,rfl,rfl,hr,λ_ _=>rfl,(λ_ h=>nomatch h),λx i n hx=>?_,A.bl,A.cn,A.dc⟩
    . exact Ig M.P gd _
    obtain⟨e,q,h1,h2,h3,h4⟩:=sH hx
    have h1:i=q:=by omega
    subst h1 h3 h4
    obtain⟨F',mH,eE⟩:=A.fn i e h2
    exact⟨f i,fd i,e.ps,ih i e h2,mH,F'.kp,eE,G.len h2⟩
  rw[G.s k j d h]
  unfold bw.run zk
  split
  . exact HG main
  . exact main
end
noncomputable def zl (K:PySem.W.Frag):Sp:=λvs H Q _=>∃(a:Addr) (ns:List Int),vs = [.ref a]/\dq K H a (ns.map V.int)/\ns.length<=63 /\ ∀H',Q (.bl true) H'
theorem sI {K:KW}{H:Hp}{ι:Ix}:∀ns:List Int,aj K H ι (ns.map D.int) (ns.map V.int)
 | []=>by simp[aj]
 |n::ns=>by
  simp only[Zw,aj]
  exact⟨_,_,rfl,by simp[Rel],sI ns⟩
theorem L5 {K:KW}{fn:Fn}(h:∀ns:List Int,ns.length<=63->∃g',fn [.lst (ns.map .int)] []=some (.bl true,g'))(vs:List V)(H:Hp)(Q:VK)(E:XK)(q:zl K.fr vs H Q E):mw K 1 fn vs H Q E:=by
 obtain⟨a,ns,rfl,hS,hl,hq⟩:=q
 obtain⟨g',hg⟩:=h ns hl
 refine⟨rfl,⟨[],[],λ_=>0⟩,[],[.lst (ns.map .int)],.bl true,g',⟨acp,rfl,(λb hb=>by cases hb),(λi xs z=>by simp at z)⟩,?_,hg,λH' ι' v e G r=>?_⟩
 . simp only[aj]
   refine⟨_,_,rfl,?_,rfl⟩
   simp only[Rel]
   refine⟨a,_,rfl,?_,sI ns⟩
   rcases hS with hS|hS
   . exact .inl ⟨hS,by simp,by simp⟩
   . exact .inr hS
 . simp only[Rel]at r
   rw[r]
   exact hq H'
inductive bO (K:PySem.W.Frag):List bw->List Addr->List aae->Prop
 |nil:bO K [] [] []
 |cons {nm:Str} {ps N:List Str} {st:Stmt} {kp pu:Bool} {mt:List Str} {ds:List bw} {fs:List Addr} {hX:List aae} {f:Addr} {oc:Value} {od an:Option Addr} {sl:Array (Option Value)} {kV dc pm cd ct:Value}
  (a:PySem.W.nsIn K ZX nm=some (some (.ref f)))
  (l:K.lookup f=some ⟨oc,od,.func (PySem.W.fnOf nm nm (ju st) (eZ st) (bN st) .none kV dc pm an cd ct),sl⟩)
  (e:PySem.W.codeIn K cd nm=true) (k:PySem.W.keepIn K (.ref f)=true)
  (b:∀us:List Value,us.length=ps.length->bindArgs (PySem.W.fnOf nm nm (ju st) (eZ st) (bN st) .none kV dc pm an cd ct) ⟨us,[]⟩=pure (ps.zip us))
  (r:bO K ds fs hX):bO K (⟨nm,ps,N,st,kp,mt,pu⟩::ds) (f::fs) (PySem.W.fnOf nm nm (ju st) (eZ st) (bN st) .none kV dc pm an cd ct::hX)
theorem bO.get {K:PySem.W.Frag}{h:Heap}{mg:Str->Option Value}(X:K.In h)(G:h.Ns ZX mg){f0:Addr}{d0:aae}:∀{ds:List bw} {fs:List Addr} {hX:List aae},bO K ds fs hX ->
  ∀j d,ds[j]? = some d->wZ K d.nm d.nm d.st (fs.getD j f0) (hX.getD j d0)/\mg d.nm=some (.ref (fs.getD j f0))/\Binds K (hX.getD j d0) d.ps []
 |_,_,_,.nil,j,d,h=>by simp at h
 |_,_,_,.cons a l e k b r,0,d,h=>by
  simp at h;subst h
  exact⟨Kl l e k,PySem.W.mg_of X G a,.all b⟩
 |_,_,_,.cons a l e k b r,j+1,d,h=>by
  simpa using r.get X G j d (by simpa using h)
theorem bO.Qu {K:PySem.W.Frag}{d0:aae}:∀{ds:List bw} {fs:List Addr} {hX:List aae},bO K ds fs hX->∀j d,ds[j]? = some d->∀us:List Value,us.length=d.ps.length->bindArgs (hX.getD j d0) ⟨us,[]⟩=pure (d.ps.zip us)
 |_,_,_,.nil,j,d,h=>by simp at h
 |_,_,_,.cons a l e k b r,0,d,h=>by
  simp at h;subst h
  exact b
 |_,_,_,.cons a l e k b r,j+1,d,h=>by
  simpa using r.Qu j d (by simpa using h)
theorem pW {p:List Value->Prop}(h:∀a,p [a]):∀us:List Value,us.length=1->p us
 | [a],_=>h a
theorem hZ {p:List Value->Prop}(h:∀a b,p [a,b]):∀us:List Value,us.length=2->p us
 | [a,b],_=>h a b
theorem pX {p:List Value->Prop}(h:∀a b c,p [a,b,c]):∀us:List Value,us.length=3->p us
 | [a,b,c],_=>h a b c
theorem Qv {p:List Value->Prop}(h:∀a b c d,p [a,b,c,d]):∀us:List Value,us.length=4->p us
 | [a,b,c,d],_=>h a b c d
theorem whole {l:PySem.W.OpenLaw}{w:World}{K:PySem.W.Frag}{h:Heap}{mg:Str->Option Value}{fa:Addr}{M:Mo}{T:Nat->Nat->Fn}{i R:Nat}{d:bw}{x:Str}{fs:List Addr}{hX:List aae}(X:K.In h)(G:h.Ns ZX mg)(hd:M.ds[i]? = some d)(hx:d.ps = [x])(L6:d.nm = "law")(Fb:mg "law" = some (.ref fa))
   (gd:Good M T) (L:bO K M.ds fs hX) (bl:∀y∈M.jf,PySem.W.nsIn K ZX y=some none)
   (cn:∀y e,(y,e)∈M.vd->∃v u,PySem.W.nsIn K ZX y=some (some u)/\RelV v u /\ ∀K H ι,Rel K H ι e v)
   (dc:∀y t,(y,t)∈M.xC->∃a,PySem.W.nsIn K ZX y=some (some (.ref a))/\tG w ⟨K,w,mg⟩ a t)
   (spec:∀ns:List Int,ns.length<=63->∃g',T R i [.lst (ns.map .int)] []=some (.bl true,g')):
   ∃fd:aae,(∀(s:Y4) (v:Value),ad7 s fd ⟨[v],[]⟩ [(x,v)]) /\ ∀base:Heap,K.In base->base.Ns ZX mg->dN l.prog w K mg base i_ R fa fd [x] (zl K):=by
 have A:Aj M ⟨K,w,mg⟩ (λj=>fs.getD j fa) (λj=>hX.getD j (hX.getD 0 default)):=⟨λj d h=>L.get X G j d h,λy hy=>PySem.W.mg_none_of X G (bl y hy),λy e hm=>by
   obtain⟨v,u,h1,h2,h3⟩:=cn y e hm
   exact⟨v,u,PySem.W.mg_of X G h1,h2,h3⟩,λy t hm=>by
   obtain⟨a,h1,h2⟩:=dc y t hm
   exact⟨a,PySem.W.mg_of X G h1,h2⟩⟩
 obtain⟨F,hm,hb⟩:=A.fn i d hd
 rw[L6]at hm
 have e:fs.getD i fa=fa:=by
   have:=hm.symm.trans Fb;injection this with this;injection this
 refine⟨hX.getD i (hX.getD 0 default),λs v=>.of_eq ?_,λbase _ _=>?_⟩
 . have:=L.Qu (d0:=hX.getD 0 default) i d hd [v] (by rw[hx];rfl)
   rw[this,hx];rfl
 have ok:=Bd (P:=l.prog) (base:=base) gd A R i d hd
 dsimp only at ok
 rw[e,hx]at ok
 exact dN.imp ok (L5 (K:=⟨K,w,mg⟩) spec)
end RI
namespace TL
open PySem PySem.Spec PySem.SeqAt PyProof.Rows PySem.W
section
variable {prog:ZC}{w:World}{A:Zz}{E:Value->Y4->Prop}{s:Y4}
theorem vt {a:Addr}{p0:Array Nat}{vs out:List Value}{n:Nat}{κ:SortKind}{P:PySem.Fin->Y4->Prop}(ho:s.heap.get? a=some (aaB "list" vs.toArray n))(Be:vs.length<64)
   (hk:2<=vs.length->∀Q:SortKind->Y4->Prop,Q κ { s with heap:=dE s.heap a vs }->wpAny (model prog w) A (keyKind' vs.toArray) Q E { s with heap:=dE s.heap a vs })
   (Bf:vs.length<2->out=vs) (f_:2<=vs.length->out=p0.toList.map λi=>vs.getD i .none) (hz:out.length<64)
   (hw:2<=vs.length->(aeu vs.length).kasWp (kas_ask prog w A κ vs) (λp s'=>s'={ s with heap:=dE s.heap a vs }/\p=p0) { s with heap:=dE s.heap a vs })
   (h:P (.done (.ret .none)) { s with heap:=adx s.heap a vs out.toArray }):
   wpAny (model prog w) A (abt.«list.sort» ⟨[.ref a],[]⟩) P E s:=by
 rw[list_sort_plain]
 have ha:a<s.heap.objs.size:=Zf ho
 refine xv (listItems_at ho rfl ?_)
 refine xv (listUpdate_at ho rfl ?_ (by rw[Y_,aaU];omega) (ZM _))
 obtain⟨e1,Qw⟩:∃e1,(s.heap.update a (aaW λ_=>(#[]:Array Value))).get? a=some (aaB "list" #[] e1):=⟨_,acR ho (λ_=>#[])⟩
 refine xv (seqEpoch_at Qw rfl ?_)
 refine xv (wpAny_newTuple ?_ (by show vs.length<=_;rw[aaU];omega))
 refine xv (aeC ?_ (ZM _))
 refine ZI ?_
 have Fc:(dE s.heap a vs).get? a=some (aaB "list" #[] e1):=by
   unfold dE
   rw[aa1 _ _ _ (by rw[size_push',abA];exact Zk (ZW ha)),aa1 _ _ _ (by rw[abA];exact Zk ha)]
   exact Qw
 show wpAny (model prog w) A _ P E { s with heap:=dE s.heap a vs }
 dsimp only
 have hsz:vs.toArray.size=vs.length:=by simp
 have Le:(vs.toArray.zip vs.toArray).map (·.2)=vs.toArray:=by
   apply Array.toList_inj.mp
   simp[List.map_snd_zip]
 have fin:∀cL:SortSt,(arrOf cL).map (·.2)=out.toArray->failedOf cL=none->wpAny (model prog w) A (do
     let touched:=(<- seqEpoch a) != e1
     Builtin.List.listUpdate (.ref a) λ_=>(arrOf cL).map (·.2)
     if let some e:=failedOf cL then rule "list.sort.comparison-raised";throw e
     if touched then rule "list.sort.modified";raiseError "ValueError" "list modified during sort"
     ret .none) P E { s with heap:=dE s.heap a vs }:=by
   intro cL e f
   refine xv (seqEpoch_at Fc rfl ?_)
   rw[e,f]
   refine xv (listUpdate_at Fc rfl ?_ (ZM _) (by rw[Y_,aaU];omega))
   simp only[bne_self_eq_false,Zh,if_false]
   exact Y5 h
 by_cases h2:vs.toArray.size<2
 . rw[if_pos h2,if_pos h2]
   refine xv (Y5 ?_)
   rw[StateT.run_pure]
   refine xv (Y5 ?_)
   exact fin (SortSt.mk' general' (vs.toArray.zip vs.toArray) #[] 7 none) (by rw[Bf (by rw[hsz]at h2;exact h2)];exact Le) rfl
 . rw[if_neg h2,if_neg h2]
   have iR:2<=vs.length:=by rw[hsz]at h2;omega
   refine xv (hk iR _ ?_)
   refine xv (acH (kat_run (Q:=λcL s'=>s'={ s with heap:=dE s.heap a vs }/\(arrOf cL).map (·.2)=out.toArray/\failedOf cL=none)
     (G:=λp s'=>s'={ s with heap:=dE s.heap a vs }/\p=p0)
     rfl iR Be (λp cL s' a1 a2 a3 a4=>⟨a4.1,?_,a3⟩) (hw iR)) ?_ λ_ _ x=>x)
   . rw[kat_snds rfl a2,a4.2,f_ iR]
   . rintro⟨⟨⟩,cL⟩ s' ⟨rfl,hp,hf⟩
     exact fin cL hp hf
theorem j6 {l:Addr}{p0:Array Nat}{vs out:List Value}{κ:SortKind}{Q:Value->Y4->Prop}(hl:s.heap.IsList l vs.toArray)(Be:vs.length<64)
  (hk:2<=vs.length->∀(h':Heap),(∀b o,s.heap.get? b=some o->h'.get? b=some o)->∀(E:Value->Y4->Prop) (R:SortKind->Y4->Prop),R κ { s with heap:=h' }->wpAny (model prog w) A.in1.in1 (keyKind' vs.toArray) R E { s with heap:=h' })
  (Bf:vs.length<2->out=vs) (f_:2<=vs.length->out=p0.toList.map λi=>vs.getD i .none) (hz:out.length<64)
  (hw:∀(h':Heap),(∀b o,s.heap.get? b=some o->h'.get? b=some o)->2<=vs.length->(aeu vs.length).kasWp (kas_ask prog w A.in1.in1 κ vs) (λp s'=>s'={ s with heap:=h' }/\p=p0) { s with heap:=h' })
  (h:Q (.ref (s.heap.objs.size+1)) { s with heap:=sortedAll s.heap vs out.toArray }):
  wpAny (model prog w) A (call (.builtin "sorted") [.ref l]) Q E s:=by
 refine ady kind_sorted plain_sorted entry_sorted (args_sorted1 _) ?_
 unfold abt.«sorted»
 refine xv (m:=checkCount "sorted" 1 1 _) (Y5 ?_)
 refine xv (collect_list hl ?_ (by rw[aaU];omega))
 refine xv (aeC ?_ (by rw[aaU];omega))
 have hsz:((s.heap.push (aaB "list" #[] 0)).update s.heap.objs.size (aaW (· ++ vs.toArray))).objs.size=s.heap.objs.size+1:=by
  rw[abA,size_push']
 have rO:(((s.heap.push (aaB "list" #[] 0)).update s.heap.objs.size (aaW (· ++ vs.toArray))).push (aaB "list" vs.toArray 0)).get? (s.heap.objs.size+1)=some (aaB "list" vs.toArray 0):=by
  rw[<- hsz];exact Zg _ rfl
 have keep:∀b o,s.heap.get? b=some o->(((s.heap.push (aaB "list" #[] 0)).update s.heap.objs.size (aaW (· ++ vs.toArray))).push (aaB "list" vs.toArray 0)).get? b=some o:=λb o q=>by
  have bD:b<s.heap.objs.size:=Zf q
  rw[aa1 _ _ _ (by rw[hsz];exact Zk (ZW bD)),aeF _ _ _ _ (Zk bD),aa1 _ _ _ (Zk bD)]
  exact q
 have Fd:∀b o,s.heap.get? b=some o->(dE (((s.heap.push (aaB "list" #[] 0)).update s.heap.objs.size (aaW (· ++ vs.toArray))).push (aaB "list" vs.toArray 0)) (s.heap.objs.size+1) vs).get? b=some o:=λb o q =>
  wH (Zk (ZW (Zf q))) (keep b o q)
 show wpAny _ _ _ _ _ { s with heap:=((s.heap.push (aaB "list" #[] 0)).update s.heap.objs.size (aaW (· ++ vs.toArray))).push (aaB "list" vs.toArray 0) }
 rw[hsz]
 refine xv (ZI (ZN slot_list_sort ⟨_,rO,rfl⟩ entry_list_sort (vt rO Be (λz R r=>hk z _ Fd _ R r) Bf f_ hz (λz=>hw _ Fd z) ⟨_,rfl,?_⟩) (args_list_sort _)))
 exact Y5 ⟨_,rfl,h⟩
end
noncomputable def dF {α:Type}(lt:Nat->Nat->Bool):KasT α->α
 |.ret a=>a
 |.ask i j k=>dF lt (k (lt i j))
theorem gL {α β:Type}{lt:Nat->Nat->Bool}{f:α->KasT β}:∀t:KasT α,dF lt (t.bind f)=dF lt (f (dF lt t))
 |.ret _=>rfl
 |.ask i j k=>gL (k (lt i j))
noncomputable def gn {α:Type}(N:Nat)(p:α->Prop):KasT α->Prop
 |.ret a=>p a
 |.ask i j k=>i<N/\j<N /\ ∀b,gn N p (k b)
theorem Bg {α:Type}{lt:Nat->Nat->Bool}{N:Nat}{p:α->Prop}{cmp:Nat->Nat->(Bool->Y4->Prop)->Y4->Prop}{s:Y4}(h:∀i j,i<N->j<N->∀C:Bool->Y4->Prop,C (lt i j) s->cmp i j C s){G:α->Y4->Prop}:
  ∀t:KasT α,gn N p t->G (dF lt t) s->t.kasWp cmp G s
 |.ret a,_,g=>g
 |.ask i j k,a,g=>h i j a.1 a.2.1 _ (Bg h (k (lt i j)) (a.2.2 _) g)
theorem gn.run {α:Type}{N:Nat}{p:α->Prop}{lt:Nat->Nat->Bool}:∀{t:KasT α},gn N p t->p (dF lt t)
 |.ret _,h=>h
 |.ask i j k,h=>(h.2.2 (lt i j)).run
theorem gn.bind {α β:Type}{N:Nat}{f:α->KasT β}{p:α->Prop}{q:β->Prop}:∀{t:KasT α},gn N p t->(∀a,p a->gn N q (f a))->gn N q (t.bind f)
 |.ret a,h,k=>k a h
 |.ask i j t,a,k=>⟨a.1,a.2.1,λb=>(a.2.2 b).bind k⟩
noncomputable def cQ (N:Nat)(p:Array Nat):Prop:=p.toList.Perm (Y9 N)
theorem cQ.lt {N:Nat}{p:Array Nat}(h:cQ N p)(hN:0<N)(i:Nat):p.getD i 0<N:=by
 rw[Z1]
 cases e:p[i]? with
 |none=>exact hN
 |some x =>
  have:x∈p.toList:=aer.mpr (acE e)
  exact Zm.mp (h.mem_iff.mp this)
theorem cQ.rev {N:Nat}{p:Array Nat}(h:cQ N p)(i j:Nat):cQ N (aef p i j):=((mirror_perm p i j _).toList).trans h
theorem cQ.Qx {N:Nat}{p:Array Nat}(h:cQ N p)(i j:Nat):cQ N (bubble p i j):=((bubble_perm p i j).toList).trans h
section
variable {N:Nat}(hN:0<N)
include hN
theorem vx {p:Array Nat}(hp:cQ N p):∀f n,gn N (λ_=>True) (kas_asc p f n)
 | 0,_=>abJ
 |f+1,n=>⟨hp.lt hN _,hp.lt hN _,λb=>by
  cases b
  . exact vx hp f (n+1)
  . exact abJ⟩
theorem nF:∀f {p:Array Nat} n q,cQ N p->gn N (λr=>cQ N r.1) (kas_desc f p n q)
 | 0,p,n,q,hp=>hp
 |f+1,p,n,q,hp=>by
  refine⟨hp.lt hN _,hp.lt hN _,λb=>?_⟩
  cases b
  . refine⟨hp.lt hN _,hp.lt hN _,λb=>?_⟩
    cases b
    . exact nF f _ _ hp
    . exact hp
  . simp only[if_true]
    split
    . exact nF f _ _ (hp.rev _ _)
    . exact nF f _ _ hp
theorem vy {p:Array Nat}{n m:Nat}(hp:cQ N p):gn N (λr=>cQ N r.2) (kas_tail3 n m p):=gn.bind (vx hN (hp.rev _ _) _ _) λ_ _=>hp.rev _ _
theorem oh {p:Array Nat}{n m:Nat}(hp:cQ N p):gn N (λr=>cQ N r.2) (aeX n m p):=gn.bind (nF hN _ _ _ hp) λr hr=>by
 split
 . exact vy hN (cQ.rev hr _ _)
 . exact vy hN hr
theorem Ds {p:Array Nat}{n:Nat}(hp:cQ N p):gn N (λr=>cQ N r.2) (kas_count n p):=gn.bind (vx hN hp _ _) λm _=>by
 split
 . exact hp
 split
 . refine⟨hp.lt hN _,hp.lt hN _,λb=>?_⟩
   cases b
   . exact oh hN (hp.rev _ _)
   . exact hp
 . exact oh hN hp
theorem oK {p:Array Nat}{k:Nat}(hp:cQ N p):∀f l r,gn N (λ_=>True) (aeY p k f l r)
 | 0,_,_=>abJ
 |f+1,l,r=>by
  unfold aeY
  split
  . exact abJ
  . refine⟨hp.lt hN _,hp.lt hN _,λb=>?_⟩
    cases b
    . exact oK hp f _ _
    . exact oK hp f _ _
theorem Bh:∀f {p:Array Nat} k,cQ N p->gn N (cQ N) (kas_bin f p k)
 | 0,p,_,hp=>hp
 |f+1,p,k,hp=>gn.bind (oK hN hp _ _ _) λl _=>Bh f _ (hp.Qx _ _)
theorem xN:gn N (cQ N) (aeu N):=gn.bind (Ds hN (show(aeZ (Y9 N)).toList.Perm _ by simp)) λr hr=>by
 split
 . exact Bh hN _ _ hr
 . exact hr
end
end TL
namespace L3
open PySem PySem.Spec PyProof.Rows L2 SeqAt
mutual
noncomputable def ltN:D->D->Option Bool
 |.int a,.int b=>some (decide (a<b))
 |.str a,.str b=>some (decide (a.cps.toList<b.cps.toList))
 |.tup xs,.tup ys=>fV (decide (xs.length<ys.length)) xs ys
 |_,_=>none
noncomputable def fV (fin:Bool):List D->List D->Option Bool
 |x::xs,y::ys=>if aI x y=true then fV fin xs ys else ltN x y
 |_,_=>some fin
end
section
variable {X:Cx}{pins:List (Addr×Obj)}{σ:L2.St}{H:Hp}{s:Y4}{ι:Ix}
mutual
theorem Fe (I:Inv X pins σ H s):∀(d e:D) {A:Zz} {v w:V} {u z:Value} {k:Bool},flat d=true->flat e=true->Rel X.kw H ι d v->Rel X.kw H ι e w->RelV v u->RelV w z->A.units+dep d<cLine->ltN d e=some k->TL.lz A s u z k
 |.int a,e,A,v,w,u,z,k,_,_,r1,r2,ru,rz,_,h=>by
  cases e with
  |int b =>
   simp only[ltN,aai]at h;subst h
   simp only[Rel]at r1 r2;subst r1 r2
   obtain⟨t,rfl⟩:=ru;obtain⟨t',rfl⟩:=rz
   exact .ints a b t t'
  |_=>simp[ltN]at h
 |.str a,e,A,v,w,u,z,k,_,_,r1,r2,ru,rz,_,h=>by
  cases e with
  |str b =>
   simp only[ltN,aai]at h;subst h
   simp only[Rel]at r1 r2;subst r1 r2
   obtain⟨t,rfl⟩:=ru;obtain⟨t',rfl⟩:=rz
   exact .strs a b t t'
  |_=>simp[ltN]at h
 |.tup xs,e,A,v,w,u,z,k,f1,f2,r1,r2,ru,rz,hu,h=>by
  cases e with
  |tup ys =>
   simp only[ltN]at h
   simp only[Rel]at r1 r2
   obtain⟨p,vs,rfl,hq,hr⟩:=r1
   obtain⟨p',ws,rfl,b4,d6⟩:=r2
   cases ru;cases rz
   obtain⟨av,bu,ht,_⟩:=I.tuple hq.sq
   obtain⟨Wz,L7,gY,_⟩:=I.tuple b4.sq
   simp only[dep]at hu
   have l1:av.toArray.size=xs.length:=by rw[Y_,<- bu.length,hr.length]
   have l2:Wz.toArray.size=ys.length:=by rw[Y_,<- L7.length,d6.length]
   refine TL.lz.tuples ht gY (by omega) ?_
   rw[l1,l2]
   exact Bi I xs ys f1 f2 hr d6 bu L7 (by rw[in1_units];omega) h
  |_=>simp[ltN]at h
 |.aA,e,A,v,w,u,z,k,_,_,_,_,_,_,_,h=>by simp[ltN]at h
 |.bl _,e,A,v,w,u,z,k,_,_,_,_,_,_,_,h=>by simp[ltN]at h
 |.lst _,e,A,v,w,u,z,k,_,_,_,_,_,_,_,h=>by simp[ltN]at h
 |.dw,e,A,v,w,u,z,k,_,_,_,_,_,_,_,h=>by simp[ltN]at h
 |.ref _,e,A,v,w,u,z,k,_,_,_,_,_,_,_,h=>by simp[ltN]at h
 |.aM _,e,A,v,w,u,z,k,_,_,_,_,_,_,_,h=>by simp[ltN]at h
 |.fn _,e,A,v,w,u,z,k,_,_,_,_,_,_,_,h=>by simp[ltN]at h
theorem Bi (I:Inv X pins σ H s):∀(xs ys:List D) {A:Zz} {fin k:Bool} {vs ws:List V} {us zs:List Value},aU xs=true->aU ys=true->aj X.kw H ι xs vs->aj X.kw H ι ys ws->Vals vs us->Vals ws zs->A.units+bX xs<cLine ->
  fV fin xs ys=some k->TL.Lex A s fin (us.zip zs) k
 | [],ys,A,fin,k,vs,ws,us,zs,_,_,r1,_,ru,_,_,h=>by
  simp only[aj]at r1;subst r1;cases ru
  simp only[fV,aai]at h;subst h
  simp only[afi];exact .nil
 |d::ds,[],A,fin,k,vs,ws,us,zs,_,_,_,r2,_,rz,_,h=>by
  simp only[aj]at r2;subst r2;cases rz
  simp only[fV,aai]at h;subst h
  simp only[ae0];exact .nil
 |d::ds,e::es,A,fin,k,vs,ws,us,zs,f1,f2,r1,r2,ru,rz,hu,h=>by
  simp only[aj]at r1 r2
  obtain⟨v,vr,rfl,hv,hr⟩:=r1
  obtain⟨w,wr,rfl,hw,AE⟩:=r2
  simp only[aU,Y3]at f1 f2
  simp only[bX]at hu
  cases ru with
  |cons jY uL =>
   cases rz with
   |cons pH AF =>
    have heq:=DK.pO I (A:=A) f1.1 f2.1 hv hw jY pH (by omega)
    simp only[fV]at h
    simp only[ae1]
    split at h
    . rename_i z
      rw[z]at heq
      exact .eq heq (Bi I ds es f1.2 f2.2 hr AE uL AF (by omega) h)
    . rename_i z
      rw[afj.mpr z]at heq
      exact .ne heq (Fe I d e f1.1 f2.1 hv hw jY pH (by omega) h)
end
noncomputable def vz:D->Bool
 |.int _=>true
 |_=>false
theorem vA (I:Inv X pins σ H s){prog:ZC}{w:World}{b fin:Bool}{Q:Bool->Y4->Prop}:∀(xs ys:List D) {A:Zz} {k:Bool} {i:Nat} {vs ws:List V} {us zs:List Value},aU xs=true->aU ys=true->aj X.kw H ι xs vs->aj X.kw H ι ys ws->Vals vs us->Vals ws zs->A.units+bX xs<cLine ->
  (b=true->i=0->(xs.head?.all vz&&ys.head?.all vz)=true)->fV fin xs ys=some k->Q k s->PySem.W.KatLex prog w A b fin Q (us.zip zs) i s
 | [],ys,A,k,i,vs,ws,us,zs,_,_,r1,_,ru,_,_,_,h,q=>by
  simp only[aj]at r1;subst r1;cases ru
  simp only[fV,aai]at h;subst h
  simp only[afi];exact PySem.W.kat_nil q
 |d::ds,[],A,k,i,vs,ws,us,zs,_,_,_,r2,_,rz,_,_,h,q=>by
  simp only[aj]at r2;subst r2;cases rz
  simp only[fV,aai]at h;subst h
  simp only[ae0];exact PySem.W.kat_nil q
 |d::ds,e::es,A,k,i,vs,ws,us,zs,f1,f2,r1,r2,ru,rz,hu,hb,h,q=>by
  simp only[aj]at r1 r2
  obtain⟨v,vr,rfl,hv,hr⟩:=r1
  obtain⟨w',wr,rfl,hw,AE⟩:=r2
  simp only[aU,Y3]at f1 f2
  simp only[bX]at hu
  cases ru with
  |cons jY uL =>
   cases rz with
   |cons pH AF =>
    have heq:=DK.pO I (A:=A) f1.1 f2.1 hv hw jY pH (by omega)
    simp only[fV]at h
    simp only[ae1]
    split at h
    . rename_i z
      rw[z]at heq
      exact PySem.W.kat_cons (heq _ _ _ _ (PySem.W.kat_yes (vA I ds es f1.2 f2.2 hr AE uL AF (by omega) (λ_ z=>by omega) h q)))
    . rename_i z
      rw[afj.mpr z]at heq
      refine PySem.W.kat_cons (heq _ _ _ _ (PySem.W.kat_no ?_))
      have lt:=Fe I d e (A:=A) f1.1 f2.1 hv hw jY pH (by omega) h
      cases Ff:(b&&i == 0)with
      |false =>
       refine PySem.W.kat_one _ _ ?_
       refine lt _ _ _ _ ?_
       exact q
      |true =>
       simp only[Y3,beq_iff_eq]at Ff
       have:=hb Ff.1 Ff.2
       simp only[List.head?_cons,Option.all_some,Y3]at this
       cases d with
       |int a=>cases e with
        |int c =>
         simp only[Rel]at hv hw;subst hv hw
         obtain⟨t,rfl⟩:=jY;obtain⟨t',rfl⟩:=pH
         simp only[ltN,aai]at h;subst h
         exact PySem.W.kat_lt_int q
        |_=>cases this.2
       |_=>cases this.1
end
noncomputable def lC:D->Option Bool
 |.tup (.int _::_)=>some true
 |.tup (.tup _::_)=>some false
 |_=>none
noncomputable def ltB (x y:D):Bool:=(ltN x y).getD false
noncomputable def pY (xs:List D):Bool:=decide (xs.length<64)&&aU xs&&decide (bX xs<=50)&&(decide (xs.length<2)||((xs.all λx=>lC x == some true)||xs.all λx=>lC x == some false))&&xs.all λx=>xs.all λy=>(ltN x y).isSome
noncomputable def j7 (xs:List D):List Nat:=(TL.dF (λi j=>ltB (xs.getD i .aA) (xs.getD j .aA)) (PySem.W.kas_sort xs.length)).toList
noncomputable def h_ (xs:List D):List D:=if xs.length<2 then xs else(j7 xs).map λi=>xs.getD i .aA
noncomputable def gp (ds:List D)(g:G):Option (D×G):=match ds with| [d]=>(dS d g).bind λxs=>if pY xs=true then some (.lst (h_ xs),g)else none|_=>none
theorem jr {xs:List D}(h:2<=xs.length):(j7 xs).Perm (Y9 xs.length):=(TL.xN (N:=xs.length) (by omega)).run
theorem pZ {α:Type}(xs:List α)(d:α):(Y9 xs.length).map (λi=>xs.getD i d)=xs:=by
 apply aaO
 . simp
 . intro i h1 h2
   simp[h2]
theorem zm (xs:List D):(h_ xs).Perm xs:=by
 unfold h_
 split
 . exact .refl _
 . rename_i h
   have:=(jr (xs:=xs) (by omega)).map λi=>xs.getD i .aA
   rw[pZ]at this
   exact this
theorem aj.Fg {K H ι}{xs:List D}{vs:List V}(r:aj K H ι xs vs):∀{is:List Nat},(∀i∈is,i<xs.length)->aj K H ι (is.map λi=>xs.getD i .aA) (is.map λi=>vs.getD i .aA)
 | [],_=>by simp[aj]
 |i::is,h=>by
  simp only[Zw,aj]
  obtain⟨v,h1,h2⟩:=r.get (Y8 (h i Zp))
  refine⟨_,_,rfl,?_,aj.Fg r λj hj=>h j (Zs _ hj)⟩
  have e1:xs.getD i .aA=xs[i]'(h i Zp):=by simp[h i Zp]
  have e2:vs.getD i .aA=v:=by simp[h1]
  rw[e1,e2];exact h2
theorem Vals.pick {vs:List V}{us:List Value}(r:Vals vs us):∀{is:List Nat},(∀i∈is,i<vs.length)->Vals (is.map λi=>vs.getD i .aA) (is.map λi=>us.getD i .none)
 | [],_=>.nil
 |i::is,h=>by
  obtain⟨u,h1,h2⟩:=r.get (Y8 (h i Zp))
  refine .cons ?_ (Vals.pick r λj hj=>h j (Zs _ hj))
  have e1:vs.getD i .aA=vs[i]'(h i Zp):=by simp[h i Zp]
  have e2:us.getD i .none=u:=by simp[h1]
  show RelV (vs.getD i .aA) (us.getD i .none)
  rw[e1,e2];exact h2
section
variable {X:Cx}
theorem vB {pins:List (Addr×Obj)}{σ:L2.St}{H:Hp}{s:Y4}{ι:Ix}(I:Inv X pins σ H s){b:Bool}:∀(xs:List D) {vs:List V} {us:List Value},aj X.kw H ι xs vs->Vals vs us->(∀d∈xs,lC d=some b) ->
  ∃fs,PySem.W.KatTups s.heap us fs/\fs.length=us.length /\ ∀f∈fs,PySem.W.Looks (model X.prog X.w) s.heap (typeOf f) (.type (if b then "int" else "tuple"))
 | [],vs,us,r,ru,_=>by
  simp only[aj]at r;subst r;cases ru
  exact⟨[],PySem.W.KatTups.nil,rfl,λ_ h=>by simp at h⟩
 |d::ds,vs,us,r,ru,ht=>by
  simp only[aj]at r
  obtain⟨v,vr,rfl,hv,hr⟩:=r
  cases ru with
  |cons jY uL =>
   obtain⟨fs,h1,h2,h3⟩:=vB I ds hr uL λe he=>ht e (Zs _ he)
   have hd:=ht d (Zp ..)
   unfold lC at hd
   split at hd
   . rename_i n r'
     cases hd
     simp only[Rel]at hv
     obtain⟨p,vs,rfl,hq,om⟩:=hv
     cases jY
     obtain⟨av,bu,⟨o,ho,hc,m,L8⟩,_⟩:=I.tuple hq.sq
     simp only[aj,Rel]at om
     obtain⟨v1,P6,rfl,rfl,_⟩:=om
     cases bu with
     |cons ri rr =>
      obtain⟨t,rfl⟩:=ri
      refine⟨.int n t::fs,PySem.W.KatTups.cons ho hc L8 rfl h1,by simp[h2],λf hf=>?_⟩
      rcases Zd.mp hf with rfl|hf
      . exact PySem.W.Looks.of_pure rfl
      . exact h3 f hf
   . rename_i ys r'
     cases hd
     simp only[Rel]at hv
     obtain⟨p,vs,rfl,hq,om⟩:=hv
     cases jY
     obtain⟨av,bu,⟨o,ho,hc,m,L8⟩,_⟩:=I.tuple hq.sq
     simp only[aj,Rel]at om
     obtain⟨v1,P6,rfl,⟨q,ws,rfl,mE,_⟩,_⟩:=om
     obtain⟨_,_,⟨o2,f_,jA,_⟩,_⟩:=I.tuple mE.sq
     cases bu with
     |cons ri rr =>
      cases ri
      refine⟨.ref q::fs,PySem.W.KatTups.cons ho hc L8 rfl h1,by simp[h2],λf hf=>?_⟩
      rcases Zd.mp hf with rfl|hf
      . show PySem.W.Looks _ _ (typeOf (.ref q)) (Z3 "tuple")
        rw[<- jA]
        exact(PySem.W.Looks.ld f_).andThen .now
      . exact h3 f hf
   . cases hd
theorem Dt (hu:X.A.units+64<cLine):cA X (.builtin "sorted") (ik X.kw gp):=by
 intro pins s σ H xs us Q I r q
 obtain⟨ι,g,ds,d,g',G0,r1,q,p⟩:=q
 cases ds with
 |nil=>cases q
 |cons e kK =>
 cases kK with
 |cons _ _=>cases q
 |nil =>
  simp only[gp]at q
  obtain⟨ys,hx,q⟩:=bind_some q
  split at q
  . rename_i z
    simp only[pY,Y3,ZR,decide_eq_true_eq]at z
    obtain⟨⟨⟨⟨z1,z2⟩,z3⟩,z4⟩,z5⟩:=z
    cases q
    simp only[aj]at r1
    obtain⟨v,_,rfl,rv,rfl⟩:=r1
    obtain⟨a,vs,rfl,hq,hr⟩:=gB G0 rv hx
    cases r with
    |cons ru rr =>
     cases rr
     cases ru
     obtain⟨av,bu,ht,hsz⟩:=I.list hq
     have hlen:av.length=ys.length:=by rw[<- bu.length,hr.length]
     have WA:vs.length=ys.length:=hr.length.symm
     obtain⟨b,hb⟩:∃b:Bool,2<=ys.length->∀d∈ys,lC d=some b:=by
       rcases z4 with z4|z4|z4
       . exact⟨true,λh=>by omega⟩
       . exact⟨true,λ_ d hd=>eq_of_beq (Zi.mp z4 d hd)⟩
       . exact⟨false,λ_ d hd=>eq_of_beq (Zi.mp z4 d hd)⟩
     have pm:2<=ys.length->∀i∈j7 ys,i<ys.length:=λh i hi=>Zm.mp ((jr h).mem_iff.mp hi)
     have fin:∀(out:List Value) (ov:List V),Vals ov out->aj X.kw H ι (h_ ys) ov->out.length<64->EP X pins σ Q (.ref (s.heap.objs.size+1)) { s with heap:=sortedAll s.heap av out.toArray }:=λout ov h1 h2 hz=>by
       obtain⟨c,hc⟩:=sortedAll_at s.heap av out.toArray
       have dQ:=I.bJ.fresh (abL s.heap.objs.size)
       refine⟨.ref (s.heap.objs.size+1),_,I.laid (t':=s.toks) (λb o e=>sortedAll_old e) (abL _) (show cW X.prog X.w _ _ _ (.lst ov) from⟨by rw[h1.length,aaU];omega,out,c,h1,by simpa[aaB]using hc⟩),rfl,?_⟩
       refine p _ _ _ (Ext.lay dQ) (G0.lay dQ) ?_
       simp only[Rel]
       exact⟨_,_,rfl,.inl ⟨.inl bA,G0.fresh dQ,G0.jE dQ⟩,aj.ext (Ext.lay dQ) _ h2⟩
     have run:∀(h':Heap),(∀b o,s.heap.get? b=some o->h'.get? b=some o)->2<=av.length->(PySem.W.kas_sort av.length).kasWp (PySem.W.kas_ask X.prog X.w X.A.in1.in1 (tuples' b) av) (λp s'=>s'={ s with heap:=h' }/\p=(j7 ys).toArray) { s with heap:=h' }:=λh' hk h2=>by
       have I':Inv X pins σ H { s with heap:=h' }:=I.kept (t':=s.toks) hk
       refine TL.Bg (lt:=λi j=>ltB (ys.getD i .aA) (ys.getD j .aA)) (N:=av.length) (λi j hi hj C hC=>?_) _ (TL.xN (by omega)) ⟨rfl,?_⟩
       . have Fh:i<ys.length:=by omega
         have Fi:j<ys.length:=by omega
         obtain⟨vi,WB,ri⟩:=hr.get (Y8 Fh)
         obtain⟨vj,WC,rj⟩:=hr.get (Y8 Fi)
         obtain⟨ui,WD,WE⟩:=bu.get WB
         obtain⟨uj,WG,WH⟩:=bu.get WC
         unfold PySem.W.kas_ask
         have e1:av.getD i .none=ui:=by simp[WD]
         have e2:av.getD j .none=uj:=by simp[WG]
         have e3:ys.getD i .aA=ys[i]:=by simp[Fh]
         have e4:ys.getD j .aA=ys[j]:=by simp[Fi]
         rw[e1,e2]
         rw[e3,e4]at hC
         have mi:=aaf Fh
         have mj:=aaf Fi
         have ti:=hb (by omega) _ mi
         have tj:=hb (by omega) _ mj
         obtain⟨fi,di⟩:=j3 z2 (Y8 Fh)
         obtain⟨fj,dj⟩:=j3 z2 (Y8 Fi)
         obtain⟨k,L9⟩:=aaV.mp (Zi.mp (Zi.mp z5 _ mi) _ mj)
         unfold ltB at hC
         rw[L9]at hC
         generalize ys[i]=YA at *
         generalize ys[j]=YB at *
         have tup:∀{d:D},lC d=some b->∃zs,d = .tup zs/\(b=true->zs.head?.all vz=true):=fun {d} h=>by
          unfold lC at h
          split at h
          . exact⟨_,rfl,λ_=>rfl⟩
          . cases h;exact⟨_,rfl,λz=>by cases z⟩
          . cases h
         obtain⟨xi,rfl,bi⟩:=tup ti
         obtain⟨xj,rfl,bj⟩:=tup tj
         simp only[Rel]at ri rj
         obtain⟨pi,wi,rfl,qi,Qy⟩:=ri
         obtain⟨pj,wj,rfl,qj,Qz⟩:=rj
         cases WE;cases WH
         obtain⟨ji,QA,⟨oi,WI,_,YC,WJ⟩,_⟩:=I'.tuple qi.sq
         obtain⟨jj,QB,⟨oj,WK,_,YD,sJ⟩,_⟩:=I'.tuple qj.sq
         refine PySem.W.kat_lt WI WJ WK sJ ?_
         have l1:ji.toArray.size=xi.length:=by rw[Y_,<- QA.length,Qy.length]
         have l2:jj.toArray.size=xj.length:=by rw[Y_,<- QB.length,Qz.length]
         simp only[ltN]at L9
         rw[l1,l2]
         simp only[dep]at di
         exact vA I' xi xj fi fj Qy Qz QA QB (by rw[in1_units,in1_units];omega) (λeE _=>by rw[bi eE,bj eE];rfl) L9 hC
       . unfold j7
         rw[hlen]
     refine TL.j6 (κ:=tuples' b) (p0:=(j7 ys).toArray) (out:=if av.length<2 then av else(j7 ys).map λi=>av.getD i .none) ht.isList (by omega) (λh2 h' hk E R hR=>?_) (λh=>if_pos h) (λh=>by rw[if_neg (by omega)]) ?_ run ?_
     . have I':Inv X pins σ H { s with heap:=h' }:=I.kept (t':=s.toks) hk
       obtain⟨fs,k1,k2,k3⟩:=vB I' ys hr bu (hb (by omega))
       refine PySem.W.kat_kind (T:=.type (if b then "int" else "tuple")) k1 (by omega) k3 (by cases b<;>rfl) ?_
       have:((Z3 (if b then "int" else "tuple")) != Z3 "tuple")=b:=by cases b<;>rfl
       rw[this];exact hR
     . split
       . omega
       . rw[Zr,(jr (xs:=ys) (by omega)).length_eq,acr];omega
     . by_cases h2:av.length<2
       . rw[if_pos h2]
         exact fin av vs bu (by unfold h_;rw[if_pos (by omega)];exact hr) (by omega)
       . rw[if_neg h2]
         refine fin _ _ (Vals.pick bu λi hi=>by rw[WA];exact pm (by omega) i hi) ?_ (by rw[Zr,(jr (xs:=ys) (by omega)).length_eq,acr];omega)
         unfold h_
         rw[if_neg (by omega)]
         exact aj.Fg hr (pm (by omega))
  . cases q
end
end L3
namespace TL
open PySem PySem.Spec PySem.SeqAt PyProof.Rows PySem.W
section
variable {N:Nat}(hN:0<N)(f:Nat->Int)(hf:∀i j,i<N->j<N->f i=f j->i=j){lt:Nat->Nat->Bool}(bD:∀i j,i<N->j<N->lt i j=decide (f i<f j))
noncomputable def Fp (f:Nat->Int)(p:Array Nat)(i:Nat):Int:=f (p.getD i 0)
noncomputable def iu (f:Nat->Int)(p:Array Nat)(n:Nat):Prop:=∀i j,i<j->j<n->Fp f p i<Fp f p j
noncomputable def sL (f:Nat->Int)(p:Array Nat)(n:Nat):Prop:=∀i j,i<j->j<n->Fp f p j<Fp f p i
theorem mN {α:Type}{l:List α}(h:l.Nodup){i j:Nat}(hi:i<l.length)(hj:j<l.length)(e:l[i]=l[j]):i=j:=by
 have h':=aaF.mp h
 rcases Nat.lt_trichotomy i j with z|z|z
 . exact absurd e (h' i j hi hj z)
 . exact z
 . exact absurd e.symm (h' j i hj hi z)
theorem cQ.size {p:Array Nat}(h:cQ N p):p.size=N:=by
 have:=h.length_eq
 simpa using this
include hN hf in
theorem zo {p:Array Nat}(hp:cQ N p){i j:Nat}(hi:i<N)(hj:j<N)(gF:i≠j):Fp f p i≠Fp f p j:=λe=>by
 have hs:=hp.size
 have e1:=hf _ _ (hp.lt hN i) (hp.lt hN j) e
 have nd:p.toList.Nodup:=hp.nodup_iff.mpr acA
 have xO:i<p.toList.length:=by simp;omega
 have uA:j<p.toList.length:=by simp;omega
 have g1:p.getD i 0=p.toList[i]:=by simp[Z1,show i<p.size by omega]
 have g2:p.getD j 0=p.toList[j]:=by simp[Z1,show j<p.size by omega]
 rw[g1,g2]at e1
 exact gF (mN nd xO uA e1)
theorem iu.succ {p:Array Nat}{n:Nat}(h:iu f p n)(hn:1<=n)(hl:Fp f p (n-1)<Fp f p n):iu f p (n+1):=λi j gF hj=>by
 by_cases e:j=n
 . subst e
   by_cases e2:i=j-1
   . subst e2;exact hl
   . have:=h i (j-1) (by omega) (by omega);omega
 . exact h i j gF (by omega)
theorem sL.succ {p:Array Nat}{n:Nat}(h:sL f p n)(hn:1<=n)(hl:Fp f p n<Fp f p (n-1)):sL f p (n+1):=λi j gF hj=>by
 by_cases e:j=n
 . subst e
   by_cases e2:i=j-1
   . subst e2;exact hl
   . have:=h i (j-1) (by omega) (by omega);omega
 . exact h i j gF (by omega)
include hN hf bD
theorem qU {p:Array Nat}(hp:cQ N p):∀k n,1<=n->n+k<=N->iu f p n->∃m,dF lt (kas_asc p k n)=m/\iu f p m/\n<=m/\m<=n+k/\(m<n+k->Fp f p m<Fp f p (m-1))
 | 0,n,_,_,h=>⟨n,rfl,h,Za _,by omega,λz=>by omega⟩
 |k+1,n,h1,h2,h=>by
  have e:lt (p.getD n 0) (p.getD (n-1) 0)=decide (Fp f p n<Fp f p (n-1)):=bD _ _ (hp.lt hN n) (hp.lt hN (n-1))
  by_cases c:Fp f p n<Fp f p (n-1)
  . refine⟨n,?_,h,Za _,by omega,λ_=>c⟩
    simp only[kas_asc,dF]
    rw[e,decide_eq_true c];rfl
  . have ne:=zo hN f hf hp (show n<N by omega) (show n-1<N by omega) (by omega)
    obtain⟨m,e1,e2,e3,e4,e5⟩:=qU hp k (n+1) (by omega) (by omega) (h.succ f h1 (by omega))
    refine⟨m,?_,e2,by omega,by omega,λz=>e5 (by omega)⟩
    simp only[kas_asc,dF]
    rw[e,decide_eq_false c];exact e1
theorem vC {p:Array Nat}(hp:cQ N p):∀k n,1<=n->n+k<=N->sL f p n->∃m,dF lt (kas_desc k p n 0)=(p,m,0)/\sL f p m/\n<=m/\m<=n+k
 | 0,n,_,_,h=>⟨n,rfl,h,Za _,by omega⟩
 |k+1,n,h1,h2,h=>by
  have e:lt (p.getD n 0) (p.getD (n-1) 0)=decide (Fp f p n<Fp f p (n-1)):=bD _ _ (hp.lt hN n) (hp.lt hN (n-1))
  have e':lt (p.getD (n-1) 0) (p.getD n 0)=decide (Fp f p (n-1)<Fp f p n):=bD _ _ (hp.lt hN (n-1)) (hp.lt hN n)
  by_cases c:Fp f p n<Fp f p (n-1)
  . obtain⟨m,e1,e2,e3,e4⟩:=vC hp k (n+1) (by omega) (by omega) (h.succ f h1 c)
    refine⟨m,?_,e2,by omega,by omega⟩
    simp only[kas_desc,dF]
    rw[e,decide_eq_true c]
    exact e1
  . have ne:=zo hN f hf hp (show n<N by omega) (show n-1<N by omega) (by omega)
    have c':Fp f p (n-1)<Fp f p n:=by omega
    refine⟨n,?_,h,Za _,by omega⟩
    simp only[kas_desc,dF]
    rw[e,decide_eq_false c]
    simp only[Zh,if_false,dF]
    rw[e',decide_eq_true c']
    rfl
theorem Ih {p:Array Nat}(hp:cQ N p){n:Nat}(hn:n<=N)(h:sL f p n):iu f (aef p 0 n) n:=λi j gF hj=>by
 have hs:=hp.size
 have g:∀k,k<n->Fp f (aef p 0 n) k=Fp f p (n-1-k):=λk hk=>by
  unfold Fp aef
  rw[Z1,Z1,getElem?_mirror_all (by omega),if_pos (by omega)]
  congr 3
  omega
 rw[g i (by omega),g j hj]
 exact h _ _ (by omega) (by omega)
theorem Bj {p:Array Nat}(hp:cQ N p){n:Nat}(h1:1<=n)(hn:n<=N)(h:sL f p n):∃m,dF lt (kas_tail3 n N p)=(m,aef p 0 n)/\iu f (aef p 0 n) m/\1<=m/\m<=N:=by
 obtain⟨m,e1,e2,e3,e4,_⟩:=qU hN f hf bD (hp.rev 0 n) (N-n) n h1 (by omega) (Ih hN f hf bD hp hn h)
 refine⟨m,?_,e2,by omega,by omega⟩
 unfold kas_tail3
 rw[gL,e1];rfl
theorem vD {p:Array Nat}(hp:cQ N p){n:Nat}(h1:1<=n)(hn:n+1<=N)(h:sL f p (n+1)):∃m q,dF lt (aeX n N p)=(m,q)/\cQ N q/\iu f q m/\1<=m/\m<=N:=by
 obtain⟨m,e1,e2,e3,e4⟩:=vC hN f hf bD hp (N-(n+1)) (n+1) (by omega) (by omega) h
 obtain⟨m2,t1,t2,t3,t4⟩:=Bj hN f hf bD hp (n:=m) (by omega) (by omega) e2
 refine⟨m2,_,?_,hp.rev 0 m,t2,t3,t4⟩
 unfold aeX
 rw[gL,e1]
 exact t1
theorem Bk {p:Array Nat}(hp:cQ N p):∃m q,dF lt (kas_count N p)=(m,q)/\cQ N q/\iu f q m/\1<=m/\m<=N:=by
 obtain⟨m,e1,e2,e3,e4,e5⟩:=qU hN f hf bD hp (N-1) 1 (by omega) (by omega) (λi j a b=>by omega)
 unfold kas_count
 rw[gL,e1]
 by_cases hm:m=N
 . subst hm
   exact⟨m,p,by simp[dF],hp,e2,e3,by omega⟩
 . have mH:(m == N)=false:=by simpa using hm
   rw[mH]
   simp only[Zh,if_false]
   by_cases h1:m>1
   . have c:Fp f p 0<Fp f p (m-1):=e2 0 (m-1) (by omega) (by omega)
     have e:lt (p.getD 0 0) (p.getD (m-1) 0)=decide (Fp f p 0<Fp f p (m-1)):=bD _ _ (hp.lt hN 0) (hp.lt hN (m-1))
     refine⟨m,p,?_,hp,e2,e3,by omega⟩
     rw[if_pos h1]
     simp only[dF]
     rw[e,decide_eq_true c]
     rfl
   . have em:m=1:=by omega
     subst em
     rw[if_neg h1]
     refine vD hN f hf bD hp (Za _) (by omega) λi j a b=>?_
     have:=e5 (by omega)
     have:i=0:=by omega
     have:j=1:=by omega
     subst_vars
     assumption
theorem mO {p:Array Nat}(hp:cQ N p){k:Nat}(hk:k<N)(hs:iu f p k):∀c l r,l<=r->r<=k->r-l<=c->(∀i,i<l->Fp f p i<Fp f p k)->(∀i,r<=i->i<k->Fp f p k<Fp f p i) ->
  ∃m,dF lt (aeY p k c l r)=m/\m<=k/\(∀i,i<m->Fp f p i<Fp f p k)/\(∀i,m<=i->i<k->Fp f p k<Fp f p i)
 | 0,l,r,h1,h2,h3,ha,hb=>⟨l,rfl,by omega,ha,λi x y=>hb i (by omega) y⟩
 |c+1,l,r,h1,h2,h3,ha,hb=>by
  unfold aeY
  by_cases QC:l>=r
  . rw[if_pos QC]
    exact⟨l,rfl,by omega,ha,λi x y=>hb i (by omega) y⟩
  . rw[if_neg QC]
    have e:lt (p.getD k 0) (p.getD ((l+r) / 2) 0)=decide (Fp f p k<Fp f p ((l+r) / 2)):=bD _ _ (hp.lt hN k) (hp.lt hN ((l+r) / 2))
    simp only[dF]
    by_cases q:Fp f p k<Fp f p ((l+r) / 2)
    . rw[e,decide_eq_true q]
      exact mO hp hk hs c l ((l+r) / 2) (by omega) (by omega) (by omega) ha λi x y=>by
       by_cases z:i=(l+r) / 2
       . subst z;exact q
       . have:=hs ((l+r) / 2) i (by omega) y;omega
    . have ne:=zo hN f hf hp hk (show(l+r) / 2<N by omega) (by omega)
      rw[e,decide_eq_false q]
      exact mO hp hk hs c ((l+r) / 2+1) r (by omega) (by omega) (by omega) (λi x=>by
       by_cases z:i=(l+r) / 2
       . subst z;omega
       . have:=hs i ((l+r) / 2) (by omega) (by omega);omega) hb
theorem Ii {p:Array Nat}(hp:cQ N p){k m:Nat}(hk:k<N)(hm:m<=k)(hs:iu f p k)(ha:∀i,i<m->Fp f p i<Fp f p k)(hb:∀i,m<=i->i<k->Fp f p k<Fp f p i):iu f (bubble p k (k-m)) (k+1):=by
 have hz:=hp.size
 have g:∀i,Fp f (bubble p k (k-m)) i=if i=m then Fp f p k else if m<i/\i<=k then Fp f p (i-1)else Fp f p i:=λi=>by
   unfold Fp
   rw[Z1,getElem?_bubble (by omega) _ (by omega)]
   rw[show k-(k-m)=m by omega]
   simp only[Z1]
   split
   . rfl
   . split<;>rfl
 intro i j gF hj
 rw[g i,g j]
 by_cases a:i=m
 . rw[if_pos a,if_neg (by omega),if_pos (by omega)]
   exact hb _ (by omega) (by omega)
 . rw[if_neg a]
   by_cases b:j=m
   . rw[if_pos b,if_neg (by omega)]
     exact ha _ (by omega)
   . rw[if_neg b]
     by_cases c:m<i/\i<=k
     . rw[if_pos c,if_pos (by omega)]
       exact hs _ _ (by omega) (by omega)
     . rw[if_neg c]
       by_cases d:m<j/\j<=k
       . rw[if_pos d]
         by_cases e:i=j-1
         . omega
         . exact hs _ _ (by omega) (by omega)
       . rw[if_neg d]
         exact hs _ _ gF (by omega)
theorem xP:∀c {p:Array Nat} k,cQ N p->k+c<=N->iu f p k->∃q,dF lt (kas_bin c p k)=q/\cQ N q/\iu f q (k+c)
 | 0,p,k,hp,_,h=>⟨p,rfl,hp,h⟩
 |c+1,p,k,hp,h1,h=>by
  obtain⟨m,e1,e2,e3,e4⟩:=mO hN f hf bD hp (show k<N by omega) h k 0 k (by omega) (Za _) (by omega) (λi x=>by omega) (λi x y=>by omega)
  obtain⟨q,q1,q2,q3⟩:=xP c (k+1) (hp.Qx k (k-m)) (by omega) (Ii hN f hf bD hp (by omega) e2 h e3 e4)
  refine⟨q,?_,q2,by rw[show k+(c+1)=k+1+c by omega];exact q3⟩
  unfold kas_bin
  rw[gL,e1]
  exact q1
theorem Du:∃q,dF lt (aeu N)=q/\cQ N q/\iu f q N:=by
 obtain⟨m,q,e1,e2,e3,e4,e5⟩:=Bk hN f hf bD (p:=aeZ (Y9 N)) (show(aeZ (Y9 N)).toList.Perm _ by simp)
 unfold aeu
 rw[gL,e1]
 by_cases h:m<N
 . simp only
   rw[if_pos h]
   have hm:max m 1=m:=by omega
   rw[hm]
   obtain⟨r,r1,r2,r3⟩:=xP hN f hf bD (N-m) m e2 (by omega) e3
   exact⟨r,r1,r2,by rw[show m+(N-m)=N by omega]at r3;exact r3⟩
 . simp only
   rw[if_neg h]
   have:m=N:=by omega
   subst this
   exact⟨q,rfl,e2,e3⟩
end
end TL
namespace L3
open PySem PySem.Spec PyProof.Rows L2 SeqAt
theorem wI {xs:List D}{key:D->Int}(hi:∀x∈xs,∀y∈xs,ltB x y=decide (key x<key y))(hk:(xs.map key).Nodup):(h_ xs).Pairwise λx y=>key x<key y:=by
 unfold h_
 by_cases h2:xs.length<2
 . rw[if_pos h2]
   match xs,h2 with
   | [],_=>exact .nil
   | [x],_=>simp
 . rw[if_neg h2]
   have gm:∀i,i<xs.length->xs.getD i .aA∈xs:=λi h=>by simp[h]
   obtain⟨q,q1,q2,q3⟩:=TL.Du (N:=xs.length) (by omega) (λi=>key (xs.getD i .aA)) (λi j a b e=>by
    have ga:(xs.map key)[i]'(by simpa using a)=(xs.map key)[j]'(by simpa using b):=by simpa[a,b]using e
    exact TL.mN hk (by simpa using a) (by simpa using b) ga) (lt:=λi j=>ltB (xs.getD i .aA) (xs.getD j .aA)) (λi j a b=>hi _ (gm i a) _ (gm j b))
   unfold j7
   rw[q1,aab,aaF]
   intro i j xO uA gF
   have hs:=q2.size
   have sM:j<xs.length:=by simp at uA;omega
   have:=q3 i j gF sM
   unfold TL.Fp at this
   have g:∀k (h:k<q.toList.length),q.getD k 0=q.toList[k]:=λk h=>by
    simp at h
    simp[Z1,h]
   rw[g i xO,g j uA]at this
   exact this
end L3
namespace RI
open PySem PySem.Spec PyProof.Rows L2 L3
noncomputable def Sy:gw:=⟨"len",cx,λ_ _=>.inl ⟨_,K8,PySem.boot_len⟩⟩
noncomputable def Sz:gw:=⟨"int",ki,λ_ _=>.inr ⟨_,La,af2⟩⟩
noncomputable def SA:gw:=⟨"tuple",da,λ_ _=>.inr ⟨_,Lb,ad4⟩⟩
noncomputable def Pj:gw:=⟨"list",jq,λ_ _=>.inr ⟨_,Hy,afL⟩⟩
noncomputable def SD:gw:=⟨"all",fu,λ_ hc=>.inl ⟨_,Ld hc,boot_all⟩⟩
noncomputable def SE:gw:=⟨"any",eR,λ_ hc=>.inl ⟨_,HM hc,boot_any⟩⟩
noncomputable def SF:gw:=⟨"sum",ly,λhr _=>.inl ⟨_,HL hr.hd,boot_sum⟩⟩
noncomputable def SG:gw:=⟨"max",qE,λ_ hc=>.inl ⟨_,K9 hc,boot_max⟩⟩
noncomputable def SH:gw:=⟨"min",qF,λ_ hc=>.inl ⟨_,K_ hc,boot_min⟩⟩
noncomputable def Pl:pU:=⟨"get",iL,i5,λhr=>⟨_,_,LK hr.units⟩⟩
noncomputable def isRef:D->Bool
 |.ref _=>true
 |_=>false
theorem vF {X:Cx}{pins:List (Addr×Obj)}{σ:L2.St}{H:Hp}{s:Y4}{ι:Ix}{g:G}{d:D}{x:V}{v:Value}(I:Inv X pins σ H s)(G0:az X.kw H ι g)(r:Rel X.kw H ι d x)(rv:RelV x v)(h:isRef d=true):
  s.TypeIs v "list" /\ ∀a,v = .ref a->∃ob,s.heap.get? a=some ob/\ob.dict=none:=by
 cases d with
 |ref n =>
  simp only[Rel]at r
  obtain⟨a,rfl,ha⟩:=r
  have hi:n<g.length:=by rw[<- G0.len];exact(Y7.mp ha.1).1
  obtain⟨vs,hv,_⟩:=G0.at (Y8 hi) ha
  exact Ai I rv (.inl ⟨rfl,vs,.of hv⟩)
 |_=>cases h
noncomputable def b7 (d:D)(ds:List D)(g:G):Option (D×G):=match d,ds with
 |.ref n,[x]=>(g[n]?).bind λxs=>if aG (xs.length+1)=true then some (.aA,g.set n (xs ++ [x]))else none
 |_,_=>none
theorem Bl {X:Cx}:MR X "list" "append" "list.append" isRef b7 where
 pa:=PySem.F.plainAttrs_list
 slot:=PySem.F.slot_list_append
 ty:=PySem.F.type_list_append
 is:=vF
 run:=by
  intro pins s σ H x xs v us Q I rx rs q
  obtain⟨ι,g,d,ds,d',g',G0,r1,rl,hT,q,p⟩:=q
  cases d with
  |ref n =>
   match ds,q,rl with
   | [y],q,rl =>
    simp only[b7]at q
    obtain⟨ys,hx,q⟩:=bind_some q
    split at q
    . rename_i hz
      cases q
      simp only[Rel]at r1
      obtain⟨a,rfl,ha⟩:=r1
      simp only[aj]at rl
      obtain⟨w,_,rfl,rw_,rfl⟩:=rl
      obtain⟨ws,hw,hr⟩:=G0.at hx ha
      refine r6 pins s σ H _ _ v us Q I rx rs ⟨a,ws,w,rfl,rfl,hw,?_,?_⟩
      . have:=aG.le hz;rw[<- hr.length];omega
      . exact p _ ι _ (Ext.put ha hw) (G0.put ha hw (aj.append hr (by simp only[aj];exact⟨_,_,rfl,rw_,rfl⟩))) (by simp[Rel])
    . cases q
   | [],q,_=>cases q
   |_::_::_,q,_=>cases q
  |_=>cases hT
noncomputable def Dv:pU:=⟨"append",isRef,b7,λ_=>⟨_,_,Bl⟩⟩
noncomputable def iY:D->Bool
 |.lst _=>true
 |_=>false
noncomputable def ia (d:D)(ds:List D)(g:G):Option (D×G):=match d,ds with
 |.lst xs,[x]=>if(fD x&&xs.all fD)=true then(lu xs x).map λ(j:Nat)=>(.int (j:Int),g)else none
 |_,_=>none
noncomputable def Bm (E:Expr->FE)(as:List Expr):FI:=match as with
 | [a]=>gI (aE E [a])
 | [a,b]=>sf (aE E [a,b])
 |_=>pQ
noncomputable def Ij:ze where
 nm:="range"
 tup:=false
 f:=Bm
 ok:=λhr hc hm hg hE cU _=>by
  rename_i X k E tg as p pos
  unfold Bm
  split
  . rename_i a
    simp only[aak,ae2,acw]at cU
    exact ON hg hm (hW hE _) (b6 cU)
  . rename_i a b
    simp only[aak,ae2,acw,aan]at cU
    exact OO hg hm (hW hE _) (by rw[b6 cU.1,b6 cU.2];rfl) (b6 cU.2)
  . exact qS
noncomputable def Bn (E:Expr->FE)(as:List Expr):FI:=match as with
 | [a]=>fP (E a)
 |_=>pQ
noncomputable def L_:ze where
 nm:="enumerate"
 tup:=true
 f:=Bn
 ok:=λhr hc hm hg hE cU ht=>by
  rename_i X k E tg as p pos
  unfold Bn
  split
  . rename_i a
    simp only[aak,ae2,acw]at cU
    have:=ht rfl
    cases tg with
    |Tuple elts kt tp=>exact HI hg hm (hE a) (b6 cU)
    |_=>cases this
  . exact qS
noncomputable def Dw (x:Str):Option Ty:=if x == "int" then some .int else if x == "bool" then some .bool else if x == "str" then some .str else if x == "tuple" then some .tuple else if x == "list" then some .list else if x == "dict" then some .dict else none
theorem Ik {x:Str}{T:Ty}(h:Dw x=some T):x=Zy T.name:=by
 unfold Dw at h
 split at h;· rename_i e;cases h;exact eq_of_beq e
 split at h;· rename_i e;cases h;exact eq_of_beq e
 split at h;· rename_i e;cases h;exact eq_of_beq e
 split at h;· rename_i e;cases h;exact eq_of_beq e
 split at h;· rename_i e;cases h;exact eq_of_beq e
 split at h;· rename_i e;cases h;exact eq_of_beq e
 cases h
noncomputable def Fj:G0->Cs->(Expr->FE)->Expr->Option FT:=λ_ _ _ _=>none
noncomputable def SI:nD where
 e:=λm c E _ x=>match x with
  |.Call (.Name f _) [a,.Name t _] [] _=>if f == "isinstance" && c.sc.names.lookup f == some .globalImplicit&&c.sc.names.lookup t == some .globalImplicit&&m.jf.elem f&&m.jf.elem t && !(isStar a)then(Dw t).map λT=>iB T (E a)else none
  |_=>none
 xF:=by
  intro m c X E g hE rf x f h
  split at h
  . rename_i f' p a t p2 pos
    split at h
    . rename_i hh
      simp only[Y3,beq_iff_eq,Zx]at hh
      obtain⟨⟨⟨⟨⟨h1,h2⟩,h3⟩,h4⟩,h5⟩,h6⟩:=hh
      obtain⟨T,hT,h⟩:=Zq.mp h
      subst h
      have e:=Ik hT
      subst h1
      subst e
      exact Lc T (g.bl _ (abm.mp h4)) (g.bl _ (abm.mp h5)) (hE a) (g.gl h2) (g.gl h3) (b6 h6)
    . cases h
  . cases h
 t:=Fj
 tok:=by intro m c X E g hE x f h;cases h
theorem Dx {X:Cx}{pins:List (Addr×Obj)}{σ:L2.St}{H:Hp}{s:Y4}{ι:Ix}{g:G}{d:D}{x:V}{v:Value}(I:Inv X pins σ H s)(G0:az X.kw H ι g)(r:Rel X.kw H ι d x)(rv:RelV x v)(h:iY d=true):
  s.TypeIs v "list" /\ ∀a,v = .ref a->∃ob,s.heap.get? a=some ob/\ob.dict=none:=by
 cases d with
 |lst xs =>
  simp only[Rel]at r
  obtain⟨a,vs,rfl,hq,hr⟩:=r
  exact Ai I rv (.inl ⟨rfl,vs,hq.sq⟩)
 |_=>cases h
theorem Dy {X:Cx}:MR X "list" "index" "list.index" iY ia where
 pa:=PySem.F.plainAttrs_list
 slot:=PySem.F.slot_list_index
 ty:=PySem.F.type_list_index
 is:=Dx
 run:=by
  intro pins s σ H x xs v us Q I rx rs q
  obtain⟨ι,g,d,ds,d',g',G0,r1,rl,hT,q,p⟩:=q
  cases d with
  |lst ys =>
   match ds,q,rl with
   | [y],q,rl =>
    simp only[ia]at q
    split at q
    . rename_i hz
      simp only[Y3]at hz
      obtain⟨j,hj,q⟩:=Zq.mp q
      cases q
      simp only[Rel]at r1
      obtain⟨a,vs,rfl,hq,hr⟩:=r1
      simp only[aj]at rl
      obtain⟨w,_,rfl,rw_,rfl⟩:=rl
      obtain⟨e1,_⟩:=nA hz.1 rw_
      obtain⟨e2,_⟩:=oF hz.2 hr
      subst e1 e2
      exact AY pins s σ H _ _ v us Q I rx rs ⟨a,ys,y,j,rfl,hq.sq,rfl,hz.1,hz.2,hj,p H ι _ Ext.refl G0 (by simp[Rel])⟩
    . cases q
   | [],q,_=>cases q
   |_::_::_,q,_=>cases q
  |_=>cases hT
noncomputable def Il:pU:=⟨"index",iY,ia,λ_=>⟨_,_,Dy⟩⟩
noncomputable def Bo (d:bw):Bool :=
 decide ((bN d.st).kind = .function) && !(bN d.st).isCoroutine && !(bN d.st).isGenerator&&xI d.N&&decide (d.N.take d.ps.length=d.ps) &&
 d.ps.all (λx=>(bN d.st).names.lookup x == some .local||(bN d.st).names.lookup x == some .cell)&&(bN d.st).names.all (λy=>!(y.2 == .free))
noncomputable def xQ (ds:List bw):Bool:=ds.all Bo
theorem Bp {ds:List bw}(h:xQ ds=true):∀d∈ds,jt d.N d.ps (bN d.st):=λd hd=>by
 have:=Zi.mp h d hd
 simp only[Bo,Y3,decide_eq_true_eq,Zx,Zi,ZR,beq_iff_eq]at this
 obtain⟨⟨⟨⟨⟨⟨h1,h2⟩,h3⟩,h4⟩,h5⟩,h6⟩,h7⟩:=this
 exact⟨h1,h2,h3,vm h4,h5,h6,λy hy e=>by have:=h7 y hy;rw[e]at this;simp at this⟩
noncomputable def At (K:PySem.W.Frag)(w:World)(mg:Str->Option Value)(M:Mo):Prop:=∃fs hX,bO K M.ds fs hX/\(∀y∈M.jf,PySem.W.nsIn K ZX y=some none) /\
 (∀y e,(y,e)∈M.vd->∃v u,PySem.W.nsIn K ZX y=some (some u)/\RelV v u /\ ∀K H ι,Rel K H ι e v) /\
 (∀y t,(y,t)∈M.xC->∃a,PySem.W.nsIn K ZX y=some (some (.ref a))/\tG w ⟨K,w,mg⟩ a t)
theorem Im {l:PySem.W.OpenLaw}{q:ZC}{loose:List Str}{XP:(Str->Option Value)->Heap->Prop}{YP:World->Heap->Prop}{d:DefRec}{K:Params->PySem.W.Frag}{M:Mo}{T:Nat->Nat->Fn}{i R:Nat}{dt:bw}{x:Str}(hn:l.most=some 63)(hr:aO R ac1)(uv:d.params.defaults = [])(Ma:d.name = "law")
  (hY:∀(w:World) (h:Heap),YP w h->(K w.params).In h)
  (F:∀(w:World) (mg:Str->Option Value) (h:Heap),(K w.params).In h->h.Ns ZX mg->At (K w.params) w mg M)
  (hd:M.ds[i]? = some dt) (hx:dt.ps = [x]) (L6:dt.nm = "law") (gd:Good M T)
  (spec:∀ns:List Int,ns.length<=63->∃g',T R i [.lst (ns.map .int)] []=some (.bl true,g')):
  PySem.W.WalkO q loose XP YP l.row.toRowW d [] (λf vs=>PySem.call f vs):=
 L2.He (n:=63) (k:=R) (x:=x) (CX:=λ_=>i_) (sp:=λw=>zl (K w.params)) hn (by decide) uv hr hY
  (λw mg fa h KX G Fb=>by
   obtain⟨fs,hX,L,B,C,Dc⟩:=F w mg h KX G
   rw[Ma]at Fb
   exact whole KX G hd hx L6 Fb gd L B C Dc spec)
  (λ_ _ a ns hl _ hS=>⟨a,ns,rfl,hS,hl,λ_=>rfl⟩) λ_ _ _ _ _ z=>z
section
variable {α β:Type}{P:α->Prop}{Q:α->β->Prop}
theorem bn:∀y∈([]:List α),P y:=λy h=>by simp at h
theorem bc {x:α}{l:List α}(h:P x)(r:∀y∈l,P y):∀y∈x::l,P y:=λy z=>by
 rcases Zd.mp z with rfl|z
 . exact h
 . exact r y z
theorem QD:∀y e,(y,e)∈([]:List (α×β))->Q y e:=λy e h=>by simp at h
theorem cc {x:α}{d:β}{l:List (α×β)}(h:Q x d)(r:∀y e,(y,e)∈l->Q y e):∀y e,(y,e)∈(x,d)::l->Q y e:=λy e z=>by
 rcases Zd.mp z with z|z
 . cases z;exact h
 . exact r y e z
end
theorem cI {K:PySem.W.Frag}{y:Str}{i:Int}{t:Tok}(h:PySem.W.nsIn K ZX y=some (some (.int i t))):∃v u,PySem.W.nsIn K ZX y=some (some u)/\RelV v u /\ ∀K H ι,Rel K H ι (.int i) v:=⟨.int i,_,h,⟨t,rfl⟩,λ_ _ _=>by simp[Rel]⟩
theorem p4 {K H ι}:∀{xs:List D} {vs:List V} (k:Nat),aj K H ι xs vs->aj K H ι (xs.eraseIdx k) (vs.eraseIdx k)
 | [],vs,k,h=>by simp only[aj]at h;subst h;simp[aj]
 |x::xs,vs,k,h=>by
  simp only[aj]at h
  obtain⟨v,vr,rfl,h1,h2⟩:=h
  cases k with
  |zero=>simpa using h2
  |succ k =>
   simp only[adO,aj]
   exact⟨v,_,rfl,h1,p4 k h2⟩
theorem sZ {K H ι}{xs:List D}{vs:List V}(h:aj K H ι xs vs):aj K H ι xs.dropLast vs.dropLast:=by
 rw[aeg,aeg,h.length.symm.symm]
 have:∀(n:Nat) {xs:List D} {vs:List V},aj K H ι xs vs->aj K H ι (xs.take n) (vs.take n):=λn=>by
  induction n with
  |zero=>intro xs vs _;simp[aj]
  |succ n ih =>
   intro xs vs h
   cases xs with
   |nil=>simp only[aj]at h;subst h;simp[aj]
   |cons x xs =>
    simp only[aj]at h
    obtain⟨v,vr,rfl,h1,h2⟩:=h
    simp only[acZ,aj]
    exact⟨v,_,rfl,h1,ih h2⟩
 exact this _ h
noncomputable def ko (d:D)(ds:List D)(g:G):Option (D×G):=match d,ds with
 |.ref n,[]=>(g[n]?).bind λxs=>(xs[xs.length-1]?).map λy=>(y,g.set n xs.dropLast)
 |.ref n,[.int i]=>(g[n]?).bind λxs=>if(decide (-1000000<=i)&&decide (i<=1000000))=true then(ac9 i xs.length).bind λk=>(xs[k]?).map λy=>(y,g.set n (xs.eraseIdx k))else none
 |_,_=>none
theorem Mb {X:Cx}:MR X "list" "pop" "list.pop" isRef ko where
 pa:=PySem.F.plainAttrs_list
 slot:=PySem.F.slot_list_pop
 ty:=PySem.F.type_list_pop
 is:=vF
 run:=by
  intro pins s σ H x xs v us Q I rx rs q
  obtain⟨ι,g,d,ds,d',g',G0,r1,rl,hT,q,p⟩:=q
  unfold ko at q
  split at q
  . rename_i n
    obtain⟨ys,hx,q⟩:=bind_some q
    obtain⟨y,hy,q⟩:=Zq.mp q
    cases q
    simp only[Rel]at r1
    obtain⟨a,rfl,ha⟩:=r1
    simp only[aj]at rl
    subst rl
    obtain⟨ws,hw,hr⟩:=G0.at hx ha
    obtain⟨w,Mc,rw_⟩:=hr.get hy
    refine Kf pins s σ H _ _ v us Q I rx rs ⟨a,ws,w,rfl,rfl,hw,by rw[<- hr.length];exact Mc,?_⟩
    exact p _ ι _ (Ext.put ha hw) (G0.put ha hw (sZ hr)) (Rel.ext (Ext.put ha hw) _ rw_)
  . rename_i n i
    obtain⟨ys,hx,q⟩:=bind_some q
    split at q
    . rename_i hb
      simp only[Y3,decide_eq_true_eq]at hb
      obtain⟨k,hk,q⟩:=bind_some q
      obtain⟨y,hy,q⟩:=Zq.mp q
      cases q
      simp only[Rel]at r1
      obtain⟨a,rfl,ha⟩:=r1
      simp only[aj,Rel]at rl
      obtain⟨w0,_,rfl,rfl,rfl⟩:=rl
      obtain⟨ws,hw,hr⟩:=G0.at hx ha
      obtain⟨w,Mc,rw_⟩:=hr.get hy
      refine CA pins s σ H _ _ v us Q I rx rs ⟨a,ws,i,k,w,rfl,rfl,hw,by omega,by omega,by rw[<- hr.length];exact hk,Mc,?_⟩
      exact p _ ι _ (Ext.put ha hw) (G0.put ha hw (p4 k hr)) (Rel.ext (Ext.put ha hw) _ rw_)
    . cases q
  . cases q
noncomputable def Pm:pU:=⟨"pop",isRef,ko,λ_=>⟨_,_,Mb⟩⟩
noncomputable def vE (E:Expr->FE)(v:Expr):FE:=match v with
 |.List es _=>aK mkRef (aE E es)
 |v=>E v
theorem Pn {X:Cx}{E:Expr->FE}(hE:∀e,DE X e (E e))(v:Expr):DE X v (vE E v):=by
 unfold vE
 split
 . exact As (hW hE _)
 . exact hE _
noncomputable def Bq (E:Expr->FE):List (Option Expr)->List Expr->List (FE×FE)
 |some k::ks,v::vs=>(E k,vE E v)::Bq E ks vs
 |_,_=>[]
theorem Br {X:Cx}{E:Expr->FE}(hE:∀e,DE X e (E e)):∀(ks:List (Option Expr)) (vs:List Expr),ks.all (·.isSome)=true->ks.length=vs.length->fR X ks vs (Bq E ks vs)
 | [],[],_,_=>by simp[Bq,fR]
 | [],_::_,_,h=>by simp at h
 |_::_,[],_,h=>by simp at h
 |none::_,_::_,h,_=>by simp at h
 |some k::ks,v::vs,h,hl=>by
  simp only[Bq,fR]
  exact⟨hE k,Pn hE v,Br hE ks vs (by simpa using h) (by simpa using hl)⟩
noncomputable def Po:nD where
 e:=λm c E _ x=>match x with
  |.Dict (k::ks) vals _=>if(k::ks).all (·.isSome)&&decide ((k::ks).length=vals.length)&&decide ((k::ks).length<=15)then some (kO (Bq E (k::ks) vals))else none
  |_=>none
 xF:=by
  intro m c X E g hE rf x f h
  split at h
  . rename_i k ks vals pos
    split at h
    . rename_i hh
      rw[Y3,Y3,decide_eq_true_eq,decide_eq_true_eq]at hh
      cases h
      exact C9 g.hu (Br hE _ _ hh.1.1 hh.1.2) hh.1.1 hh.1.2 (by simp) hh.2
    . cases h
  . cases h
 t:=Fj
 tok:=by intro m c X E g hE x f h;cases h
end RI
namespace PySem
namespace F
end F
end PySem
namespace L3
open PySem PySem.Spec PyProof.Rows L2 SeqAt DK
end L3
namespace HX
open PySem
noncomputable def rl (x:Nat):Nat:=(x*2147483648) % 18446744073709551616+x / 8589934592
noncomputable def gx (w:Nat):Nat:=let y:=((w+18446744073709551616-2870177450013471924) % 18446744073709551616)*614540362697595703 % 18446744073709551616;y % 2147483648*8589934592+y / 2147483648
noncomputable def out (w:Nat):Int:=if(w == 18446744073709551616-1)=true then 1546275796 else if w<9223372036854775808 then(w:Int)else(w:Int)-18446744073709551616
end HX
set_option maxRecDepth 10000
namespace HX
open PySem
theorem el (a b:Int):[a,b].length=2:=rfl
theorem ec:((18446744073709551616:Nat):Int)=18446744073709551616:=rfl
end HX
namespace L3
open PySem PySem.Spec PyProof.Rows L2 SeqAt DK HX
end L3
namespace L3
open PySem PySem.Spec PyProof.Rows L2
end L3
namespace RI
open PySem PySem.Spec PyProof.Rows L2 L3
end RI
namespace PySem
end PySem
namespace L3
open PySem PySem.Spec PyProof.Rows L2 SeqAt DK
end L3
namespace DK
open PySem PySem.Spec PyProof.Rows L2 L3
theorem Bs {prog:ZC}{w:World}{A:Zz}(hh:A.handled=none)(I d:Addr)(jI:d≠I)(es:Array ZE)(ep:Nat):
  Walks prog w A I [I,d] [I] es.size (λi v=>∃e,es[i]? = some e/\v=e.key) (λi h=>h.IsKeyIter I d i es.size ep/\h.get? d=some { cls:=.type "dict",data:=.dict es ep }) where
 sub:=λb hb=>by simp at hb;simp[hb]
 frame:=λ_ _ _ st hk=>⟨st.1.at λo e=>hk I (by simp) o e,hk d (by simp) _ st.2⟩
 item:=λi s Q E hi st hQ=>by
  have he:es[i]? = some es[i]:=by simp[hi]
  refine next_item st.1 st.2 rfl he λh' qM AM=>?_
  exact hQ _ h' s.toks ⟨_,he,rfl⟩ ⟨qM,AM.extBut d _ jI st.2⟩ λb o hb e=>AM.extBut b o (λh=>hb (by simp[h])) e
 done:=λs Q E st hQ=>next_end hh st.1 st.2 rfl (Za _) λh' LC=>hQ h' s.toks λb o hb e=>LC b o (λh=>hb (by simp[h])) e
 self:=λ_ _ _ _ st hQ=>aet st.1 hQ
theorem Io {prog:ZC}{w:World}{d:Addr}{es:Array ZE}{ep:Nat}(lo:(d == aa_)=false):
  PySem.W.KdlSrc prog w "dict" d d es.size (λi v=>∃e,es[i]? = some e/\v=e.key) (λh=>h.get? d=some { cls:=.type "dict",data:=.dict es ep }) where
 type:=λ_ hm=>⟨_,hm,rfl⟩
 there:=λ_ hm=>⟨Zf hm,Zf hm⟩
 keep:=λ_ _ hm hk=>hk d (.inl rfl) _ hm
 notList:=by decide
 notTuple:=by decide
 hint:=λ_ _ _ _ hm hq=>PySem.W.kdl_hint_dict ⟨_,hm,rfl⟩ hq
 iter:=λ_ _ hh hm=>⟨_,_,(λ_ _ hq=>u_ lo hm hq),Bs hh _ d (Zk (Zf hm)) es ep,⟨⟨_,Zg _ rfl,rfl,rfl⟩,Y6 _ hm⟩⟩
theorem Dz {K H ι}{xs:List D}{es:List ZE}(en:Ent K H ι xs es):∃ks:List V,Vals ks (es.map (·.key))/\aj K H ι (aS xs) ks:=by
 induction en with
 |nil=>exact⟨[],.nil,by simp[aS,aj]⟩
 |cons _ _ rk rv _ _ _ ih =>
  obtain⟨ks,h1,h2⟩:=ih
  exact⟨_::ks,.cons rv h1,by simp only[aS,aj];exact⟨_,_,rfl,rk,h2⟩⟩
end DK
namespace L3
open PySem PySem.Spec PyProof.Rows L2 SeqAt DK
end L3
namespace L3
open PySem PySem.Spec PyProof.Rows L2
noncomputable abbrev Bt:Ix:=⟨[],[],λ_=>0⟩
theorem jD.i0 {K H ι a xs}(h:jD K H ι a xs):jD K H Bt a xs:=by
 rcases h with⟨h,_⟩|h
 . exact .inl ⟨h,by simp⟩
 . exact .inr h
theorem kE.i0 {K H ι a xs}(h:kE K H ι a xs):kE K H Bt a xs:=by
 rcases h with⟨h,_⟩|h
 . exact .inl ⟨h,by simp,by simp⟩
 . exact .inr h
mutual
theorem Rel.i0 {K H ι}:∀(d:D) {v:V},flat d=true->Rel K H ι d v->Rel K H Bt d v
 |.aA,v,_,h=>by simpa[Rel]using h
 |.bl _,v,_,h=>by simpa[Rel]using h
 |.int _,v,_,h=>by simpa[Rel]using h
 |.str _,v,_,h=>by simpa[Rel]using h
 |.tup xs,v,f,h=>by
  simp only[Rel]at h ⊢
  obtain⟨a,vs,e1,hq,hr⟩:=h
  exact⟨a,vs,e1,hq.i0,aj.i0 xs (by simpa[flat]using f) hr⟩
 |.lst xs,v,f,h=>by
  simp only[Rel]at h ⊢
  obtain⟨a,vs,e1,hq,hr⟩:=h
  exact⟨a,vs,e1,hq.i0,aj.i0 xs (by simpa[flat]using f) hr⟩
 |.dw,v,f,h=>by cases f
 |.ref n,v,f,h=>by cases f
 |.aM n,v,f,h=>by cases f
 |.fn x,v,f,h=>by cases f
theorem aj.i0 {K H ι}:∀(ds:List D) {vs:List V},aU ds=true->aj K H ι ds vs->aj K H Bt ds vs
 | [],vs,_,h=>by simpa[aj]using h
 |d::ds,vs,f,h=>by
  simp only[aU,Y3]at f
  simp only[aj]at h ⊢
  obtain⟨v,vr,e1,hq,hr⟩:=h
  exact⟨v,vr,e1,Rel.i0 d f.1 hq,aj.i0 ds f.2 hr⟩
end
noncomputable def dr (d:D)(g:G):D:=match d with
 |.ref n=>(match g[n]? with|some xs=>.lst xs|none=>.ref n)
 |d=>d
theorem Bu {K H ι g d v}(G0:az K H ι g)(r:Rel K H ι d v)(f:flat (dr d g)=true):Rel K H Bt (dr d g) v:=by
 cases d with
 |ref n =>
  cases hx:g[n]? with
  |none =>
   have e:dr (.ref n) g = .ref n:=by simp only[dr,hx]
   rw[e]at f
   cases f
  |some xs =>
   have e:dr (.ref n) g = .lst xs:=by simp only[dr,hx]
   rw[e]at f ⊢
   simp only[Rel]at r
   obtain⟨a,rfl,ha⟩:=r
   obtain⟨vs,hH,hr⟩:=G0.at hx ha
   simp only[Rel]
   exact⟨a,vs,rfl,.inl ⟨.inl hH,by simp,by simp⟩,aj.i0 xs (by simpa[flat]using f) hr⟩
 |_=>exact Rel.i0 _ f r
noncomputable def kq (d1 d2:D)(g:G):Option (D×G):=if(flat (dr d1 g)&&flat (dr d2 g)&&decide (dep (dr d1 g)<=60))=true then some (.bl (!aI (dr d1 g) (dr d2 g)),g)else none
theorem Bv {X:Cx}(hu:X.A.units+64<cLine):bz X (ZF .NotEq) (cG X.kw kq):=by
 intro pins s σ H x y v u Q I rx ry q
 obtain⟨ι,g,d1,d2,d,g',G0,r1,r2,q,p⟩:=q
 unfold kq at q
 split at q
 . rename_i z
   simp only[Y3,decide_eq_true_eq]at z
   cases q
   exact AU I _ _ z.1.1 z.1.2 (Bu G0 r1 z.1.1) (Bu G0 r2 z.1.2) rx ry (by omega) _ _ _ _ ⟨.bl _,H,I,rfl,p H ι _ Ext.refl G0 (by simp[Rel])⟩
 . cases q
end L3
namespace RI
open PySem PySem.Spec PyProof.Rows L2 L3
noncomputable def Bw (c:Cs)(l:Expr):Bool:=vo c l||(match l with|.Call (.Name _ _) _ _ _=>true|_=>false)
noncomputable def SJ:nD where
 e:=λm c E _ x=>match x with
  |.Compare l [.NotEq] [b] _=>if Bw c l && !(isSet b)then some (aq kq (E l) (E b))else none
  |_=>none
 xF:=by
  intro m c X E g hE rf x f h
  split at h
  . split at h
    . rename_i hh
      simp only[Y3,Zx]at hh
      cases h
      exact Ao (Bv g.hu) (hE _) (hE _) (marks hh.2)
    . cases h
  . cases h
 t:=λm c E x=>match x with
  |.Compare l [.NotEq] [b] _=>if Bw c l && !(isSet b)then some (aH (aq kq (E l) (E b)))else none
  |_=>none
 tok:=by
  intro m c X E g hE x f h
  split at h
  . split at h
    . rename_i hh
      simp only[Y3,Zx]at hh
      cases h
      exact Ap (Bv g.hu) (hE _) (hE _) (marks hh.2)
    . cases h
  . cases h
end RI
namespace PySem
namespace F
theorem Bx:typeLookup (.type "list_reverseiterator") "__len__" = pure none:=by rw[typeLookup_type,aeh];kernel_rfl
theorem DB:typeLookup (.type "list_reverseiterator") "__length_hint__" = pure (some (.builtin "list_reverseiterator.__length_hint__")):=by rw[typeLookup_type,aeh];kernel_rfl
end F
section
variable {prog:ZC}{w:World}{A:Zz}{E:Value->Y4->Prop}{s:Y4}
theorem lD {x:Value}{Q:List Value->Y4->Prop}
  (h:∀R:Result->Y4->Prop,(∀(h':Heap) (tk:Nat) (fK:Array Value) (c':Nat),h'.get? s.heap.objs.size=some { cls:=.type "list",dict:=none,data:=.seq fK c',slots:=#[] }->Q fK.toList { s with heap:=h',toks:=tk }->R (.ok (.ret (.ref s.heap.objs.size))) { s with heap:=h',toks:=tk }) ->
   wpAny (model prog w) A.in1 (abe (.ref s.heap.objs.size) x (.ref s.heap.objs.size))
    (λfin s'=>match fin with|.done f=>R (.ok f) s'|.again c'=>c'.quiet=true/\ac0 (model prog w) A c' R s') (λe s'=>R (.error e) s') { s with heap:=s.heap.push { cls:=.type "list",data:=.seq #[] } }):
  wpAny (model prog w) A (ae8 x) Q E s:=by
 unfold ae8
 refine xv (wpAny_runValue (acS F.entry_proto_collect ?_))
 rw[acT F.plain_proto_collect _]
 show wpAny _ A.in1 (newList [] >>= λl=>again (.builtin "list.__iadd__" ⟨[l,x],[]⟩)) _ _ s
 refine xv (ZL ?_)
 refine Y5 ⟨aeD F.plain_list_iadd _,acS F.entry_list_iadd ?_⟩
 rw[acT F.plain_list_iadd _]
 show wpAny _ A.in1 (abe (.ref s.heap.objs.size) x (.ref s.heap.objs.size)) _ _ _
 refine h (wants _ E) λh' tk fK c' hS hq=>?_
 show wpAny _ A (load s.heap.objs.size >>= _) _ _ _
 refine xv (wpAny_load hS ?_)
 exact Y5 hq
theorem DC {I:Addr}{T:String}{Q:Value->Y4->Prop}(WL:s.TypeIs (.ref I) T)(jI:(Z3 T == Z3 "tuple")=false)
  (h:∀A':Zz,A'.handled=A.handled->∀(E':Value->Y4->Prop) (Q':List Value->Y4->Prop),(∀(h':Heap) (tk:Nat) (acc:Array Value),acc.size<=Zl->Q (.ref h'.objs.size) { s with heap:=h'.push { cls:=.type "tuple",data:=.seq acc },toks:=tk }->Q' acc.toList { s with heap:=h',toks:=tk })->wpAny (model prog w) A' (ae8 (.ref I)) Q' E' s):
  wpAny (model prog w) A (call (.type "tuple") [.ref I]) Q E s:=by
 refine callType_codes (Q₁:=λobj s₁=>s₁.TypeIs obj "tuple" /\ Q obj s₁) F.called_tuple (F.typeCall_tuple_1 _) F.entry_object_init ?_ λobj s₁ h₁ =>
  ⟨h₁.1,F.args_object_init_2 obj _,object_init_meets F.called_tuple.init.lookup F.called_tuple.made (by decide) prog w A.in1 _ s₁ ⟨h₁.1,rfl,h₁.2⟩⟩
 refine codeAny_of_tree ?_
 show wpAny _ A.in1.in1 (do checkBuiltinCall "tuple.__new__" ⟨[.type "tuple",.ref I],[]⟩;again (.builtin "tuple.__new__" ⟨[.type "tuple",.ref I],[]⟩)) _ _ s
 refine xv (wpAny_of_eq (F.newCall_tuple_1 _) (Y5 ⟨aeD F.plain_tuple_new _,acS F.entry_tuple_new ?_⟩))
 rw[acT F.plain_tuple_new _]
 have SK:=sub_tuple_self
 have X5:=init_tuple_lookup
 have YE:=madeHere_tuple
 wp_walk using aci WL,(h A.in1.in1 rfl)
 intro h' tk acc hz hq
 show wpAny _ _ (ZO acc.toList.toArray >>= λv=>ret v) _ _ _
 unfold ZO
 refine xv (ZL ?_ (by show acc.toList.toArray.size<=Zl;simpa using hz))
 refine Y5 ?_
 have e:acc.toList.toArray=acc:=by simp
 rw[e]
 exact⟨⟨_,Zg _ rfl,rfl⟩,hq⟩
theorem zp {R:Result->Y4->Prop}{I l:Addr}{items:Array Value}(hh:A.handled=none)(hit:s.heap.IsRevIter I l ((items.size:Int)-1))(hl:s.heap.IsList l items)(jI:l≠I)(hsz:items.size<=Zl)(S:Addr)(QE:S≠I)(WM:S≠l)(res:Value)(c₀:Nat)
   (hS:s.heap.get? S=some { cls:=.type "list",data:=.seq #[] c₀ })
   (hR:∀(h':Heap) (tk:Nat) (fK:Array Value) (c':Nat),(∀b o,b≠S->b≠I->s.heap.get? b=some o->h'.get? b=some o)->h'.get? S=some { cls:=.type "list",dict:=none,data:=.seq fK c',slots:=#[] } ->
    ItemsOf (λi v=>items[items.size-1-i]? = some v) fK items.size->R (.ok (.ret res)) { s with heap:=h',toks:=tk }):
   wpAny (model prog w) A.in1 (abe (.ref S) (.ref I) res)
    (λfin s'=>match fin with|.done f=>R (.ok f) s'|.again c'=>c'.quiet=true/\ac0 (model prog w) A c' R s') (λe s'=>R (.error e) s') s:=by
 have W:=(Walks.listRev (prog:=prog) (w:=w) (A:=A.in1) hh I l jI items).toS
 have Md:S ∉ [I,l]:=by simp only[Zd,acB,or_false,not_or];exact⟨QE,WM⟩
 have cU:(0:Nat)<=items.size/\s.heap.IsRevIter I l ((items.size:Int)-1-((0:Nat):Int))/\s.heap.IsList l items:=⟨ZM _,by simpa using hit,hl⟩
 have h1:adK (.ref S) (.ref I)=false:=by simp[adK,QE]
 unfold abe
 refine xv (aci hit.typeIs ?_)
 rw[if_neg (by rw[h1];decide)]
 refine xv (wpAny_pyIter_revIter hit ?_)
 refine xv (ZI ?_)
 unfold Builtin.List.listLengthHint
 refine xv (acQ hit.typeIs F.Bx ?_)
 show wpAny _ A.in1 (specialOf (abX I) (Zy "__length_hint__") >>= _) _ _ _
 refine xv (acQ hit.typeIs F.DB ?_)
 (generalize cK:("list_reverseiterator.__length_hint__":String)=QF;(fail_if_success (clear cK QF));wp_delta;rw[show splitId QF=some ("list_reverseiterator","__length_hint__") from by subst cK;decide +kernel];subst cK)
 refine xv (adJ (b:=true) hit.typeIs (by rw[aei];kernel_rfl) ?_)
 refine Y5 ?_
 rw[if_neg (by decide)]
 refine Y5 ⟨aeD F.plain_extend_loop _,codeAny_extend_loopS W hsz _ Md _ items.size 0 _ _ _ rfl (ZM _) cU hS (ItemsOf.nil _) λs' fK c' hm By SM=>?_⟩
 rw[Moved.eq_with hm]
 refine hR s'.heap s'.toks fK c' (λb o n1 n2 e=>hm.heap b o (λDF=>?_) e) By SM
 rcases Zd.mp DF with e'|DF
 . exact n1 e'
 . exact n2 (abK.mp DF)
theorem qV {Q:Value->Y4->Prop}{I l:Addr}{items:Array Value}(hh:A.handled=none)(hit:s.heap.IsRevIter I l ((items.size:Int)-1))(hl:s.heap.IsList l items)(jI:l≠I)(hsz:items.size<=Zl){h0:Heap}(QG:∀b o,h0.get? b=some o->s.heap.get? b=some o)(WN:h0.get? I=none)
  (hQ:∀(h':Heap) (tk:Nat) (acc:Array Value),(∀b o,h0.get? b=some o->h'.get? b=some o)->ItemsOf (λi v=>items[items.size-1-i]? = some v) acc items.size->Q (.ref h'.objs.size) { s with heap:=h'.push { cls:=.type "tuple",data:=.seq acc },toks:=tk }):
  wpAny (model prog w) A (call (.type "tuple") [.ref I]) Q E s:=by
 refine DC (T:="list_reverseiterator") hit.typeIs (by decide) λA' hA E' Q' k=>lD λR kR=>?_
 have WO:I<s.heap.objs.size:=by obtain⟨o,ho,_⟩:=hit;exact Zf ho
 have Fl:l<s.heap.objs.size:=by obtain⟨o,ho,_⟩:=hl;exact Zf ho
 refine zp (A:=A') (hA.trans hh) (hit.at λo e=>Y6 _ e) (hl.at λo e=>Y6 _ e) jI hsz s.heap.objs.size (abT WO) (abT Fl) _ _ (Zg _ rfl) λh' tk fK c' hk hS hi=>?_
 have keep:∀b o,h0.get? b=some o->h'.get? b=some o:=λb o e=>hk b o (Zk (Zf (QG b o e))) (λz=>by rw[z,WN]at e;cases e) (Y6 _ (QG b o e))
 exact kR h' tk fK c' hS (k h' tk fK (by rw[hi.1];exact hsz) (hQ h' tk fK keep hi))
end
end PySem
namespace L3
open PySem PySem.Spec PyProof.Rows L2
section
variable {X:Cx}
noncomputable def p6 (fe:FE):FE:=λσ g=>(fe σ g).bind λr=>(dS r.1 r.2).bind λxs=>if aG xs.length=true then some (.tup xs.reverse,r.2)else none
theorem Ip {p p2 pos fW:Pos}{a:Expr}{fe:FE}(hA:X.A.handled=none)(WQ:Gl X "tuple")(Fm:X.mg "tuple" = none)(WR:Gl X "reversed")(WS:X.mg "reversed" = none)(ha:DE X a fe)
   (hs:Zv [a] X.env = [(false,eval a X.env)]) (lO:Zv [.Call (.Name "reversed" p2) [a] [] fW] X.env = [(false,eval (.Call (.Name "reversed" p2) [a] [] fW) X.env)]:=by rfl):
   DE X (.Call (.Name "tuple" p) [.Call (.Name "reversed" p2) [a] [] fW] [] pos) (p6 fe):=.of (by
 intro pins s σ H Q I h
 obtain⟨ι,σd,g,d,g',G0,S0,h,pq⟩:=h
 obtain⟨⟨d1,g1⟩,h1,h⟩:=bind_some h
 obtain⟨xs,sm,h⟩:=bind_some h
 split at h
 . rename_i hz
   cases h
   have WT:DA X [a] (aa fe ag):=nj ha uy hs
   refine aaP (fZ I WQ Fm ad4 ?_ (by decide) (by decide))
   refine aah ?_ lO rfl
   rw[lO]
   show wpAny _ _ (spliced ((false,eval (.Call (.Name "reversed" p2) [a] [] fW) X.env):: [])) _ _ s
   refine ac7 ?_
   refine Call_ (fZ I WR WS boot_reversed (aah (aX (WT.un fW pins s σ H (λvs H1=>∃ι1,Ext H ι H1 ι1/\az X.kw H1 ι1 g1/\aj X.kw H1 ι1 [d1] vs) I ⟨ι,σd,g,[d1],g1,G0,S0,by simp[h1],λH1 ι1 vs e1 G1 r1=>⟨ι1,e1,G1,r1⟩⟩) λus s1 ⟨vs,H1,I1,r1,ι1,e1,G1,rl⟩=>?_) hs rfl))
   simp only[aj]at rl
   obtain⟨v0,vr,rfl,WU,rfl⟩:=rl
   obtain⟨u0,rfl,ru⟩:=vals1 r1
   obtain⟨b,vs,rfl,hq,hr⟩:=gB G1 WU sm
   cases ru
   obtain⟨av,bu,pl,QH⟩:=I1.list hq
   have YF:=aG.le hz
   refine call_reversed_list pl.isList ?_
   refine adp ?_
   have WV:b<s1.heap.objs.size:=by obtain⟨o,m,ho,_⟩:=pl;exact Zf ho
   have WW:s1.heap.get? s1.heap.objs.size=none:=aen (Za _)
   refine qV (l:=b) (items:=av.toArray) (h0:=s1.heap) hA ⟨_,Zg _ rfl,rfl,rfl⟩ (pl.isList.at λo e=>Y6 _ e) (Zk WV) (by rw[Y_,<- bu.length];exact QH) (λb o e=>Y6 _ e) WW λh' tk acc hk hi=>?_
   have I3:L2.Inv X pins σ H1 { s1 with heap:=h',toks:=tk }:=I1.kept hk
   have ea:acc.toList=av.reverse:=by
    obtain⟨q1,q2⟩:=hi
    have q1:acc.size=av.length:=by simpa using q1
    refine afk λj=>?_
    rw[aaQ]
    cases hj:acc[j]? with
    |none =>
     have:acc.size<=j:=adl.mp hj
     rw[q1]at this
     rw[aaG (by rw[aeG];exact this)]
    |some v =>
     have:=q2 j v hj
     have sg:j<acc.size:=(abl.mp hj).1
     rw[q1]at sg
     rw[aej sg]
     simpa using this.symm
   have SN:Vals vs.reverse av.reverse:=by
    have:∀{xs:List V} {us:List Value},Vals xs us->Vals xs.reverse us.reverse:=fun {xs us} r=>by
     induction r with
     |nil=>exact .nil
     |cons a b ih=>rw[abP,abP];exact Vals.append ih (.cons a .nil)
    exact this bu
   have SO:aj X.kw H1 ι1 xs.reverse vs.reverse:=by
    have:∀(xs:List D) {vs:List V},aj X.kw H1 ι1 xs vs->aj X.kw H1 ι1 xs.reverse vs.reverse:=λxs=>by
     induction xs with
     |nil=>intro vs h;simp only[aj]at h;subst h;simp[aj]
     |cons x xs ih =>
      intro vs h
      simp only[aj]at h
      obtain⟨v,vr,rfl,h1,h2⟩:=h
      rw[abP,abP]
      exact aj.append (ih h2) (by simp only[aj];exact⟨v,[],rfl,h1,rfl⟩)
    exact this xs hr
   have I4:L2.Inv X pins σ _ { s1 with heap:=h'.push { cls:=.type "tuple",data:=.seq acc },toks:=tk }:=I3.laid (t':=tk) (o:=.tup vs.reverse) (λb o e=>Y6 _ e) (Za _) ⟨by rw[aeG];exact QH,acc.toList,by rw[ea];exact SN,by rw[Array.toArray_toList];exact eX.new _ _⟩
   have dQ:H1 h'.objs.size=none:=I3.fresh
   refine⟨.ref _,_,I4,rfl,pq _ ι1 _ (e1.trans (Ext.lay dQ)) (G1.lay dQ) ?_⟩
   simp only[Rel]
   exact⟨_,_,rfl,.inl ⟨.inl bA,G1.fresh dQ⟩,aj.ext (Ext.lay dQ) _ SO⟩
 . cases h)
end
end L3
namespace RI
open PySem PySem.Spec PyProof.Rows L2 L3
noncomputable def tM (x:Expr):Option (Str×Expr):=match x with
 |.Call f as ks _=>(match f with
  |.Name t _=>(match as with
   | []=>none
   |a::r=>if r.isEmpty&&ks.isEmpty then some (t,a)else none)
  |_=>none)
 |_=>none
theorem vG {x a:Expr}{t:Str}(h:tM x=some (t,a)):∃p pos,x = .Call (.Name t p) [a] [] pos:=by
 cases x with
 |Call f as ks pos =>
  cases f with
  |Name t' p =>
   cases as with
   |nil=>cases h
   |cons b r =>
    simp only[tM]at h
    split at h
    . rename_i hh
      rw[Y3,afF,afF]at hh
      cases h
      obtain⟨rfl,rfl⟩:=hh
      exact⟨_,_,rfl⟩
    . cases h
  |_=>cases h
 |_=>cases h
noncomputable def vH (m:G0)(c:Cs)(t r:Str)(x:Expr):Option Expr:=(tM x).bind λy=>(tM y.2).bind λz=>if y.1 == t&&z.1 == r&&c.sc.names.lookup y.1 == some .globalImplicit&&c.sc.names.lookup z.1 == some .globalImplicit&&m.jf.elem y.1&&m.jf.elem z.1 && !(isStar z.2)then some z.2 else none
theorem sO {m:G0}{c:Cs}{t r:Str}{x a:Expr}(h:vH m c t r x=some a):∃p p2 pos fW,x = .Call (.Name t p) [.Call (.Name r p2) [a] [] fW] [] pos/\c.sc.names.lookup t=some .globalImplicit/\c.sc.names.lookup r=some .globalImplicit/\t∈m.jf/\r∈m.jf/\isStar a=false:=by
 obtain⟨⟨t',y⟩,h1,hA⟩:=bind_some h
 obtain⟨⟨r',z⟩,h2,hB⟩:=bind_some hA
 dsimp only at hB h2
 obtain⟨p,pos,rfl⟩:=vG h1
 obtain⟨p2,fW,rfl⟩:=vG h2
 split at hB
 . rename_i hh
   simp only[Y3,beq_iff_eq,Zx]at hh
   obtain⟨⟨⟨⟨⟨⟨rfl,rfl⟩,h3⟩,h4⟩,h5⟩,h6⟩,h7⟩:=hh
   cases hB
   exact⟨_,_,_,_,rfl,h3,h4,abm.mp h5,abm.mp h6,h7⟩
 . cases hB
noncomputable def Pp:nD where
 e:=λm c E _ x=>(vH m c "tuple" "reversed" x).map λa=>p6 (E a)
 xF:=by
  intro m c X E g hE rf x f h
  obtain⟨a,ha,rfl⟩:=Zq.mp h
  obtain⟨p,p2,pos,fW,rfl,h1,h2,h3,h4,h5⟩:=sO ha
  exact Ip g.rm.hd (g.gl h1) (g.bl _ h3) (g.gl h2) (g.bl _ h4) (hE a) (b6 h5)
 t:=Fj
 tok:=by intro m c X E g hE x f h;cases h
end RI
namespace PySem
namespace F
theorem qW:isSubtype (.type "tuple") (.type "set")=pure false:=by rw[aei];kernel_rfl
theorem lE:isSubtype (.type "tuple") (.type "frozenset")=pure false:=by rw[aei];kernel_rfl
end F
section
variable {prog:ZC}{w:World}{A:Zz}{E:Value->Y4->Prop}{s:Y4}
set_option maxHeartbeats 3200000 in
theorem qX {l:Addr}{items:Array Value}{ns:List Int}{Q:Value->Y4->Prop}
  (hh:A.handled=none) (hl:s.heap.IsTuple l items) (hi:abu items.toList ns) (hb:items.size+1<scanBound)
  (h:∀(h':Heap) (tk:Nat),h'.SetOf (intKind prog w) s.heap.objs.size (λk'=>(abr (λi=>ns.getD i 0) items.size).any (· == k')) (abr (λi=>ns.getD i 0) items.size).length ->
   (∀b o,b<s.heap.objs.size->s.heap.get? b=some o->h'.get? b=some o)->Q (.ref s.heap.objs.size) { s with heap:=h',toks:=tk }):
  wpAny (model prog w) A (call (.type "set") [.ref l]) Q E s:=by
 obtain⟨c,tl,Ye⟩:=F.called_set.mro
 have X6:=F.called_set.made
 have SK:=F.called_set.sub
 refine wpAny_call (codeAny_of_tree ?_)
 show wpAny _ _ (callAny (.type "set") _) _ _ _
 refine Y5 ⟨Code.quiet_builtin _ (by decide +kernel),acS F.entry_type_call ?_⟩
 rw[Around.under_plain (weight_type_call_type "set" [.ref l] []) rfl]
 have h1:=F.called_set.notType
 have h2:=F.called_set.canCreate
 have YG:=F.typeCall_set_1 (.ref l)
 repeat (any_goals (first|assumption|wp_step))
 refine acJ (code_set_new_1 (.ref l) (E:=E) (Q₁:=λobj s₁=>∃led:Bool,obj = .ref s.heap.objs.size/\s₁={ s with heap:=s.heap.push { cls:=.type "set",dict:=none,data:=.set #[] 0 (.fresh 0 0 led) } }) λled=>⟨led,rfl,rfl⟩) λr s₁ hr=>?_
 cases r with
 |error e=>exact hr
 |ok fl =>
  cases fl with
  |ret obj =>
   obtain⟨led,rfl,rfl⟩:=hr
   have hS:(s.heap.push { cls:=.type "set",dict:=none,data:=.set #[] 0 (.fresh 0 0 led) }).get? s.heap.objs.size=some { cls:=.type "set",dict:=none,data:=.set #[] 0 (.fresh 0 0 led) }:=Zg _ rfl
   have hT:agJ { s with heap:=s.heap.push { cls:=.type "set",dict:=none,data:=.set #[] 0 (.fresh 0 0 led) } } (.ref s.heap.objs.size) "set":=⟨_,hS,rfl⟩
   have YH:=F.called_set.init.lookup
   have Ff:=F.called_set.init.bind (.ref s.heap.objs.size)
   repeat (any_goals (first|assumption|wp_step))
   refine acJ (codeAny_call_builtin (R:=wants (λr s₂=>r = .none /\ ∃h' tk,s₂={ s with heap:=h',toks:=tk } /\
      h'.SetOf (intKind prog w) s.heap.objs.size (λk'=>(abr (λi=>ns.getD i 0) items.size).any (· == k')) (abr (λi=>ns.getD i 0) items.size).length /\
      (∀b o,b<s.heap.objs.size->s.heap.get? b=some o->h'.get? b=some o)) E) F.called_set.init.plain F.entry_set_init (check_set_init_1 hT ?_)) λr₂ s₂ hr₂=>?_
   . obtain⟨ol,QI,dI,nl,QJ⟩:=hl
     obtain⟨Yf,Pq,X7,Me⟩:=ol
     simp only at dI QJ
     subst dI;subst QJ
     have SQ:(s.heap.push { cls:=.type "set",dict:=none,data:=.set #[] 0 (.fresh 0 0 led) }).get? l=some { cls:=.type "tuple",dict:=Pq,data:=.seq items nl,slots:=Me }:=Y6 _ QI
     have Yg:=F.qW
     have Yh:=F.lE
     have jI:(Z3 "tuple" == Z3 "dict")=false:=by decide
     have Bz:(s.heap.push { cls:=.type "set",dict:=none,data:=.set #[] 0 (.fresh 0 0 led) }).IsTuple l items:=⟨_,SQ,rfl,nl,rfl⟩
     unfold abt.«set.__init__» noKeywords agj
     generalize WX:pyIter=PI
     wp_walk
     subst WX
     refine abG Bz ?_
     refine xv (wpAny_runValue ?_)
     have QK:l<s.heap.objs.size:=Zf QI
     have WY:A.in1.in1.in1.handled=none:=by simp[hh]
     have SR:l≠(s.heap.push { cls:=.type "set",dict:=none,data:=.set #[] 0 (.fresh 0 0 led) }).objs.size:=by
      rw[aaS];exact Zk (ZW QK)
     have Md:s.heap.objs.size ∉ [(s.heap.push { cls:=.type "set",dict:=none,data:=.set #[] 0 (.fresh 0 0 led) }).objs.size,l]:=by
      rw[aaS];simp only[Zd,abK,acB,or_false,not_or]
      exact⟨Zk (ab1 _),abT QK⟩
     have SU:∀(i:Nat) (v:Value),items[i]? = some v->∃t,v = .int ((λi=>ns.getD i 0) i) t:=λi v hv =>
      agr hi i v (by rw[aaQ];exact hv)
     refine PyProof.Rows.codeAny_set_update_loopS ((Walks.tuple WY _ l SR items).toS) s.heap.objs.size
      Md (λi=>ns.getD i 0) SU hb (items.size-0) 0 _ (by omega) (ZM _)
      ⟨⟨_,Zg _ rfl,rfl,rfl⟩,(Bz.push _)⟩ ?hS0 ?hR
     case hS0 =>
      exact PyProof.Rows.SetOf_congr ((PyProof.Rows.setObjOf_fresh (knd:=intKind prog w) led).setOf (Y6 _ hS) (by unfold scanBound;omega)) (λ_=>rfl) rfl
     case hR =>
      intro s' hm By
      obtain⟨h',g',d',LB,JZ⟩:=s'
      have eg:g'=s.gens:=hm.gens
      have ed:d'=s.drawn:=hm.drawn
      have eo:JZ=s.os:=hm.os
      subst eg;subst ed;subst eo
      show wpAny _ _ _ _ _ _
      refine Y5 ?_
      show wpAny _ _ (ret abF) _ _ _
      refine Y5 ⟨rfl,h',LB,rfl,By,λb o hb e=>?_⟩
      have Fo:b≠s.heap.objs.size:=Zk hb
      have Fq:b≠(s.heap.push { cls:=.type "set",dict:=none,data:=.set #[] 0 (.fresh 0 0 led) }).objs.size:=by
       rw[aaS];exact Zk (ZW hb)
      exact hm.heap b o (by simp only[Zd,abK,acB,or_false,not_or];exact⟨Fo,Fq⟩) (Y6 _ (Y6 _ e))
   . cases r₂ with
     |error e=>exact hr₂
     |ok fl₂ =>
      cases fl₂ with
      |ret r =>
       obtain⟨rfl,h',tk,rfl,By,pv⟩:=hr₂
       repeat (any_goals (first|assumption|wp_step))
       exact h _ _ By pv
      |_=>exact hr₂.elim
  |_=>exact hr.elim
end
end PySem
namespace PyProof.Rows
open PySem
section
variable {prog:ZC}{w:World}{A:Zz}{E:Value->Y4->Prop}{s:Y4}
theorem DH {h:Heap}{a:Addr}{vs:List Value}{n:Nat}{out:Array Value}(ho:h.get? a=some (aaB "list" vs.toArray n)):∃c,(adx h a vs out).get? a=some (aaB "list" out c):=by
 unfold adx
 have ha:a<h.objs.size:=Zf ho
 have Bf:=acR ho (λ_=>#[])
 have Fc:=Y6 (aaB "list" #[] 0) (Y6 (aaB "tuple" vs.toArray 0) Bf)
 exact⟨_,acR Fc (λ_=>out)⟩
theorem BA {h:Heap}{a b:Addr}{vs:List Value}{out:Array Value}{o:Obj}(hb:b≠a)(e:h.get? b=some o):(adx h a vs out).get? b=some o:=by
 unfold adx
 rw[abb _ _ hb.symm]
 exact Y6 _ (Y6 _ ((abb _ _ hb.symm).trans e))
theorem j6 {x:Value}{ns:List Int}{Q:Value->Y4->Prop}(Be:ns.length<64)
  (hc:∀(A':Zz) (E':Value->Y4->Prop) (Q':List Value->Y4->Prop),A'.handled=A.handled->(∀(h':Heap) (tk:Nat) (vs:List Value),(∀b o,s.heap.get? b=some o->h'.get? b=some o)->s.heap.objs.size<=h'.objs.size->abu vs ns->Q' vs { s with heap:=h',toks:=tk })->wpAny (model prog w) A' (ae8 x) Q' E' s)
  (h:∀(h':Heap) (tk L c:Nat) (out:Array Value),(∀b o,s.heap.get? b=some o->h'.get? b=some o)->s.heap.objs.size<=L->h'.get? L=some (aaB "list" out c)->abu out.toList (PySem.W.sortI ns)->Q (.ref L) { s with heap:=h',toks:=tk }):
  wpAny (model prog w) A (call (.builtin "sorted") [x]) Q E s:=by
 refine ady kind_sorted plain_sorted entry_sorted (args_sorted1 _) ?_
 unfold abt.«sorted»
 refine xv (m:=checkCount "sorted" 1 1 _) (Y5 ?_)
 refine xv (hc _ _ _ rfl λh1 YI vs k1 WZ hI=>?_)
 have hl:vs.length<64:=by rw[hI.length];exact Be
 refine xv (aeC ?_ (by rw[aaU];omega))
 have rO:(h1.push (aaB "list" vs.toArray 0)).get? h1.objs.size=some (aaB "list" vs.toArray 0):=Zg _ rfl
 refine xv (ZI (ZN slot_list_sort ⟨_,rO,rfl⟩ entry_list_sort (list_sort_tree rO hI hl λout Wg a1 a2 a3=>⟨_,rfl,?_⟩) (args_list_sort _)))
 have e:=PySem.W.eq_sortI a2 a3
 subst e
 obtain⟨c,hc⟩:=DH (out:=out) rO
 refine Y5 ⟨_,rfl,h _ _ h1.objs.size c out (λb o q=>?_) WZ hc a1⟩
 have q1:=k1 b o q
 exact BA (Zk (Zf q1)) (Y6 _ q1)
theorem wJ {it:Addr}{items:Array Value}{Q:List Value->Y4->Prop}(ht:s.heap.IsTuple it items)(hsz:items.size<=Zl)
  (hQ:∀(h':Heap) (tk:Nat),(∀b o,s.heap.get? b=some o->h'.get? b=some o)->s.heap.objs.size<=h'.objs.size->Q items.toList { s with heap:=h',toks:=tk }):
  wpAny (model prog w) A (ae8 (.ref it)) Q E s:=by
 obtain⟨o,ho,hc,n,hd⟩:=ht
 refine lD λR kR=>?_
 have hS:(s.heap.push { cls:=.type "list",data:=.seq #[] }).get? s.heap.objs.size=some { cls:=.type "list",data:=.seq #[] 0 }:=Zg _ rfl
 have hS₂:=acR (c:="list") (xs:=#[]) (n:=0) hS (· ++ items)
 refine wpAny_extend_seq (hsz:=hsz) (s:={ s with heap:=s.heap.push { cls:=.type "list",data:=.seq #[] } }) _ it _ 0 (T:="tuple") (.inr rfl) hS (Y6 _ ho) hc hd ?_
 have e:((#[]:Array Value)++items)=items:=by simp
 refine kR _ s.toks items _ (hS₂.trans (by rw[e])) (hQ _ s.toks (λb o' hb=>(abb _ _ (abT (Zf hb))).trans (Y6 _ hb)) ?_)
 rw[abA,aaS]
 exact abL _
end
end PyProof.Rows
namespace L3
open PySem PySem.Spec PyProof.Rows L2 SeqAt DK
noncomputable def tN (xs:List D)(g:G):Option (D×G):=(dh xs).bind λns=>if ns.length<64 then some (.lst ((PySem.W.sortI ns).map .int),g)else none
noncomputable def ib (ds:List D)(g:G):Option (D×G):=match ds with
 | [.tup xs]=>tN xs g
 | [.aM n]=>(g[n]?).bind λxs=>tN (aS xs) g
 |ds=>match gp ds g with|some r=>some r|none=>iC ds g
section
variable {X:Cx}
theorem DJ (hh:X.A.handled=none)(hu:X.A.units+64<cLine):cA X (.builtin "sorted") (ik X.kw ib):=by
 intro pins s σ H xs us Q I r q
 obtain⟨ι,g,ds,d,g',G0,r1,q,p⟩:=q
 have fin:∀{ns:List Int},ns.length<64->d = .lst ((PySem.W.sortI ns).map .int)->g'=g->∀(h':Heap) (tk L c:Nat) (out:Array Value),(∀b o,s.heap.get? b=some o->h'.get? b=some o)->s.heap.objs.size<=L->h'.get? L=some (aaB "list" out c)->abu out.toList (PySem.W.sortI ns)->EP X pins σ Q (.ref L) { s with heap:=h',toks:=tk }:=by
   intro ns z e1 e2 h' tk L c out hk hL hc hO
   subst e1 e2
   have dQ:=I.bJ.fresh hL
   have wY:((PySem.W.sortI ns).map V.int).length<=Zl:=by
     rw[Zr,(PySem.W.sortI_perm ns).length_eq];exact aaa (abv z) (by decide)
   refine⟨.ref L,_,I.laid (t':=tk) hk hL (show cW X.prog X.w _ _ _ (.lst ((PySem.W.sortI ns).map V.int)) from⟨wY,out.toList,c,gG hO,by simpa[aaB]using hc⟩),rfl,p _ _ _ (Ext.lay dQ) (G0.lay dQ) ?_⟩
   simp only[Rel]
   exact⟨_,_,rfl,.inl ⟨.inl bA,G0.fresh dQ,G0.jE dQ⟩,lx _⟩
 unfold ib at q
 split at q
 . rename_i ys
   unfold tN at q
   obtain⟨ns,hn,q⟩:=bind_some q
   split at q
   . rename_i z
     cases q
     simp only[aj]at r1
     obtain⟨v,_,rfl,rv,rfl⟩:=r1
     obtain⟨u,rfl,ru⟩:=vals1 r
     simp only[Rel]at rv
     obtain⟨a,vs,rfl,hq,hr⟩:=rv
     cases ru
     obtain⟨av,bu,ht,hz⟩:=I.tuple hq.sq
     have hA:=fI hn hr bu
     refine j6 z (λA' E' Q' QL k=>wJ ht (by rw[Y_,<- bu.length];exact hz) λh' tk hk sz=>k h' tk _ hk sz (by simpa using hA)) (fin z rfl rfl)
   . cases q
 . rename_i n
   obtain⟨ys,hx,q⟩:=bind_some q
   unfold tN at q
   obtain⟨ns,hn,q⟩:=bind_some q
   split at q
   . rename_i z
     cases q
     simp only[aj]at r1
     obtain⟨v,_,rfl,rv,rfl⟩:=r1
     simp only[Rel]at rv
     obtain⟨a,rfl,ha⟩:=rv
     obtain⟨u,rfl,ru⟩:=vals1 r
     cases ru
     obtain⟨es,vs,c,hH,j0,dI,mK,W0,nd,sy,sz,rl⟩:=G0.nV hx ha
     have en:=Ent.of mK W0 rl
     obtain⟨ks,vk,rk⟩:=Dz en
     have hA:=fI hn rk vk
     have ho:=iW I hH
     refine j6 z (λA' E' Q' QL k=>lD λR kR=>?_) (fin z rfl rfl)
     refine PySem.W.kdl_extend (A:=A') (Io sy) (QL.trans hh) (Y6 _ ho) s.heap.objs.size (abT (Zf ho)) (abT (Zf ho)) _ 0 (Zg _ rfl) (λh' tk fK c' hk hS hi=>?_) (by simpa using sz)
     have ea:fK.toList=es.map (·.key):=by
      obtain⟨h1,h2⟩:=hi
      refine afk λj=>?_
      rw[aaQ,ZS]
      cases hj:fK[j]? with
      |none =>
       have:fK.size<=j:=adl.mp hj
       rw[h1]at this
       simp at this
       simp[this]
      |some v =>
       obtain⟨e,he,rfl⟩:=h2 j v hj
       simp at he
       simp[he]
     refine kR h' tk fK c' hS (k h' tk _ (λb o e=>hk b o (Zk (Zf e)) (Y6 _ e)) (abv (Zf hS)) (by rw[ea];exact hA))
   . cases q
 . split at q
   . rename_i e he
     cases q
     exact Dt hu pins s σ H xs us Q I r ⟨ι,g,_,d,g',G0,r1,he,p⟩
   . exact AV pins s σ H xs us Q I r ⟨ι,g,_,d,g',G0,r1,q,p⟩
noncomputable def iE (fe:FE):FE:=λσ g=>(fe σ g).bind λr=>match r.1 with
 |.tup xs=>(dh xs).bind λns=>if decide (ns.length<=4000)=true then some (.int (unlike ns),r.2)else none
 |_=>none
theorem zq {e:Expr}{fe:FE}{p1 p2 Mf fW:Pos}(hh:X.A.handled=none)(W2:X.mg "len" = none)(W3:X.mg "set" = none)(he:DE X e fe)(W4:Gl X "len":=by rfl)(Mg:Gl X "set":=by rfl)
  (An:Zv [Expr.Call (.Name "set" p2) [e] [] fW] X.env=(false,eval (.Call (.Name "set" p2) [e] [] fW) X.env)::Zv [] X.env:=by rfl) (Fs:Zv [e] X.env=(false,eval e X.env)::Zv [] X.env:=by rfl):
  DE X (.Call (.Name "len" p1) [.Call (.Name "set" p2) [e] [] fW] [] Mf) (iE fe):=.of (by
 intro pins s σ H Q I h
 obtain⟨ι,σd,g,d,g',G0,S0,h,p⟩:=h
 obtain⟨⟨d1,g1⟩,h1,h⟩:=bind_some h
 cases d1 with
 |tup xs =>
  dsimp only at h
  obtain⟨ns,hn,h⟩:=bind_some h
  split at h
  . rename_i W5
    cases h
    rw[decide_eq_true_eq]at W5
    have arg:=(kB he.un oZ Fs) fW pins s σ H (λvs H1=>∃ι1 a us,vs = [.ref a]/\jD X.kw H1 ι1 a us/\aj X.kw H1 ι1 xs us/\Ext H ι H1 ι1/\az X.kw H1 ι1 g') I (tD.bind G0 S0 h1 λH1 ι1 v e1 G1 S1 r1=>by
     simp only[Rel]at r1
     obtain⟨a,us,rfl,hq,hr⟩:=r1
     exact⟨ι1,a,us,rfl,hq,hr,e1,G1⟩)
    refine aaP (fZ I W4 W2 (u:=.builtin "len") rfl ?_ (by decide) (by decide))
    refine acL ?_ An rfl
    rw[An]
    show wpAny _ _ (spliced ((false,eval (.Call (.Name "set" p2) [e] [] fW) X.env)::abw Mf (Zv [] X.env))) _ _ s
    refine ac7 ?_
    refine aaP (fZ I Mg W3 (u:=.type "set") rfl ?_ (by decide) (by decide))
    refine aah (aX arg λpW s1 q1=>?_) Fs rfl
    obtain⟨vs,H1,I1,rv,ι1,a,us,rfl,hq,hr,e1,G1⟩:=q1
    obtain⟨u,rfl,ru⟩:=rv.one
    cases ru
    obtain⟨av,bu,pl,hz⟩:=I1.tuple hq.sq
    have hA:=fI hn hr bu
    have W6:av.length=ns.length:=by
     obtain⟨ps,rfl,rfl⟩:=g_ hA
     simp
    have hsz:av.toArray.size=ns.length:=by rw[Y_];exact W6
    refine PySem.qX (items:=av.toArray) (ns:=ns) hh pl (by simpa using hA) (by rw[hsz];unfold scanBound;omega) λh2 QM QN k2=>?_
    rw[hsz]at QN
    obtain⟨o,ho,sP⟩:=QN.objOf
    obtain⟨hex,es,ep,t,hd,_,_,QO,hf⟩:=sP
    have hle:=firstMet_length_le (λi=>ns.getD i 0) ns.length
    refine adp ?_
    have kk:∀b o,s1.heap.get? b=some o->h2.get? b=some o:=λb o q=>k2 b o (Zf q) q
    have I2:Inv X pins σ H1 { s1 with heap:=h2,toks:=QM }:=I1.kept kk
    refine call_len_set (s:={ s1 with heap:=h2,toks:=QM }) ho hex hd hf (by rw[QO];omega) ?_
    rw[QO]
    exact⟨.int (unlike ns),H1,I2.kept λb o q=>q,⟨_,rfl⟩,p _ _ _ e1 G1 rfl⟩
  . cases h
 |_=>cases h)
end
end L3
namespace RI
open PySem PySem.Spec PyProof.Rows L2 L3
noncomputable def Mh:gw:=⟨"sorted",ib,λhr _=>.inl ⟨_,DJ hr.hd hr.units,boot_sorted⟩⟩
noncomputable def DL:nD where
 e:=λm c E _ x=>(vH m c "len" "set" x).map λa=>iE (E a)
 xF:=by
  intro m c X E g hE rf x f h
  obtain⟨a,ha,rfl⟩:=Zq.mp h
  obtain⟨p,p2,pos,fW,rfl,h1,h2,h3,h4,h5⟩:=sO ha
  exact zq g.rm.hd (g.bl _ h3) (g.bl _ h4) (hE a) (g.gl h1) (g.gl h2) rfl (b6 h5)
 t:=Fj
 tok:=by intro m c X E g hE x f h;cases h
end RI
namespace L3
open PySem PySem.Spec PyProof.Rows L2 RI
section
variable {σ:Sg}{g:G}{fa fb fo fi:FE}{fr:FA}
@[simp] theorem Vh {xs:List D}{d:D}:ay (.tup xs) d g=pI (.tup xs) d g:=rfl
@[simp] theorem Vi {xs:List D}{d:D}:ay (.lst xs) d g=pI (.lst xs) d g:=rfl
@[simp] theorem Vj {n:Nat}{d:D}:ay (.ref n) d g=pI (.ref n) d g:=rfl
@[simp] theorem Vk {n:Nat}{d:D}:ay (.aM n) d g=(g[n]?).bind λxs=>if bC 6 d=true then(bf xs d).map λd=>(d,g)else none:=rfl
@[simp] theorem SV {n:Nat}{i v:D}:kj (.ref n) i v g=putD (.ref n) i v g:=rfl
@[simp] theorem SW {n:Nat}{i v:D}:kj (.aM n) i v g=(g[n]?).bind λxs=>if(bC 6 i&&lX xs)=true then some (g.set n (cf xs i v))else none:=rfl
@[simp] theorem Vl {v:D}:eU fo fi v σ g=(fo σ g).bind λr=>(fi σ r.2).bind λq=>(kj r.1 q.1 v q.2).map λg'=>(σ,g'):=rfl
@[simp] theorem Iq {iq:D->Bool}{m:D->List D->G->Option (D×G)}:cq iq m fo fr σ g=(fo σ g).bind λr=>if iq r.1=true then(fr σ r.2).bind λq=>m r.1 q.1 q.2 else none:=rfl
@[simp] theorem SX:hU σ g=some (.aM g.length,g ++ [[]]):=rfl
@[simp] theorem Vm {n:Nat}:iL (.aM n)=true:=rfl
@[simp] theorem Vn {n:Nat}:isRef (.ref n)=true:=rfl
@[simp] theorem SY {xs:List D}:iY (.lst xs)=true:=rfl
@[simp] theorem X8 {n:Nat}{k:D}:i5 (.aM n) [k] g=(g[n]?).bind λxs=>if bC 6 k=true then some ((bf xs k).getD .aA,g)else none:=rfl
@[simp] theorem X9 {n:Nat}{k x:D}:i5 (.aM n) [k,x] g=(g[n]?).bind λxs=>if bC 6 k=true then some ((bf xs k).getD x,g)else none:=rfl
@[simp] theorem X_ {n:Nat}{x:D}:b7 (.ref n) [x] g=(g[n]?).bind λxs=>if aG (xs.length+1)=true then some (.aA,g.set n (xs ++ [x]))else none:=rfl
@[simp] theorem Vo {n:Nat}{i:Int}:bC n (.int i)=true:=by cases n<;>rfl
@[simp] theorem Vp {n:Nat}{d:D}:n_ d (.aM n) g=(g[n]?).bind λxs=>if bC 6 d=true then some (bf xs d).isSome else none:=rfl
@[simp] theorem Vq {d e:D}:hJ d e g=(n_ d e g).map λb=>(.bl b,g):=rfl
@[simp] theorem Pr {d e:D}:gK d e g=(n_ d e g).map λb=>(.bl (!b),g):=rfl
@[simp] theorem S_:isFn .aA=false:=rfl
@[simp] theorem Vr {b:Bool}:isFn (.bl b)=false:=rfl
@[simp] theorem Ta {b:Int}:isFn (.int b)=false:=rfl
@[simp] theorem Tb {b:Str}:isFn (.str b)=false:=rfl
@[simp] theorem vI {b:List D}:isFn (.tup b)=false:=rfl
@[simp] theorem Tc {b:List D}:isFn (.lst b)=false:=rfl
@[simp] theorem Td:isFn .dw=false:=rfl
@[simp] theorem Te {b:Nat}:isFn (.ref b)=false:=rfl
@[simp] theorem Tf {b:Nat}:isFn (.aM b)=false:=rfl
end
end L3
namespace Pd
open PySem L3 L2
noncomputable def BC:FS:=aF (dA (iB .int (af 0)) (jn (iB .bool (af 0))))
noncomputable def qY (whole:Fn):FS:=aF (dA (ao whole (aa (af 0) (ag))) (gU oLe oLe (af 1) (af 0) (af 2)))
noncomputable def vJ (within:Fn):FS:=aF (ao within (aa (af 0) (aa (mr jG (af 1)) (aa (af 1) (ag)))))
noncomputable def tupleOfB:FS:=aF (dA (iB .tuple (af 0)) (gU oLe oLe (af 1) (ao cx (aa (af 0) (ag))) (af 2)))
noncomputable def Mi (vw:Fn):FS:=aF (ao vw (aa (af 0) (aa (fC (.int 3)) (ag))))
noncomputable def xR (Ir tupleOf vw:Fn):FS:=aw (bK (gW (aH (aq oEq (af 1) (fC (.int 0)))) (cz (bW (iB .tuple (af 0))))) (aF (ao Ir (aa (af 0) (aa (fC (.int 999999999999)) (ag))))) (aN)) (aw (bK (cz (bW (ao tupleOf (aa (af 0) (aa (fC (.int 0)) (aa (fC (.int 8)) (ag))))))) (aF (fC (.bl false))) (aN)) (aF (ao fu (aa (bh aY (bQ (af 0)) [none,none,some 1] (gN 1) (aQ) (ao vw (aa (af 1) (aa (aq (aR bp (· - ·)) (af 2) (fC (.int 1))) (ag))))) (ag)))))
noncomputable def zr:FS:=aw (aC (fC (.int 0)) (gN 2)) (aw (bK (aH (aq oLt (af 1) (ao cx (aa (af 0) (ag))))) (aC (aq ay (af 0) (af 1)) (gN 2)) (aN)) (aF (aK mkRef (aa (aq bU (af 2) (ao ki (aa (aq AH (af 2) (aq (aR cM (λi j=>i ^ j.toNat)) (fC (.int 10)) (fC (.int 18)))) (ag)))) (aa (aq aV (aq aV (aq (aR cY (· % ·)) (af 2) (fC (.int 2305843009213693951))) (aq bU (fC (.int 7919)) (af 1))) (fC (.int 3))) (aa (fC (.int 0)) (ag)))))))
noncomputable def zt:FS:=aw (bK (aH (aq xf (aq ay (af 0) (fC (.int 0))) (fC (.int 0)))) (aw (aC (aq (aR cY (· % ·)) (aq ay (af 0) (fC (.int 0))) (af 1)) (gN 2)) (aw (aC (aq (aR fN (· / ·)) (aq ay (af 0) (fC (.int 0))) (af 1)) (eU (af 0) (fC (.int 0)))) (aF (af 2)))) (aN)) (aw (aC (aq aV (aq ay (af 0) (fC (.int 2))) (fC (.int 1))) (eU (af 0) (fC (.int 2)))) (aw (aC (aq ay (af 0) (fC (.int 2))) (gN 3)) (aw (aC (aq (aR cY (· % ·)) (aq bU (aq ay (af 0) (fC (.int 1))) (aq aV (aq aV (fC (.int 48271)) (aq bU (aq bU (fC (.int 2)) (af 3)) (af 3))) (aq bU (fC (.int 65537)) (af 3)))) (fC (.int 2305843009213693921))) (gN 4)) (aw (aC (aq aV (aq aV (aq (aR cY (· % ·)) (af 4) (fC (.int 1000003))) (aq bU (af 3) (fC (.int 99991)))) (fC (.int 11))) (gN 5)) (aw (aC (aq (aR cY (· % ·)) (aq bU (af 4) (af 5)) (fC (.int 2305843009213693907))) (gN 4)) (aF (aq (aR cY (· % ·)) (aq aV (aq (aR fN (· / ·)) (af 4) (fC (.int 97))) (aq (aR fN (· / ·)) (af 4) (fC (.int 1000033)))) (af 1))))))))
noncomputable def Ft (take:Fn):FS:=aF (aq ay (af 1) (ao take (aa (af 0) (aa (ao cx (aa (af 1) (ag))) (ag)))))
noncomputable def isWhole:D->Bool
 |.int _=>true
 |_=>false
noncomputable def within (d:D)(a b:Int):Bool:=match d with|.int i=>decide (a<=i)&&decide (i<=b)|_=>false
noncomputable def dz (d:D)(a b:Int):Bool:=match d with|.tup xs=>decide (a<=(xs.length:Int))&&decide ((xs.length:Int)<=b)|_=>false
noncomputable def mP (d:D):Bool:=within d (-999999999999) 999999999999
noncomputable def isVal:Nat->D->Bool
 | 0,d=>mP d
 |n+1,.tup xs=>decide (xs.length<=8)&&xs.all (isVal n)
 |_+1,d=>mP d
mutual
noncomputable def nf:D->Bool
 |.fn _=>false
 |.tup xs=>p7 xs
 |_=>true
noncomputable def p7:List D->Bool
 | []=>true
 |d::ds=>nf d&&p7 ds
end
theorem tO {d:D}(h:nf d=true):isFn d=false:=by cases d<;>first|rfl|cases h
theorem qZ:∀{xs:List D},p7 xs=true->∀d∈xs,nf d=true
 | [],_,d,hd=>by simp at hd
 |x::xs,h,d,hd=>by
  simp only[p7,Y3]at h
  rcases Zd.mp hd with rfl|hd
  . exact h.1
  . exact qZ h.2 d hd
noncomputable def q_ (f:Fn):Prop:=∀d g,isFn d=false->f [d] g=some (.bl (isWhole d),g)
noncomputable def lF (f:Fn):Prop:=∀d a b g,isFn d=false->f [d,.int a,.int b] g=some (.bl (within d a b),g)
noncomputable def iZ (f:Fn):Prop:=∀d a g,isFn d=false->f [d,.int a] g=some (.bl (within d (-a) a),g)
noncomputable def eM (f:Fn):Prop:=∀d a b g,isFn d=false->f [d,.int a,.int b] g=some (.bl (dz d a b),g)
noncomputable def vK (f:Fn)(n:Nat):Prop:=∀d g,nf d=true->f [d,.int n] g=some (.bl (isVal n d),g)
noncomputable def zu (f:Fn):Prop:=∀d g,nf d=true->f [d] g=some (.bl (isVal 3 d),g)
theorem DM:q_ (aD false 1 1 BC):=λd g hd=>by
 refine bS (σ':=[some d]) rfl ?_ rfl
 cases d<;>first| (simp[BC,gJ,isWhole];done)|cases hd
theorem BD {w:Fn}(hw:q_ w):lF (aD false 3 3 (qY w)):=λd a b g hd=>by
 refine bS (σ':=[some d,some (.int a),some (.int b)]) rfl ?_ rfl
 cases d with
 |int i =>
  simp[qY,hw (.int i) g hd,isWhole,within]
  by_cases h:a<=i<;>simp[h]
 |fn x=>cases hd
 |_=>simp[qY,hw _ g hd,isWhole,within]
theorem zv {w:Fn}(hw:lF w):iZ (aD false 2 2 (vJ w)):=λd a g hd=>by
 refine bS (σ':=[some d,some (.int a)]) rfl ?_ rfl
 simp[vJ,hw d (-a) a g hd]
theorem zw:eM (aD false 3 3 tupleOfB):=λd a b g hd=>by
 refine bS (σ':=[some d,some (.int a),some (.int b)]) rfl ?_ rfl
 cases d with
 |tup xs =>
  simp[tupleOfB,gJ,dz]
  by_cases h:a<=(xs.length:Int)<;>simp[h]
 |fn x=>cases hd
 |_=>simp[tupleOfB,gJ,dz]
theorem Mj {f t v:Fn}(hf:iZ f):vK (aD false 2 2 (xR f t v)) 0:=λd g hd=>by
 refine bS (σ':=[some d,some (.int 0)]) rfl ?_ rfl
 simp[xR,hf d _ g (tO hd),isVal,mP]
theorem Ml {f t v:Fn}{n:Nat}(hf:iZ f)(ht:eM t)(hv:vK v n):vK (aD false 2 2 (xR f t v)) (n+1):=λd g hd=>by
 refine bS (σ':=[some d,some (.int ((n:Int)+1))]) rfl ?_ rfl
 have hn:¬((n:Int)+1=0):=by omega
 cases d with
 |tup xs =>
  by_cases h:xs.length<=8
  . have hz:xs.length<=16777216:=by omega
    have h8:(xs.length:Int)<=8:=by omega
    have h9:(0:Int)<=(xs.length:Int):=by omega
    have e:=dB (t:=gN 1) (c:=aQ) (e:=ao v (aa (af 1) (aa (aq (aR bp (· - ·)) (af 2) (fC (.int 1))) ag))) (h:=λd=>D.bl (isVal n d)) (λσ=>∃o,σ = [none,o,some (.int ((n:Int)+1))]) xs [none,none,some (.int ((n:Int)+1))] g ⟨_,rfl⟩ (by
     rintro d hm σ ⟨o,rfl⟩
     refine⟨[none,some d,some (.int ((n:Int)+1))],by simp,by simp,?_,⟨_,rfl⟩⟩
     have e1:((n:Int)+1-1)=n:=by omega
     simp[e1,hv d g (qZ hd d hm)])
    simp[xR,gJ,hn,ht _ _ _ _ vI,isVal,h,h8,hz,e,dC,dz]
  . have h8:¬(xs.length:Int)<=8:=by omega
    simp[xR,gJ,hn,ht _ _ _ _ vI,isVal,h,h8,dz]
 |fn x=>cases hd
 |_=>simp[xR,gJ,hn,hf _ _ g (tO hd),isVal,mP]
theorem Mm {v:Fn}(hv:vK v 3):zu (aD false 1 1 (Mi v)):=λd g hd=>by
 refine bS (σ':=[some d]) rfl ?_ rfl
 have e:=hv d g hd
 simp at e
 simp[Mi,e]
theorem gM {i j:Int}(h1:-(2 ^ 64)<i)(h2:i<2 ^ 64):dg i j=true:=by
 unfold dg
 rw[ZR]
 exact .inl (aaR (by omega))
theorem nG {i j:Int}(h1:-(2 ^ 64)<j)(h2:j<2 ^ 64):dg i j=true:=by
 unfold dg
 rw[ZR]
 exact .inr (aaR (by omega))
theorem oM {i j:Int}(h1:0<j)(h2:j<1073741824):fN i j=true:=by
 unfold fN
 rw[Y3]
 exact⟨aaR (by omega),aaR (by omega)⟩
theorem iF {i j:Int}(h1:0<j):cY i j=true:=aaR (by omega)
noncomputable def Hd (g:G)(n:Nat)(B:Int):Prop:=∃a b c:Int,g[n]? = some [.int a,.int b,.int c]/\0<=a/\0<=b/\b<2 ^ 62/\0<=c/\c<=B
theorem Hd.mono {g n B B'}(h:Hd g n B)(hb:B<=B'):Hd g n B':=let⟨a,b,c,h1,h2,h3,h4,h5,h6⟩:=h;⟨a,b,c,h1,h2,h3,h4,h5,by omega⟩
theorem Hd.lt {g n B}(h:Hd g n B):n<g.length:=let⟨_,_,_,h1,_⟩:=h;(Y7.mp h1).1
noncomputable def Fr (n:Nat)(g g':G):Prop:=g'.length=g.length /\ ∀j,j≠n->g'[j]? = g[j]?
theorem Fr.refl {n g}:Fr n g g:=⟨rfl,λ_ _=>rfl⟩
theorem Fr.trans {n g g1 g2}(a:Fr n g g1)(b:Fr n g1 g2):Fr n g g2:=⟨b.1.trans a.1,λj h=>(b.2 j h).trans (a.2 j h)⟩
theorem Fr.set {n:Nat}{g:G}{xs:List D}:Fr n g (g.set n xs):=⟨by simp,λj h=>by rw[ZK (aa0 h)]⟩
theorem QP {a b c:D}:dY [a,b,c] 0=some a:=rfl
theorem EV {a b c:D}:dY [a,b,c] 1=some b:=rfl
theorem at2 {a b c:D}:dY [a,b,c] 2=some c:=rfl
theorem Tg {g:G}{n:Nat}{a b c v:D}(h:g[n]? = some [a,b,c]):putD (.ref n) (.int 0) v g=some (g.set n [v,b,c]):=by unfold putD;simp only[h];rfl
theorem put2 {g:G}{n:Nat}{a b c v:D}(h:g[n]? = some [a,b,c]):putD (.ref n) (.int 2) v g=some (g.set n [a,b,v]):=by unfold putD;simp only[h];rfl
noncomputable def dU (f:Fn):Prop:=∀(n:Nat) (m:Int) (g:G) (B:Int),B<2 ^ 40->0<m->m<1073741824->Hd g n B ->
 ∃r g',f [.ref n,.int m] g=some (.int r,g')/\0<=r/\r<m/\Hd g' n (B+1)/\Fr n g g'
theorem Iu:dU (aD false 6 2 zt):=λn m g B hB hm uS h=>by
 obtain⟨a,b,c,hg,ha,hb,Fq,hc,YJ⟩:=h
 have hn:n<g.length:=(Y7.mp hg).1
 by_cases h0:0<a
 . refine⟨a % m,g.set n [.int (a / m),.int b,.int c],bS (σ':=[some (.ref n),some (.int m),some (.int (a % m)),none,none,none]) rfl ?_ (by simp),acU _ (by omega),ack _ hm,⟨a / m,b,c,by simp[hn],Int.ediv_nonneg ha (by omega),hb,Fq,hc,by omega⟩,Fr.set⟩
   simp[zt,hg,QP,h0,iF hm,oM hm uS,Tg hg]
 . have e2:(g.set n [.int a,.int b,.int (c+1)])[n]? = some [.int a,.int b,.int (c+1)]:=by simp[hn]
   generalize hx:b*(48271+2*(c+1)*(c+1)+65537*(c+1)) % 2305843009213693921=x
   have QQ:0<=x:=by rw[<- hx];exact acU _ (by decide)
   have YK:x<2305843009213693921:=by rw[<- hx];exact ack _ (by decide)
   generalize hy:x*(x % 1000003+(c+1)*99991+11) % 2305843009213693907=y
   refine⟨(y / 97+y / 1000033) % m,g.set n [.int a,.int b,.int (c+1)],bS (σ':=[some (.ref n),some (.int m),none,some (.int (c+1)),some (.int y),some (.int (x % 1000003+(c+1)*99991+11))]) rfl ?_ (by simp),acU _ (by omega),ack _ hm,⟨a,b,c+1,e2,ha,hb,Fq,by omega,by omega⟩,Fr.set⟩
   have m1:dg 2 (c+1)=true:=gM (by decide) (by decide)
   have m2:dg (2*(c+1)) (c+1)=true:=nG (by omega) (by omega)
   have m3:dg 65537 (c+1)=true:=gM (by decide) (by decide)
   have m4:dg b (48271+2*(c+1)*(c+1)+65537*(c+1))=true:=gM (by omega) (by omega)
   have m5:dg (c+1) 99991=true:=nG (by decide) (by decide)
   have m6:dg x (x % 1000003+(c+1)*99991+11)=true:=gM (by omega) (by omega)
   have d1:cY (b*(48271+2*(c+1)*(c+1)+65537*(c+1))) 2305843009213693921=true:=iF (by decide)
   have d2:cY x 1000003=true:=iF (by decide)
   have d3:cY (x*(x % 1000003+(c+1)*99991+11)) 2305843009213693907=true:=iF (by decide)
   have d4:cY (y / 97+y / 1000033) m=true:=iF hm
   have q1:fN y 97=true:=oM (by decide) (by decide)
   have q2:fN y 1000033=true:=oM (by decide) (by decide)
   simp[zt,hg,QP,EV,at2,h0,put2 hg,e2,m1,m2,m3,m4,m5,m6,d1,d2,d3,d4,q1,q2,hx,hy]
theorem dU.w {f:Fn}(h:dU f){n:Nat}{m:Int}{g:G}{B:Int}{Q:D×G->Prop}(hB:B<2 ^ 40)(hm:0<m)(uS:m<1073741824)(hh:Hd g n B)(q:∀r g',0<=r->r<m->Hd g' n (B+1)->Fr n g g'->Q (.int r,g')):wp (f [.ref n,.int m] g) Q:=by
 obtain⟨r,g',e,r0,r1,h1,l1⟩:=h n m g B hB hm uS hh
 exact⟨_,e,q r g' r0 r1 h1 l1⟩
noncomputable def gq (f:Fn):Prop:=∀(n:Nat) (xs:List D) (g:G) (B:Int),B<2 ^ 40->xs ≠ []->xs.length<1000->Hd g n B ->
 ∃d g',f [.ref n,.lst xs] g=some (d,g')/\d∈xs/\Hd g' n (B+1)/\Fr n g g'
theorem Iv {t:Fn}(ht:dU t):gq (aD false 2 2 (Ft t)):=λn xs g B hB hx hl h=>by
 have h1:0<xs.length:=aeH.mpr hx
 obtain⟨r,g',e,r0,r1,h',LS⟩:=ht n (xs.length:Int) g B hB (by omega) (by omega) h
 have hr:r.toNat<xs.length:=by omega
 have ha:dY xs r=some xs[r.toNat]:=by
  unfold dY kC
  rw[if_pos r0,if_pos r1]
  exact Y8 hr
 refine⟨xs[r.toNat],g',bS (σ':=[some (.ref n),some (.lst xs)]) rfl ?_ LS.1,aaf hr,h',LS⟩
 simp[Ft,e,ha]
theorem gq.w {f:Fn}(h:gq f){n:Nat}{xs:List D}{g:G}{B:Int}{Q:D×G->Prop}(hB:B<2 ^ 40)(hx:xs ≠ [])(hl:xs.length<1000)(hh:Hd g n B)(q:∀d g',d∈xs->Hd g' n (B+1)->Fr n g g'->Q (d,g')):wp (f [.ref n,.lst xs] g) Q:=by
 obtain⟨d,g',e,r0,h1,l1⟩:=h n xs g B hB hx hl hh
 exact⟨_,e,q d g' r0 h1 l1⟩
theorem QR:cM 10 18=true:=by decide
noncomputable def p8 (f:Fn):Prop:=∀(ns:List Int) (i:Nat) (g:G),i<=100->∃xs,f [.lst (ns.map .int),.int i] g=some (.ref g.length,g ++ [xs])/\Hd (g ++ [xs]) g.length 0
section
variable {σ σ1:Sg}{g g1:G}{f:FE}{f1 f2:FS}{c:FT}{d:D}
theorem p9 (h:f1 σ g=some (.nx,σ1,g1)):aw f1 f2 σ g=f2 σ1 g1:=by rw[cP,h];rfl
theorem zx {i:Nat}(h:f σ g=some (d,g1)):aC f (gN i) σ g=some (.nx,σ.set i (some d),g1):=by rw[HE,h];rfl
theorem Th (h:c σ g=some (true,g1)):bK c f1 f2 σ g=f1 σ g1:=by rw[iV,h];rfl
theorem Ti (h:c σ g=some (false,g1)):bK c f1 f2 σ g=f2 σ g1:=by rw[iV,h];rfl
end
theorem aL {n:Nat}(h:n<=1000):aG n=true:=by
 rw[HD]
 exact decide_eq_true (by omega)
theorem Iw:p8 (aD true 3 2 zr):=λns i g hi=>by
 have fin:∀cell:Int,∃xs,(aF (aK mkRef (aa (aq bU (af 2) (ao ki (aa (aq AH (af 2) (aq (aR cM (λi j=>i ^ j.toNat)) (fC (.int 10)) (fC (.int 18)))) (ag)))) (aa (aq aV (aq aV (aq (aR cY (· % ·)) (af 2) (fC (.int 2305843009213693951))) (aq bU (fC (.int 7919)) (af 1))) (fC (.int 3))) (aa (fC (.int 0)) (ag)))))) [some (.lst (ns.map .int)),some (.int i),some (.int cell)] g=some (.rt (.ref g.length),[some (.lst (ns.map .int)),some (.int i),some (.int cell)],g ++ [xs])/\Hd (g ++ [xs]) g.length 0:=by
   intro cell
   have q0:0<=cell % 2305843009213693951:=acU _ (by decide)
   have q1:cell % 2305843009213693951<2305843009213693951:=ack _ (by decide)
   have d1:cY cell 2305843009213693951=true:=iF (by decide)
   have m2:dg 7919 (i:Int)=true:=gM (by decide) (by decide)
   by_cases hc:1000000000000000000<=cell
   . have m1:dg cell 1=true:=nG (by decide) (by decide)
     refine⟨[.int cell,.int (cell % 2305843009213693951+7919*i+3),.int 0],by simp[QR,hc,m1,m2,d1],?_⟩
     exact⟨cell,cell % 2305843009213693951+7919*i+3,0,by simp,by omega,by omega,by omega,by omega,by omega⟩
   . have m1:dg cell 0=true:=nG (by decide) (by decide)
     refine⟨[.int 0,.int (cell % 2305843009213693951+7919*i+3),.int 0],by simp[QR,hc,m1,m2,d1],?_⟩
     exact⟨0,cell % 2305843009213693951+7919*i+3,0,by simp,by omega,by omega,by omega,by omega,by omega⟩
 by_cases h:i<ns.length
 . obtain⟨xs,e,hx⟩:=fin ns[i]
   refine⟨xs,xh (σ':=[some (.lst (ns.map .int)),some (.int i),some (.int ns[i])]) rfl ?_,hx⟩
   unfold zr
   refine(p9 (zx (d:=.int 0) (g1:=g) rfl)).trans ?_
   refine(p9 (σ1:=[some (.lst (ns.map .int)),some (.int i),some (.int ns[i])]) (g1:=g) ((Th (g1:=g) ?_).trans (zx ?_))).trans e
   . have:(i:Int)<(ns.length:Int):=by omega
     simp[this]
   . have ha:dY (ns.map D.int) (i:Int)=some (.int ns[i]):=G_ (by simp[h])
     simp[ha]
 . obtain⟨xs,e,hx⟩:=fin 0
   refine⟨xs,xh (σ':=[some (.lst (ns.map .int)),some (.int i),some (.int 0)]) rfl ?_,hx⟩
   unfold zr
   refine(p9 (zx (d:=.int 0) (g1:=g) rfl)).trans ?_
   refine(p9 (σ1:=[some (.lst (ns.map .int)),some (.int i),some (.int 0)]) (g1:=g) ((Ti (g1:=g) ?_).trans rfl)).trans e
   have:¬(i:Int)<(ns.length:Int):=by omega
   simp[this]
noncomputable def cost:Nat->Int
 | 0=>3
 |n+1=>4+8*(1+cost n)
noncomputable def xS (f:Fn)(dp:Nat):Prop:=∀(n:Nat) (g:G) (B:Int),0<=B->B+cost dp<2 ^ 40->Hd g n B->∃d g',f [.ref n,.int dp] g=some (d,g')/\isVal dp d=true/\Hd g' n (B+cost dp)/\Fr n g g'
theorem xS.w {f:Fn}{dp:Nat}(h:xS f dp){n:Nat}{g:G}{B:Int}{Q:D×G->Prop}(W7:0<=B)(hB:B+cost dp<2 ^ 40)(hh:Hd g n B)(q:∀d g',isVal dp d=true->Hd g' n (B+cost dp)->Fr n g g'->Q (d,g')):wp (f [.ref n,.int dp] g) Q:=by
 obtain⟨d,g',e,r0,h1,l1⟩:=h n g B W7 hB hh
 exact⟨_,e,q d g' r0 h1 l1⟩
theorem p8.w {f:Fn}(h:p8 f){ns:List Int}{i:Nat}{g:G}{Q:D×G->Prop}(hi:i<=100)(q:∀xs,Hd (g ++ [xs]) g.length 0->Q (.ref g.length,g ++ [xs])):wp (f [.lst (ns.map .int),.int i] g) Q:=by
 obtain⟨xs,e,hx⟩:=h ns i g hi
 exact⟨_,e,q xs hx⟩
noncomputable def cZ (i:Int)(n:Nat):List D:=(Y9 n).map λ(k:Nat)=>D.int (i+k)
theorem gO {i n}:(cZ i n).length=n:=by simp[cZ]
theorem nH {fr:FA}{σ:Sg}{g:G}{Q:List D×G->Prop}(h:wp (fr σ g) λr=>∃j:Int,r.1 = [.int j] /\ -1000000<=j/\j<=1000000/\Q (cZ 0 j.toNat,r.2)):wp (gI fr σ g) Q:=by
 obtain⟨⟨ds,g'⟩,e,j,rfl,h1,h2,q⟩:=h
 refine⟨_,?_,q⟩
 unfold gI
 rw[e]
 simp only[Zb]
 rw[if_pos (gH.of h1 h2)]
 rfl
theorem Pt {fr:FA}{σ:Sg}{g:G}{Q:List D×G->Prop}(h:wp (fr σ g) λr=>∃i j:Int,r.1 = [.int i,.int j]/\(-1000000<=i/\i<=1000000)/\(-1000000<=j/\j<=1000000)/\Q (cZ i (j-i).toNat,r.2)):wp (sf fr σ g) Q:=by
 obtain⟨⟨ds,g'⟩,e,i,j,rfl,h1,h2,q⟩:=h
 refine⟨_,?_,q⟩
 unfold sf
 rw[e]
 simp only[Zb]
 rw[if_pos (by rw[gH.of h1.1 h1.2,gH.of h2.1 h2.2];rfl)]
 rfl
theorem Iy {i:Int}{n j:Nat}{d:D}(h:(cZ i n)[j]? = some d):j<n/\d = .int (i+j):=by
 unfold cZ at h
 rw[ZS]at h
 cases hj:(Y9 n)[j]? with
 |none=>rw[hj]at h;cases h
 |some x =>
  rw[hj]at h
  have hl:=(Y7.mp hj).1
  have:x=j:=by rw[aeE (by simpa using hl)]at hj;cases hj;rfl
  subst this
  cases h
  exact⟨by simpa using hl,rfl⟩
theorem jM {n j:Nat}{d:D}(h:(cZ 0 n)[j]? = some d):j<n/\d = .int j:=by
 obtain⟨h1,rfl⟩:=Iy h
 exact⟨h1,by simp⟩
theorem rg {nN nP:Nat}{b:FS}{ds:List D}{g:G}{Q:D×G->Prop}(hl:ds.length=nP)(h:wp (b (ds.map some++Zo (nN-nP) none) g) λr=>∃(k:Nat) (xs:List D),r.1 = .rt (.ref k)/\g.length<=k/\r.2.2[k]? = some xs/\aW g.length xs=true/\(r.2.2.take g.length).all (aW g.length)=true/\Q (.lst xs,r.2.2.take g.length)):wp (aD false nN nP b ds g) Q:=by
 obtain⟨⟨r,σ,g'⟩,e,k,xs,rfl,h1,h2,h3,h4,q⟩:=h
 dsimp only at *
 unfold aD
 rw[if_pos hl,e]
 have h5:k<g'.length:=(Y7.mp h2).1
 refine⟨_,?_,q⟩
 have z1:¬g'.length=g.length:=by omega
 have z2:¬k<g.length:=by omega
 simp only[Zb,Zh,if_false]
 unfold L3.settle
 rw[if_neg z1,if_pos h4]
 dsimp only
 rw[if_neg z2,h2]
 simp only[h3,if_true]
noncomputable def Clean (g:G):Prop:=∀xs∈g,∀n,aW n xs=true
theorem Clean.fr {n:Nat}{g g':G}{B:Int}(hc:Clean g)(f:Fr n g g')(h:Hd g' n B):Clean g':=by
 intro xs hx m
 obtain⟨j,hj⟩:=Z7.mp hx
 by_cases e:j=n
 . subst e
   obtain⟨a,b,c,h1,_⟩:=h
   rw[h1]at hj
   cases hj
   simp[aW,bB]
 . rw[f.2 j e]at hj
   exact hc xs (Z7.mpr ⟨j,hj⟩) m
theorem Clean.app {g:G}{xs:List D}{B:Int}(hc:Clean g)(h:Hd (g ++ [xs]) g.length B):Clean (g ++ [xs]):=by
 obtain⟨a,b,c,h1,_⟩:=h
 simp at h1
 subst h1
 intro ys hy m
 rcases Ze.mp hy with hy|hy
 . exact hc ys hy m
 . simp at hy
   subst hy
   simp[aW,bB]
theorem Clean.all {g:G}(hc:Clean g)(n:Nat):g.all (aW n)=true:=Zi.mpr λxs hx=>hc xs hx n
theorem cH {n:Nat}:∀{xs:List D},(∀x∈xs,bB n x=true)->aW n xs=true
 | [],_=>rfl
 |x::xs,h=>by
  simp only[aW,Y3]
  exact⟨h x (by simp),cH λy hy=>h y (by simp[hy])⟩
theorem DN {n:Nat}(is:List Int):aW n (is.map D.int)=true:=cH λx hx=>by
 simp only[Zc]at hx
 obtain⟨i,_,rfl⟩:=hx
 rfl
theorem eY {xs:List D}{n:Nat}{d:D}(h:xs[n]? = some d):dY xs (n:Int)=some d:=by
 have hl:=(Y7.mp h).1
 have h1:(0:Int)<=n:=by omega
 have h2:(n:Int)<(xs.length:Int):=by omega
 unfold dY kC
 rw[if_pos h1,if_pos h2]
 simpa using h
structure Mk (g gg:G)(n:Nat)(B:Int)(xs:List D):Prop where
 hd:Hd gg n B
 lt:n<g.length
 len:gg.length=g.length+1
 at_:gg[g.length]? = some xs
 old:∀j,j≠n->j<g.length->gg[j]? = g[j]?
theorem Mk.init {g:G}{n:Nat}{B:Int}{xs:List D}(h:Hd g n B):Mk g (g ++ [xs]) n B xs:=by
 have hl:=h.lt
 obtain⟨a,b,c,h1,h2⟩:=h
 exact⟨⟨a,b,c,by rw[Zu hl];exact h1,h2⟩,hl,by simp,by simp,λj _ hj=>Zu hj⟩
theorem Mk.step {g gg g':G}{n:Nat}{B B':Int}{xs:List D}(m:Mk g gg n B xs)(h:Hd g' n B')(f:Fr n gg g'):Mk g g' n B' xs:=by
 have:=m.lt
 exact⟨h,m.lt,by rw[f.1];exact m.len,by rw[f.2 _ (by omega)];exact m.at_,λj hj hl=>by rw[f.2 j hj];exact m.old j hj hl⟩
theorem Mk.put {g gg:G}{n:Nat}{B:Int}{xs ys:List D}(m:Mk g gg n B xs):Mk g (gg.set g.length ys) n B ys:=by
 have h1:=m.lt
 have h2:=m.len
 obtain⟨a,b,c,h3,h4⟩:=m.hd
 refine⟨⟨a,b,c,by rw[ZK (by omega)];exact h3,h4⟩,h1,by simp[h2],by simp[h2],λj hj hl=>by rw[ZK (by omega)];exact m.old j hj hl⟩
theorem Mk.mono {g gg:G}{n:Nat}{B B':Int}{xs:List D}(m:Mk g gg n B xs)(h:B<=B'):Mk g gg n B' xs:=⟨m.hd.mono h,m.lt,m.len,m.at_,m.old⟩
theorem Mk.fin {g gg:G}{n:Nat}{B:Int}{xs:List D}(m:Mk g gg n B xs):Hd (gg.take g.length) n B/\Fr n g (gg.take g.length):=by
 have h1:=m.lt
 have h2:=m.len
 obtain⟨a,b,c,h3,h4⟩:=m.hd
 refine⟨⟨a,b,c,by rw[ZH h1];exact h3,h4⟩,by simp[h2],λj hj=>?_⟩
 by_cases hl:j<g.length
 . rw[ZH hl];exact m.old j hj hl
 . rw[aaG (by simp;omega),aaG (by omega)]
structure ic (g gg:G)(n:Nat)(B:Int)(xs:List D):Prop where
 hd:Hd gg n B
 lt:n<g.length
 len:g.length+1<=gg.length
 at_:gg[g.length]? = some xs
 old:∀j,j≠n->j<g.length->gg[j]? = g[j]?
theorem ic.step {g gg g':G}{n:Nat}{B B':Int}{xs:List D}(m:ic g gg n B xs)(h:Hd g' n B')(f:Fr n gg g'):ic g g' n B' xs:=by
 have:=m.lt
 exact⟨h,m.lt,by rw[f.1];exact m.len,by rw[f.2 _ (by omega)];exact m.at_,λj hj hl=>by rw[f.2 j hj];exact m.old j hj hl⟩
theorem ic.put {g gg:G}{n:Nat}{B:Int}{xs ys:List D}(m:ic g gg n B xs):ic g (gg.set g.length ys) n B ys:=by
 have h1:=m.lt
 have h2:=m.len
 obtain⟨a,b,c,h3,h4⟩:=m.hd
 refine⟨⟨a,b,c,by rw[ZK (by omega)];exact h3,h4⟩,h1,by simp[h2],?_,λj hj hl=>by rw[ZK (by omega)];exact m.old j hj hl⟩
 rw[aao (by omega)]
theorem ic.mono {g gg:G}{n:Nat}{B B':Int}{xs:List D}(m:ic g gg n B xs)(h:B<=B'):ic g gg n B' xs:=⟨m.hd.mono h,m.lt,m.len,m.at_,m.old⟩
theorem ic.inner {g gg g3:G}{n:Nat}{B B':Int}{xs ys:List D}(m:ic g gg n B xs)(k:Mk gg g3 n B' ys):ic g g3 n B' xs:=by
 have h1:=m.lt
 have h2:=m.len
 have h3:=k.len
 exact⟨k.hd,h1,by omega,by rw[k.old _ (by omega) (by omega)];exact m.at_,λj hj hl=>by rw[k.old j hj (by omega)];exact m.old j hj hl⟩
theorem ic.fin {g gg:G}{n:Nat}{B:Int}{xs:List D}(m:ic g gg n B xs):Hd (gg.take g.length) n B/\Fr n g (gg.take g.length):=by
 have h1:=m.lt
 have h2:=m.len
 obtain⟨a,b,c,h3,h4⟩:=m.hd
 refine⟨⟨a,b,c,by rw[ZH h1];exact h3,h4⟩,by simp;omega,λj hj=>?_⟩
 by_cases hl:j<g.length
 . rw[ZH hl];exact m.old j hj hl
 . rw[aaG (by simp;omega),aaG (by omega)]
theorem Iz {i:Nat}{d:D}{σ:Sg}{g:G}{q:Sg×G}(h:gN i d σ g=some q):q.2=g:=by
 unfold gN at h
 cases h
 rfl
end Pd
namespace Pd
open PySem L3 L2 RI
noncomputable def xU:FS:=aF (dA (aq cF (aq ay (af 0) (fC (.int 3))) (fC .aA)) (aq oLe (aq ay (af 0) (fC (.int 3))) (aq ay (af 1) (fC (.int 2)))))
noncomputable def tP (p:Int):D->Bool
 |.tup [.str x]=>x == "look"
 |.tup [.str x,q,v]=>x == "put" && (within q 0 (p-1)&&isVal 3 v)
 |_=>false
noncomputable def i3:D->Bool
 |.aA=>true
 |_=>false
noncomputable def mQ (b e:D):Bool:=match b with
 |.int i=>decide (0<=i)&&(match e with|.aA=>true|.int j=>decide (i<j)|_=>false)
 |_=>false
noncomputable def mR (p:Int):D->Bool
 |.tup xs=>decide ((xs.length:Int)=p)&&xs.all (isVal 3)
 |_=>false
noncomputable def cD:D->Bool
 |.tup (.str x::_)=>x == "look"
 |_=>false
noncomputable def rh (p:Int):D->Bool
 |.tup [h,dd,b,e,t]=>within h 0 9&&(tP p dd&&mQ b e)&&(if cD dd && !i3 e then mR p t else i3 t)
 |_=>false
theorem eW {x:D}{xs:List D}:dY (x::xs) 0=some x:=eY (n:=0) rfl
theorem gD {x y:D}{xs:List D}:dY (x::y::xs) 1=some y:=eY (n:=1) rfl
theorem rn {x y z:D}{xs:List D}:dY (x::y::z::xs) 2=some z:=eY (n:=2) rfl
theorem zy {x y z w:D}{xs:List D}:dY (x::y::z::w::xs) 3=some w:=eY (n:=3) rfl
theorem vL {x y z w v:D}{xs:List D}:dY (x::y::z::w::v::xs) 4=some v:=eY (n:=4) rfl
theorem eq_str {x y:Str}:aI (.str x) (.str y)=(x == y):=by simp[aI]
theorem vM {t:FG}{c:FT}{e:FE}{cB:D->Bool}{h:D->D}(I:Sg->Prop):∀(ds:List D) (σ:Sg) (g:G),I σ->(∀d∈ds,∀σ,I σ->∃σ1,t d σ g=some (σ1,g)/\c σ1 g=some (cB d,g)/\(cB d=true->e σ1 g=some (h d,g))/\I σ1)->bZ t c e ds σ g=some ((ds.filter cB).map h,g)
 | [],_,_,_,_=>rfl
 |d::ds,σ,g,hi,hh=>by
  obtain⟨σ1,h1,h2,h3,h4⟩:=hh d Zp σ hi
  have ih:=vM I ds σ1 g h4 λx hx=>hh x (Zs _ hx)
  cases hc:cB d with
  |true =>
   rw[hc]at h2
   simp only[bZ,h1,h2,h3 hc,Zb,if_true,ih,aay,hc,Zw]
  |false =>
   rw[hc]at h2
   simp only[bZ,h1,h2,Zb,Zh,if_false,ih,aay,hc]
noncomputable def eD:Option Int->D
 |none=>.aA
 |some e=>.int e
structure lG (p:Int)(d:D)(h:Int)(dd:D)(b:Int)(e:Option Int)(tl:D):Prop where
 eq:d = .tup [.int h,dd,.int b,eD e,tl]
 h0:0<=h
 h9:h<=9
 dd_:tP p dd=true
 b0:0<=b
 eb:∀x,e=some x->b<x
theorem xV {p:Int}{d:D}(hr:rh p d=true):∃h dd b e tl,lG p d h dd b e tl:=by
 unfold rh at hr
 split at hr
 . rename_i h dd b e tl
   simp only[Y3]at hr
   obtain⟨⟨h1,h2,h3⟩,hz⟩:=hr
   clear hz
   unfold within at h1
   split at h1
   . rename_i i
     simp only[Y3,decide_eq_true_eq]at h1
     unfold mQ at h3
     split at h3
     . rename_i j
       simp only[Y3,decide_eq_true_eq]at h3
       obtain⟨h3,h4⟩:=h3
       split at h4
       . exact⟨i,dd,j,none,tl,rfl,h1.1,h1.2,h2,h3,λx z=>by cases z⟩
       . rename_i k
         exact⟨i,dd,j,some k,tl,rfl,h1.1,h1.2,h2,h3,λx z=>by cases z;exact of_decide_eq_true h4⟩
       . cases h4
     . cases h3
   . cases h1
 . cases hr
noncomputable def hI:D->Int
 |.tup (.int h::_)=>h
 |_=>0
noncomputable def bI:D->Int
 |.tup [_,_,.int b,_,_]=>b
 |_=>0
noncomputable def eI:D->Option Int
 |.tup [_,_,_,.int e,_]=>some e
 |_=>none
noncomputable def p_ (o r:D):Bool:=match eI o with
 |some e=>decide (e<=bI r)
 |none=>false
theorem lG.hI {p d h dd b e tl}(r:lG p d h dd b e tl):Pd.hI d=h:=by rw[r.eq];rfl
theorem lG.bI {p d h dd b e tl}(r:lG p d h dd b e tl):Pd.bI d=b:=by rw[r.eq];rfl
theorem lG.eI {p d h dd b e tl}(r:lG p d h dd b e tl):Pd.eI d=e:=by rw[r.eq];cases e<;>rfl
noncomputable def iG (p:Int)(f:Fn):Prop:=∀o r g,rh p o=true->rh p r=true->f [o,r] g=some (.bl (p_ o r),g)
theorem DP {p:Int}:iG p (aD false 2 2 xU):=λo r g ho hr=>by
 refine bS (σ':=[some o,some r]) rfl ?_ rfl
 obtain⟨h,dd,b,e,tl,R⟩:=xV ho
 obtain⟨h',YL,b',e',Fu,R'⟩:=xV hr
 unfold p_
 rw[R.eI,R'.bI,R.eq,R'.eq]
 cases e<;>simp[xU,zy,rn,eD,isLit,dG]
structure cO (g gg:G)(n:Nat)(B:Int)(cs:List (List D)):Prop where
 hd:Hd gg n B
 lt:n<g.length
 len:gg.length=g.length+cs.length
 at_:∀i,i<cs.length->gg[g.length+i]? = cs[i]?
 old:∀j,j≠n->j<g.length->gg[j]? = g[j]?
theorem cO.none {g:G}{n:Nat}{B:Int}(h:Hd g n B):cO g g n B []:=⟨h,h.lt,by simp,λi hi=>by simp at hi,λj _ _=>rfl⟩
theorem cO.push {g gg:G}{n:Nat}{B:Int}{cs:List (List D)}(m:cO g gg n B cs)(xs:List D):cO g (gg ++ [xs]) n B (cs ++ [xs]):=by
 have hl:=m.len
 have h1:=m.lt
 obtain⟨a,b,c,h2,h3⟩:=m.hd
 refine⟨⟨a,b,c,by rw[Zu (by omega)];exact h2,h3⟩,h1,by simp[hl];omega,λi hi=>?_,λj hj sg=>by rw[Zu (by omega)];exact m.old j hj sg⟩
 by_cases e:i<cs.length
 . rw[Zu (by omega),Zu e];exact m.at_ i e
 . have:i=cs.length:=by simp at hi;omega
   subst this
   rw[aaA (by omega),aaA (by omega)]
   simp[hl]
theorem cO.step {g gg g':G}{n:Nat}{B B':Int}{cs:List (List D)}(m:cO g gg n B cs)(h:Hd g' n B')(f:Fr n gg g'):cO g g' n B' cs:=by
 have:=m.lt
 exact⟨h,m.lt,by rw[f.1];exact m.len,λi hi=>by rw[f.2 _ (by omega)];exact m.at_ i hi,λj hj hl=>by rw[f.2 j hj];exact m.old j hj hl⟩
theorem cO.put {g gg:G}{n:Nat}{B:Int}{cs:List (List D)}(m:cO g gg n B cs)(i:Nat)(ys:List D):cO g (gg.set (g.length+i) ys) n B (cs.set i ys):=by
 have h1:=m.lt
 have h2:=m.len
 obtain⟨a,b,c,h3,h4⟩:=m.hd
 refine⟨⟨a,b,c,by rw[ZK (by omega)];exact h3,h4⟩,h1,by simp[h2],λj hj=>?_,λj hj hl=>by rw[ZK (by omega)];exact m.old j hj hl⟩
 by_cases e:i=j
 . subst e
   simp at hj
   rw[aao (by omega),aao hj]
 . rw[ZK (by omega),ZK e];exact m.at_ j (by simpa using hj)
theorem cO.mono {g gg:G}{n:Nat}{B B':Int}{cs:List (List D)}(m:cO g gg n B cs)(h:B<=B'):cO g gg n B' cs:=⟨m.hd.mono h,m.lt,m.len,m.at_,m.old⟩
theorem cO.fin {g gg:G}{n:Nat}{B:Int}{cs:List (List D)}(m:cO g gg n B cs):Hd (gg.take g.length) n B/\Fr n g (gg.take g.length):=by
 have h1:=m.lt
 have h2:=m.len
 obtain⟨a,b,c,h3,h4⟩:=m.hd
 refine⟨⟨a,b,c,by rw[ZH h1];exact h3,h4⟩,by simp[h2],λj hj=>?_⟩
 by_cases hl:j<g.length
 . rw[ZH hl];exact m.old j hj hl
 . rw[aaG (by simp;omega),aaG (by omega)]
theorem cO.clean {g gg:G}{n:Nat}{B:Int}{cs:List (List D)}(m:cO g gg n B cs)(hc:Clean g):(gg.take g.length).all (aW g.length)=true:=by
 obtain⟨h,f⟩:=m.fin
 exact(hc.fr f h).all _
inductive fX:List D->Prop
 |nil:fX []
 |cons (k:Int) (v:D) {r:List D}:fX r->fX (.int k::v::r)
theorem fL {a b:Int}:aI (.int a) (.int b)=decide (a=b):=by
 by_cases h:a=b<;>simp[aI,h]
theorem fX.put {xs:List D}(h:fX xs)(k:Int)(v:D):fX (cf xs (.int k) v):=by
 induction h with
 |nil=>exact .cons k v .nil
 |cons j w h ih =>
  simp only[cf,fL]
  split
  . exact .cons j v h
  . exact .cons j w ih
theorem fX.get {xs:List D}(h:fX xs)(k j:Int)(v:D):bf (cf xs (.int k) v) (.int j)=if k=j then some v else bf xs (.int j):=by
 induction h with
 |nil=>simp[cf,bf,fL]
 |cons i w h ih =>
  simp only[cf,fL]
  by_cases e:i=k
  . subst e
    simp[bf,fL]
    split<;>rfl
  . simp[e,bf,fL,ih]
    by_cases e2:i=j
    . subst e2
      have:¬k=i:=λz=>e z.symm
      simp[this]
    . simp[e2]
theorem fX.len {xs:List D}(h:fX xs)(k:Int)(v:D):(cf xs (.int k) v).length<=xs.length+2:=by
 induction h with
 |nil=>simp[cf]
 |cons i w h ih =>
  simp only[cf,fL]
  split
  . simp
  . simp;omega
theorem vN {xs:List D}(h:xs.length<=1000):lX xs=true:=aL (by omega)
theorem fX.bB {xs:List D}(h:fX xs){n:Nat}(hv:aW n xs=true)(k:Int)(v:D)(hn:L3.bB n v=true):aW n (cf xs (.int k) v)=true:=by
 induction h with
 |nil=>simp[cf,aW,L3.bB,hn]
 |cons i w h ih =>
  simp only[aW,Y3]at hv
  simp only[cf]
  split
  . simp[aW,hn,hv.1,hv.2.2]
  . simp[aW,hv.1,hv.2.1,ih hv.2.2]
theorem lH {xs:List D}(h:∀d∈xs,∃j:Int,d = .int j):aU xs=true/\bX xs=0:=by
 induction xs with
 |nil=>exact⟨rfl,rfl⟩
 |cons x xs ih =>
  obtain⟨j,rfl⟩:=h x (by simp)
  obtain⟨h1,h2⟩:=ih λd hd=>h d (by simp[hd])
  exact⟨by simp[aU,flat,h1],by simp[bX,dep,h2]⟩
noncomputable def DQ:FS:=cX (cq isRef b7 (af 3) (aa (aK aJ (aa (af 11) (aa (af 8) (aa (aK aJ (aa (af 10) (aa (af 12) (aa (af 4) (aa (ux (aH (aq hJ (af 10) (af 5))) (fC .aA) (aq ay (af 6) (af 10))) ag))))) ag)))) ag))
noncomputable def DR (take:Fn):FS:=aw (bK (aH (aq oEq (ao take (aa (af 0) (aa (fC (.int 8)) ag))) (fC (.int 0)))) (aC (fC (.bl true)) (eU (af 5) (af 10))) aN) DQ
noncomputable def vO (take val:Fn):FS:=aw (aC (aK aJ (aa (fC (.str "look")) ag)) (gN 12)) (aw (bK (aH (aq oLt (ao take (aa (af 0) (aa (fC (.int 5)) ag))) (fC (.int 3)))) (aC (aK aJ (aa (fC (.str "put")) (aa (ao take (aa (af 0) (aa (af 1) ag))) (aa (ao val (aa (af 0) ag)) ag)))) (gN 12)) aN) (DR take))
noncomputable def zA (take pick val:Fn):FS:=aw (aC (ao pick (aa (af 0) (aa (af 9) ag))) (gN 10)) (aw (aC (aq aV (aq aV (af 4) (fC (.int 1))) (ao pick (aa (af 0) (aa (aK cj (aa (fC (.int 0)) (aa (fC (.int 1)) (aa (fC (.int 2)) (aa (fC (.int 4)) (aa (fC (.int 9)) ag)))))) ag)))) (eU (af 6) (af 10))) (aw (aC (aq aV (aq aV (aq bU (fC (.int 4)) (af 4)) (fC (.int 1))) (ao take (aa (af 0) (aa (aq (aR bp (· - ·)) (aq bU (fC (.int 4)) (aq (aR bp (· - ·)) (aq ay (af 6) (af 10)) (af 4))) (fC (.int 1))) ag)))) (gN 11)) (vO take val)))
noncomputable def vP (take pick val:Fn):FS:=aw (aC (aq aV (af 4) (ao pick (aa (af 0) (aa (aK cj (aa (fC (.int 0)) (aa (fC (.int 1)) (aa (fC (.int 1)) (aa (fC (.int 2)) (aa (fC (.int 5)) ag)))))) ag)))) (gN 4)) (aw (aC (bh aY (gI (aa (af 7) ag)) [none,none,some 4,some 6,some 5] (gN 1) (i4 (aH (aq gK (af 1) (af 4))) (aH (aq oLe (cq iL i5 (af 3) (aa (af 1) (aa (fC (.int 0)) ag))) (af 2)))) (af 1)) (gN 9)) (bK (aH (aq gZ (af 9) (aK cj ag))) (zA take pick val) aN))
noncomputable def vQ (take pick val:Fn):FS:=aw (aC (aK aJ (aa (aK mkRef ag) (aa (fC (.int 0)) (aa hU (aa hU ag))))) (gT 4 (au (gN 3) (au (gN 4) (au (gN 5) (au (gN 6) aP)))))) (aw (aC (ao pick (aa (af 0) (aa (aK cj (aa (fC (.int 1)) (aa (fC (.int 2)) (aa (fC (.int 3)) (aa (fC (.int 3)) (aa (fC (.int 4)) (aa (fC (.int 5)) ag))))))) ag))) (gN 7)) (aw (cS (gI (aa (ao take (aa (af 0) (aa (aq aV (af 2) (fC (.int 1))) ag))) ag)) (gN 8) (vP take pick val)) (aF (af 3))))
noncomputable def BE (pick:Fn):FS:=aF (ao pick (aa (af 0) (aa (aK cj (aa (fC (.int 1)) (aa (fC (.int 1)) (aa (fC (.int 2)) (aa (fC (.int 3)) (aa (fC (.int 0)) (aa (aK aJ ag) (aa (aK aJ (aa (fC (.int 1)) (aa (fC (.int 2)) ag))) (aa (mr jG (fC (.int 5))) ag))))))))) ag)))
structure Row where
 pt:Int
 k:Int
 h:Int
 dd:D
 b:Int
 e:Option Int
noncomputable def Row.ls (r:Row):List D:=[.int r.h,r.dd,.int r.b,eD r.e]
noncomputable def Row.d (r:Row):D:=.tup [.int r.pt,.int r.k,.tup r.ls]
noncomputable def vals:List D:=[.int 1,.int 1,.int 2,.int 3,.int 0,.tup [],.tup [.int 1,.int 2],.int (-5)]
noncomputable def fM (p:Int)(dd:D):Prop:=dd = .tup [.str "look"] \/ ∃q v,dd = .tup [.str "put",.int q,v]/\0<=q/\q<p/\v∈vals
theorem mS (h:v∈vals):v = .int 1\/v = .int 2\/v = .int 3\/v = .int 0\/v = .tup []\/v = .tup [.int 1,.int 2]\/v = .int (-5):=by
 simpa[vals]using h
theorem fM.told {p dd}(h:fM p dd):tP p dd=true:=by
 rcases h with rfl|⟨q,v,rfl,h0,h1,hv⟩
 . rfl
 . have:isVal 3 v=true:=by rcases mS hv with rfl|rfl|rfl|rfl|rfl|rfl|rfl<;>decide
   simp[tP,within,this];omega
theorem fM.nf {p dd}(h:fM p dd):nf dd=true:=by
 rcases h with rfl|⟨q,v,rfl,h0,h1,hv⟩
 . rfl
 . rcases mS hv with rfl|rfl|rfl|rfl|rfl|rfl|rfl<;>rfl
theorem fM.flat {p dd}(h:fM p dd):L3.flat dd=true/\dep dd<=3:=by
 rcases h with rfl|⟨q,v,rfl,h0,h1,hv⟩
 . simp[L3.flat,aU,dep,bX]
 . rcases mS hv with rfl|rfl|rfl|rfl|rfl|rfl|rfl<;>simp[L3.flat,aU,dep,bX]
theorem fM.bB {p dd}(h:fM p dd)(n:Nat):L3.bB n dd=true:=by
 rcases h with rfl|⟨q,v,rfl,h0,h1,hv⟩
 . simp[L3.bB,aW]
 . rcases mS hv with rfl|rfl|rfl|rfl|rfl|rfl|rfl<;>simp[L3.bB,aW]
structure lI (p:Int)(r:Row):Prop where
 h0:0<=r.h
 h9:r.h<=9
 dd:fM p r.dd
 b0:0<=r.b
 eb:∀x,r.e=some x->r.b<x
 pa:4*r.b<r.pt
 pb:∀x,r.e=some x->r.pt<4*x
noncomputable def After (r s:Row):Prop:=r.k<s.k/\r.b<=s.b/\(r.h=s.h->∃x,r.e=some x/\x<=s.b)
structure mT (p:Int)(i:Nat)(bg:Int)(rws:List Row)(op en:List D):Prop where
 g:∀r∈rws,lI p r
 kk:∀r∈rws,0<=r.k/\r.k<i
 bb:∀r∈rws,r.b<=bg
 pw:rws.Pairwise After
 len:rws.length<=i
 io:fX op
 ie:fX en
 lo:op.length<=2*i
 le:en.length<=2*i
 ev:∀j d,bf en (.int j)=some d->∃x,d = .int x
 Mn:∀r∈rws,r.e=none->(bf op (.int r.h)).isSome=true
 cl:∀r∈rws,∀x,r.e=some x->∃y,bf en (.int r.h)=some (.int y)/\x<=y
 Fv:0<=bg
 Mp:bg<=5*i
 h5:∀r∈rws,r.h<=4
theorem mT.skip {p i bg iw rws op en}(h:mT p i bg rws op en)(h1:bg<=iw)(h2:iw<=bg+5):mT p (i+1) iw rws op en:=by
 have:=h.len;have:=h.lo;have:=h.le;have:=h.Fv;have:=h.Mp
 exact⟨h.g,λr hr=>⟨(h.kk r hr).1,by have:=(h.kk r hr).2;omega⟩,λr hr=>adL (h.bb r hr) h1,h.pw,by omega,h.io,h.ie,by omega,by omega,h.ev,h.Mn,h.cl,by omega,by omega,h.h5⟩
noncomputable def BF (en:List D)(j:Int):Int:=match(bf en (.int j)).getD (.int 0)with
 |.int y=>y
 |_=>0
theorem mT.en {p i bg rws op en}(h:mT p i bg rws op en)(j:Int):(bf en (.int j)).getD (.int 0)= .int (BF en j):=by
 unfold BF
 cases e:bf en (.int j)with
 |none=>rfl
 |some d=>obtain⟨x,rfl⟩:=h.ev j d e;rfl
theorem mT.step {p i bg iw rws op en}(h:mT p i bg rws op en)(h1:bg<=iw)(h2:iw<=bg+5)(o0:0<=one)(o9:one<=4)(ho:bf op (.int one)=none)(hy:BF en one<=iw)(hE:iw < E)(BG:4*iw < pt)(W9:pt<4*E)(hd:fM p dd)(Mq:cu=op\/cu=cf op (.int one) (.bl true)):
   mT p (i+1) iw (rws ++ [⟨pt,i,one,dd,iw,if(bf cu (.int one)).isSome then none else some E⟩]) cu (cf en (.int one) (.int E)):=by
 have hl:=h.len;have wY:=h.lo;have hle:=h.le;have YM:=h.Fv;have YN:=h.Mp
 have mono:∀j,(bf op (.int j)).isSome=true->(bf cu (.int j)).isSome=true:=λj hj=>by
   rcases Mq with rfl|rfl
   . exact hj
   . rw[h.io.get];split
     . rfl
     . exact hj
 have old:∀r∈rws,r.h=one->∃x y,r.e=some x/\bf en (.int one)=some (.int y)/\x<=y/\y<=iw:=λr hr e=>by
   cases he:r.e with
   |none =>
     have:=h.Mn r hr he
     rw[e,ho]at this
     cases this
   |some x =>
     obtain⟨y,y1,y2⟩:=h.cl r hr x he
     rw[e]at y1
     refine⟨x,y,rfl,y1,y2,?_⟩
     simpa[BF,y1]using hy
 refine⟨λr hr=>?_,λr hr=>?_,λr hr=>?_,?_,by simp;omega,?_,h.ie.put _ _,?_,?_,λj d e=>?_,λr hr e=>?_,λr hr x e=>?_,by omega,by omega,λr hr=>?_⟩
 . rcases Ze.mp hr with hr|hr
   . exact h.g r hr
   . simp at hr
     subst hr
     exact⟨o0,adL o9 (by decide),hd,by show 0<=iw;omega,λx e=>by
       dsimp only at e
       split at e
       . cases e
       . cases e;exact hE,BG,λx e=>by
       dsimp only at e
       split at e
       . cases e
       . cases e;exact W9⟩
 . rcases Ze.mp hr with hr|hr
   . have:=h.kk r hr;exact⟨this.1,by omega⟩
   . simp at hr
     subst hr
     exact⟨by show(0:Int)<=(i:Int);omega,by show(i:Int)<((i+1:Nat):Int);omega⟩
 . rcases Ze.mp hr with hr|hr
   . exact adL (h.bb r hr) h1
   . simp at hr
     subst hr
     exact Int.le_refl _
 . rw[List.pairwise_append]
   refine⟨h.pw,by simp,λr hr s hs=>?_⟩
   simp at hs
   subst hs
   refine⟨(h.kk r hr).2,adL (h.bb r hr) h1,λe=>?_⟩
   obtain⟨x,y,e1,_,e3,e4⟩:=old r hr e
   exact⟨x,e1,by show x<=iw;omega⟩
 . rcases Mq with rfl|rfl
   . exact h.io
   . exact h.io.put _ _
 . rcases Mq with rfl|rfl
   . omega
   . have:=h.io.len one (.bl true);omega
 . have:=h.ie.len one (.int E);omega
 . rw[h.ie.get]at e
   split at e
   . cases e;exact⟨_,rfl⟩
   . exact h.ev j d e
 . rcases Ze.mp hr with hr|hr
   . exact mono _ (h.Mn r hr e)
   . simp at hr
     subst hr
     dsimp only at e ⊢
     split at e
     . assumption
     . cases e
 . rw[h.ie.get]
   rcases Ze.mp hr with hr|hr
   . split
     . rename_i e1
       obtain⟨x',y,e1,_,e3,e4⟩:=old r hr e1.symm
       rw[e]at e1
       cases e1
       exact⟨E,rfl,by omega⟩
     . exact h.cl r hr x e
   . simp at hr
     subst hr
     dsimp only at e ⊢
     split at e
     . cases e
     . cases e
       simp
 . rcases Ze.mp hr with hr|hr
   . exact h.h5 r hr
   . simp at hr
     subst hr
     exact o9
noncomputable def gr (f:Fn):Prop:=∀(n:Nat) (g:G) (B:Int),B<2 ^ 40->Hd g n B->∃d g',f [.ref n] g=some (d,g')/\d∈vals/\Hd g' n (B+1)/\Fr n g g'
theorem IA (hp:gq p):gr (aD false 1 1 (BE p)):=λn g B hB h=>by
 obtain⟨d,g',e,hd,h1,l1⟩:=hp n vals g B hB (by simp[vals]) (by simp[vals]) h
 refine⟨d,g',bS (σ':=[some (.ref n)]) rfl ?_ l1.1,hd,h1,l1⟩
 unfold vals at e
 simp[BE,e]
theorem gr.w (h:gr f){Q:D×G->Prop}(hB:B<2 ^ 40)(hh:Hd g n B)(q:∀d g',d∈vals->Hd g' n (B+1)->Fr n g g'->Q (d,g')):wp (f [.ref n] g) Q:=by
 obtain⟨d,g',e,r0,h1,l1⟩:=h n g B hB hh
 exact⟨_,e,q d g' r0 h1 l1⟩
theorem cO.a0 (m:cO g gg n B (x::cs)):gg[g.length]? = some x:=m.at_ 0 (by simp)
theorem cO.a1 (m:cO g gg n B (x::y::cs)):gg[g.length+1]? = some y:=m.at_ 1 (by simp)
theorem cO.a2 (m:cO g gg n B (x::y::z::cs)):gg[g.length+2]? = some z:=m.at_ 2 (by simp)
set_option maxHeartbeats 4000000 in
theorem DU (ht:dU take)(hv:gr val){Q:F×Sg×G->Prop}(hB:B+10<2 ^ 40)(hp:0<p)(lW:p<=1000)(m:cO g gg n B [rows,op,en])(he:bf en (.int one)=some (.int E))(hs:lX op=true)(hz:rows.length+1<=1000)
   (q:∀dd cu g',fM p dd->(cu=op\/cu=cf op (.int one) (.bl true))->cO g g' n (B+4) [rows ++ [Row.d ⟨pt,k,one,dd,bg,if(bf cu (.int one)).isSome then none else some E⟩],cu,en]->Q (.nx,[some (.ref n),some (.int p),some (.int most),some (.ref g.length),some (.int bg),some (.aM (g.length+1)),some (.aM (g.length+2)),some (.int ee),some (.int k),o9,some (.int one),some (.int pt),some dd],g')):
   wp (vO take val [some (.ref n),some (.int p),some (.int most),some (.ref g.length),some (.int bg),some (.aM (g.length+1)),some (.aM (g.length+2)),some (.int ee),some (.int k),o9,some (.int one),some (.int pt),fT] gg) Q:=by
 have Fw:aG (rows.length+1)=true:=aL hz
 have fin:∀(dd:D) (cu:List D) (g':G) (B':Int),B'<=B+4->fM p dd->(cu=op\/cu=cf op (.int one) (.bl true))->cO g g' n B' [rows,cu,en]->wp (DQ [some (.ref n),some (.int p),some (.int most),some (.ref g.length),some (.int bg),some (.aM (g.length+1)),some (.aM (g.length+2)),some (.int ee),some (.int k),o9,some (.int one),some (.int pt),some dd] g') Q:=by
   intro dd cu g' B' hb hd ho m'
   have a0:=m'.a0
   have a1:=m'.a1
   have a2:=m'.a2
   have z:=q dd cu _ hd ho ((m'.mono hb).put 0 (rows ++ [Row.d ⟨pt,k,one,dd,bg,if(bf cu (.int one)).isSome then none else some E⟩]))
   unfold DQ
   cases hh:(bf cu (.int one)).isSome with
   |true =>
     simp[hh]at z
     simp[a0,a1,a2,hh,he,Fw]
     exact z
   |false =>
     simp[hh]at z
     simp[a0,a1,a2,hh,he,Fw]
     exact z
 have mid:∀(dd:D) (g':G) (B':Int),B'<=B+3->fM p dd->cO g g' n B' [rows,op,en]->wp (DR take [some (.ref n),some (.int p),some (.int most),some (.ref g.length),some (.int bg),some (.aM (g.length+1)),some (.aM (g.length+2)),some (.int ee),some (.int k),o9,some (.int one),some (.int pt),some dd] g') Q:=by
   intro dd g' B' hb hd m'
   unfold DR
   simp
   refine ht.w (by omega) (by decide) (by decide) m'.hd λr g2 r0 r1 h2 f2=>?_
   have m2:=m'.step h2 f2
   have a1:=m2.a1
   by_cases hr:r=0
   . simp[hr,a1,hs]
     exact fin dd _ _ (B'+1) (by omega) hd (.inr rfl) (m2.put 1 _)
   . simp[hr]
     exact fin dd _ _ (B'+1) (by omega) hd (.inl rfl) m2
 unfold vO
 simp
 refine ht.w (by omega) (by decide) (by decide) m.hd λr g2 r0 r1 h2 f2=>?_
 have m2:=m.step h2 f2
 by_cases hr:r<3
 . simp[hr]
   refine ht.w (by omega) (by omega) (by omega) m2.hd λc g3 c0 c1 h3 f3=>?_
   have m3:=m2.step h3 f3
   simp
   refine hv.w (by omega) m3.hd λv g4 v0 h4 f4=>?_
   have m4:=m3.step h4 f4
   simp
   exact mid _ _ _ (by omega) (.inr ⟨c,v,rfl,c0,c1,v0⟩) m4
 . simp[hr]
   exact mid _ _ _ (by omega) (.inl rfl) m2
set_option maxHeartbeats 4000000 in
theorem IB (ht:dU take)(hp:gq pick)(hv:gr val){Q:F×Sg×G->Prop}(hB:B+20<2 ^ 40)(p0:0<p)(lW:p<=1000)(Fv:0<=bg)(YO:bg<=1000)(m:cO g gg n B [rows,op,en])(hs:lX op=true)(lO:lX en=true)(W_:fX en)(hz:rows.length+1<=1000)(hx:xs ≠ [])(EG:xs.length<=100)(xW:∀d∈xs,∃j:Int,d = .int j)
  (q:∀one pt E dd cu g',.int one∈xs->bg<E->4*bg<pt->pt<4*E->fM p dd->(cu=op\/cu=cf op (.int one) (.bl true))->cO g g' n (B+8) [rows ++ [Row.d ⟨pt,k,one,dd,bg,if(bf cu (.int one)).isSome then none else some E⟩],cu,cf en (.int one) (.int E)]->Q (.nx,[some (.ref n),some (.int p),some (.int most),some (.ref g.length),some (.int bg),some (.aM (g.length+1)),some (.aM (g.length+2)),some (.int ee),some (.int k),some (.lst xs),some (.int one),some (.int pt),some dd],g')):
  wp (zA take pick val [some (.ref n),some (.int p),some (.int most),some (.ref g.length),some (.int bg),some (.aM (g.length+1)),some (.aM (g.length+2)),some (.int ee),some (.int k),some (.lst xs),eO,eH,fT] gg) Q:=by
 unfold zA
 simp
 refine hp.w (by omega) hx (by omega) m.hd λd g2 hd h2 f2=>?_
 obtain⟨one,rfl⟩:=xW d hd
 have m2:=m.step h2 f2
 simp
 refine hp.w (by omega) (by simp) (by simp) m2.hd λc g3 hc h3 f3=>?_
 have m3:=m2.step h3 f3
 obtain⟨c,rfl,c0,c9⟩:∃i:Int,c = .int i/\0<=i/\i<=9:=by
  simp only[Zd,abz,or_false]at hc
  rcases hc with rfl|rfl|rfl|rfl|rfl<;>exact⟨_,rfl,by decide,by decide⟩
 have a2:=m3.a2
 have m4:=m3.put 2 (cf en (.int one) (.int (bg+1+c)))
 have b2:=m4.a2
 have gt:bf (cf en (.int one) (.int (bg+1+c))) (.int one)=some (.int (bg+1+c)):=by rw[W_.get];simp
 have k1:dg 4 bg=true:=gM (by decide) (by decide)
 have k2:dg 4 (bg+1+c-bg)=true:=gM (by decide) (by decide)
 simp[a2,lO,b2,gt,k1,k2]
 refine ht.w (by omega) (by omega) (by omega) m4.hd λr g5 r0 r1 h5 f5=>?_
 have m5:=m4.step h5 f5
 simp
 refine DU ht hv (by omega) p0 lW m5 gt hs hz λdd cu g' Jl ho m'=>?_
 exact q one _ _ dd cu g' hd (by omega) (by omega) (by omega) Jl ho (m'.mono (by omega))
noncomputable def may (op en:List D)(bg:Int):D->Bool
 |.int j=>!(bf op (.int j)).isSome&&decide (BF en j<=bg)
 |_=>false
theorem xX (h:d∈cZ 0 n):∃j:Nat,j<n/\d = .int j:=by
 obtain⟨i,hi⟩:=Z7.mp h
 obtain⟨h1,h2⟩:=jM hi
 exact⟨i,h1,h2⟩
set_option maxHeartbeats 4000000 in
theorem DV (ht:dU take)(hp:gq pick)(hv:gr val){Q:F×Sg×G->Prop}(hB:B+30<2 ^ 40)(p0:0<p)(lW:p<=1000)(YQ:1<=ee)(hh:ee<=5)(hi:i<=100)(m:cO g gg n B [rws.map Row.d,op,en])(I:mT p i bg rws op en)
  (q:∀iw DX cu Mr g' o9 eO eH fT,cO g g' n (B+10) [DX.map Row.d,cu,Mr]->mT p (i+1) iw DX cu Mr->Q (.nx,[some (.ref n),some (.int p),some (.int most),some (.ref g.length),some (.int iw),some (.aM (g.length+1)),some (.aM (g.length+2)),some (.int ee),some (.int i),o9,eO,eH,fT],g')):
  wp (vP take pick val [some (.ref n),some (.int p),some (.int most),some (.ref g.length),some (.int bg),some (.aM (g.length+1)),some (.aM (g.length+2)),some (.int ee),some (.int i),o9,eO,eH,fT] gg) Q:=by
 unfold vP
 simp
 refine hp.w (by omega) (by simp) (by simp) m.hd λc g2 hc h2 f2=>?_
 have m2:=m.step h2 f2
 obtain⟨c,rfl,c0,c5⟩:∃i:Int,c = .int i/\0<=i/\i<=5:=by
  simp only[Zd,abz,or_false]at hc
  rcases hc with rfl|rfl|rfl|rfl|rfl<;>exact⟨_,rfl,by decide,by decide⟩
 have Yi:=I.Fv
 have Yj:=I.Mp
 have hlen:=I.len
 have wY:=I.lo
 have hle:=I.le
 have a1:=m2.a1
 have a2:=m2.a2
 simp
 refine nH ?_
 simp
 refine⟨by omega,by omega,?_⟩
 have hz:aG (cZ 0 ee.toNat).length=true:=aL (by rw[gO];omega)
 have cm:=vM (t:=gN 1) (c:=i4 (aH (aq gK (af 1) (af 4))) (aH (aq oLe (cq iL i5 (af 3) (aa (af 1) (aa (fC (.int 0)) ag))) (af 2)))) (e:=af 1) (cB:=may op en (bg+c)) (h:=λd=>d) (λσ=>∃o,σ = [none,o,some (.int (bg+c)),some (.aM (g.length+2)),some (.aM (g.length+1))]) (cZ 0 ee.toNat) [none,none,some (.int (bg+c)),some (.aM (g.length+2)),some (.aM (g.length+1))] g2 ⟨_,rfl⟩ (by
  rintro d hm σ ⟨o,rfl⟩
  obtain⟨j,hj,rfl⟩:=xX hm
  refine⟨[none,some (.int j),some (.int (bg+c)),some (.aM (g.length+2)),some (.aM (g.length+1))],by simp,?_,λ_=>by simp,⟨_,rfl⟩⟩
  have e:=I.en j
  cases ho:(bf op (.int j)).isSome with
  |true=>simp[a1,a2,ho,may]
  |false=>simp[a1,a2,ho,may,e])
 have sb:∀a b c0 c1 c2 c3 c4 c5 c6 c7 c8 c9 Ms:Option D,bL [none,none,some 4,some 6,some 5] [c0,c1,c2,c3,a,b,c4,c5,c6,c7,c8,c9,Ms]= [none,none,a,c4,b]:=λ_ _ _ _ _ _ _ _ _ _ _ _ _=>rfl
 have sm:∀d∈(cZ 0 ee.toNat).filter (may op en (bg+c)),(∃j:Nat,(j:Int)<ee/\d = .int j)/\may op en (bg+c) d=true:=λd hd=>by
  obtain⟨h1,h2⟩:=Zt.mp hd
  obtain⟨j,h3,rfl⟩:=xX h1
  exact⟨⟨j,by omega,rfl⟩,h2⟩
 have Xa:((cZ 0 ee.toNat).filter (may op en (bg+c))).length<=10:=by
  have:=Z8 (may op en (bg+c)) (cZ 0 ee.toNat)
  rw[gO]at this
  omega
 rw[List.map_id']at cm
 generalize (cZ 0 ee.toNat).filter (may op en (bg+c))=xs at *
 have xW:∀d∈xs,∃j:Int,d = .int j:=λd hd=>let⟨⟨j,_,e⟩,_⟩:=sm d hd;⟨_,e⟩
 obtain⟨fl,dl⟩:=lH xW
 have Mt:flat (.lst xs)=true:=by simpa[flat]using fl
 have Xb:dep (.lst xs)=1:=by simp[dep,dl]
 have el:aI (.lst xs) (.lst [])=xs.isEmpty:=by cases xs<;>simp[aI,c_]
 have fn:flat (.lst [])=true:=by simp[flat,aU]
 simp[sb,cm,hz,Mt,Xb,el,fn]
 cases xs with
 |nil =>
  simp
  exact q _ _ _ _ _ _ _ _ _ (m2.mono (by omega)) (I.skip (by omega) (by omega))
 |cons x xs =>
  simp
  refine IB ht hp hv (by omega) p0 lW (by omega) (by omega) m2 (vN (by omega)) (vN (by omega)) I.ie (by simp;omega) (by simp) (by omega) xW λone pt E dd cu g' h1 h3 Xc Xd h4 h5 m'=>?_
  obtain⟨⟨j,j1,j2⟩,hm⟩:=sm _ h1
  cases j2
  simp only[may,Y3,Zx,decide_eq_true_eq]at hm
  have ho:bf op (.int j)=none:=by
   cases e:bf op (.int (j:Int))with
   |none=>rfl
   |some d=>rw[e]at hm;cases hm.1
  refine q _ (rws ++ [⟨pt,i,j,dd,bg+c,if(bf cu (.int j)).isSome then none else some E⟩]) _ _ _ _ _ _ _ ?_ (I.step (by omega) (by omega) (by omega) (by omega) ho hm.2 h3 Xc Xd h4 h5)
  rw[aat]
  exact m'.mono (by omega)
structure Rows (p:Int)(most:Nat)(rws:List Row):Prop where
 g:∀r∈rws,lI p r
 pw:rws.Pairwise After
 len:rws.length<=most
 kk:∀r∈rws,0<=r.k/\r.k<1000
 h5:∀r∈rws,r.h<=4
theorem Row.bB (h:lI p r)(n:Nat):L3.bB n r.d=true:=by
 have:=h.dd.bB n
 obtain⟨pt,k,hh,dd,b,e⟩:=r
 cases e<;>simp[Row.d,Row.ls,L3.bB,aW,eD,this]
noncomputable def Pu (n:Nat)(p:Int)(most:Nat)(c B:Int)(g:G)(R i:Nat)(σ:Sg)(gg:G):Prop:=i<=R->∃bg rws op en o8 o9 eO eH fT,σ = [some (.ref n),some (.int p),some (.int most),some (.ref g.length),some (.int bg),some (.aM (g.length+1)),some (.aM (g.length+2)),some (.int c),o8,o9,eO,eH,fT]/\cO g gg n (B+2+10*i) [rws.map Row.d,op,en]/\mT p i bg rws op en
set_option maxHeartbeats 4000000 in
theorem Mu (ht:dU take)(hp:gq pick)(hv:gr val){Q:D×G->Prop}(hB:B+2000<2 ^ 40)(p0:0<p)(lW:p<=1000)(hm:most<=50)(hd:Hd g n B)(hc:Clean g)
   (q:∀rws g',Rows p most rws->Hd g' n (B+1000)->Fr n g g'->Q (.lst (rws.map Row.d),g')):
   wp (aD false 13 3 (vQ take pick val) [.ref n,.int p,.int most] g) Q:=by
 refine rg rfl ?_
 unfold vQ
 simp
 have m0:cO g (g ++ [[],[],[]]) n B [[],[],[]]:=by simpa using (((cO.none hd).push []).push []).push []
 refine hp.w (B:=B) (by omega) (by simp) (by simp) m0.hd λc g2 rP h2 f2=>?_
 have m2:=m0.step h2 f2
 obtain⟨c,rfl,c0,Ms⟩:∃i:Int,c = .int i/\1<=i/\i<=5:=by
   simp only[Zd,abz,or_false]at rP
   rcases rP with rfl|rfl|rfl|rfl|rfl|rfl<;>exact⟨_,rfl,by decide,by decide⟩
 refine nH ?_
 simp
 refine ht.w (by omega) (by omega) (by omega) m2.hd λr g3 r0 r1 h3 f3=>?_
 have m3:=m2.step h3 f3
 simp
 refine⟨by omega,by omega,?_⟩
 refine kM (λi σ gg=>Pu n p most c B g r.toNat i σ gg) _ 0 _ _ (λ_=>⟨0,[],[],[],none,none,none,none,none,rfl,m3.mono (by omega),⟨by simp,by simp,by simp,.nil,by simp,.nil,.nil,by simp,by simp,(λj d e=>by cases e),by simp,by simp,by omega,by omega,by simp⟩⟩) ?_ ?_
 . intro j d σ gg sJ hI
   obtain⟨hj,rfl⟩:=jM sJ
   obtain⟨bg,rws,op,en,o8,o9,eO,eH,fT,rfl,m,I⟩:=hI (by omega)
   rw[abW]at *
   simp
   refine DV ht hp hv (by omega) p0 lW c0 Ms (by omega) m I λiw DX cu Mr g' o9 eO eH fT m' I'=>?_
   exact λ_=>⟨_,_,_,_,_,_,_,_,_,rfl,m'.mono (by omega),I'⟩
 . intro σ gg hI
   rw[gO]at hI
   obtain⟨bg,rws,op,en,o8,o9,eO,eH,fT,rfl,m,I⟩:=hI (by omega)
   have a0:=m.a0
   have hl:=I.len
   simp[a0]
   obtain⟨f1,f2⟩:=m.fin
   have cl:=m.clean hc
   exact⟨cH λx hx=>by
    obtain⟨r,hr,rfl⟩:=Zc.mp hx
    exact Row.bB (I.g r hr) _,λx hx=>Zi.mp cl x hx,q rws _ ⟨I.g,I.pw,by omega,(λr hr=>by have:=I.kk r hr;omega),I.h5⟩ (f1.mono (by omega)) f2⟩
noncomputable def Fx:FS:=bK (aH (aq oEq (aq ay (af 8) (fC (.int 0))) (fC (.str "put")))) (aC (aq aV (aq aV (dX (af 2) cN (cC (aq ay (af 8) (fC (.int 1))))) (aK aJ (aa (aq ay (af 8) (fC (.int 2))) ag))) (dX (af 2) (cC (aq aV (aq ay (af 8) (fC (.int 1))) (fC (.int 1)))) cN)) (gN 2)) aN
noncomputable def Fy:FS:=bK (gW (aH (aq oEq (aq ay (af 8) (fC (.int 0))) (fC (.str "put")))) (aH (aq cF (af 10) (fC .aA)))) (cX (cq isRef b7 (af 4) (aa (af 6) ag))) aN
noncomputable def Fz:FS:=bK (i4 (aH (aq oEq (aq ay (af 8) (fC (.int 0))) (fC (.str "look")))) (aH (aq cF (af 10) (fC .aA)))) (aC (af 2) (eU (af 3) (af 6))) aN
noncomputable def mU:FS:=aw Fx (aw Fy Fz)
noncomputable def QS:FG:=gT 3 (au (gN 5) (au (gN 6) (au (gT 4 (au (gN 7) (au (gN 8) (au (gN 9) (au (gN 10) aP))))) aP)))
noncomputable def nums:FE:=bh aY (bQ (af 1)) [none,none,none,none] (gT 3 (au (gN 1) (au (gN 2) (au (gN 3) aP)))) aQ (af 2)
noncomputable def DY:FE:=bh aY (bQ (af 1)) [none,none,none,none,some 3] (gT 3 (au (gN 1) (au (gN 2) (au (gN 3) aP)))) aQ (aq aV (af 3) (aK aJ (aa (cq iL i5 (af 4) (aa (af 2) ag)) ag)))
noncomputable def DZ:FE:=fJ aY (mI (af 4)) [none,none,some 11] (gN 1) aQ (cq iY ia (af 2) (aa (af 1) ag))
noncomputable def vR:FS:=aw (aC (aK aJ (aa (aq bU (aK aJ (aa (fC (.int 0)) ag)) (af 0)) (aa hU (aa (aK mkRef ag) ag)))) (gT 3 (au (gN 2) (au (gN 3) (au (gN 4) aP))))) (aw (cS (bQ (ao ib (aa (af 1) ag))) QS mU) (aw (aC nums (gN 11)) (aF (aK aJ (aa (ao da (aa DY ag)) (aa (ao da (aa DZ ag)) ag))))))
theorem lJ:∀(n:Nat) (d:D),isVal n d=true->nf d=true /\ ∀m,bB m d=true
 | 0,d,h=>by
  unfold isVal mP within at h
  split at h
  . exact⟨rfl,λ_=>rfl⟩
  . cases h
 |n+1,d,h=>by
  cases d with
  |tup xs =>
    simp only[isVal,Y3,Zi]at h
    have:∀ys:List D,(∀y∈ys,isVal n y=true)->p7 ys=true /\ ∀m,aW m ys=true:=λys=>by
     induction ys with
     |nil=>intro _;exact⟨rfl,λ_=>rfl⟩
     |cons y ys ih =>
      intro hy
      obtain⟨h1,h2⟩:=lJ n y (hy y (by simp))
      obtain⟨h3,h4⟩:=ih λz hz=>hy z (by simp[hz])
      exact⟨by simp[p7,h1,h3],λm=>by simp[aW,h2 m,h4 m]⟩
    obtain⟨h1,h2⟩:=this xs h.2
    exact⟨by simpa[nf]using h1,λm=>by simpa[bB]using h2 m⟩
  |_=>first|exact⟨rfl,λ_=>rfl⟩| (simp[isVal,mP,within]at h)
theorem BH (h:∀x∈xs,nf x=true):p7 xs=true:=by
 induction xs with
 |nil=>rfl
 |cons x xs ih=>simp[p7,h x (by simp),ih λy hy=>h y (by simp[hy])]
theorem qa (h:mR p d=true):nf d=true /\ ∀m,bB m d=true:=by
 unfold mR at h
 split at h
 . rename_i xs
   simp only[Y3,Zi]at h
   exact⟨by simpa[nf]using BH λx hx=>(lJ 3 x (h.2 x hx)).1,λm=>by simpa[bB]using cH λx hx=>(lJ 3 x (h.2 x hx)).2 m⟩
 . cases h
noncomputable def St (p:Int)(st:List D):Prop:=(st.length:Int)=p /\ ∀x∈st,isVal 3 x=true
theorem St.B {p st}(h:St p st):mR p (.tup st)=true:=by
 simp only[mR,Y3,decide_eq_true_eq,Zi]
 exact h
theorem rq (h:v∈vals):isVal 3 v=true:=by rcases mS h with rfl|rfl|rfl|rfl|rfl|rfl|rfl<;>decide
noncomputable def cJ (st:List D):D->List D
 |.tup [.str _,.int c,v]=>st.take c.toNat++v::st.drop (c.toNat+1)
 |_=>st
noncomputable def mV (p:Int)(done:List Row):List D:=done.foldl (λs r=>cJ s r.dd) (Zo p.toNat (.int 0))
theorem mW:mV p (done ++ [r])=cJ (mV p done) r.dd:=by simp[mV]
noncomputable def fz (r:Row):Bool:=!(cD r.dd)||r.e.isSome
structure TI (p:Int)(done:List Row)(st tl:List D)(ks:List Int):Prop where
 sv:St p st
 se:st=mV p done
 it:fX tl
 Mv:tl.length<=2*done.length
 t1:∀j d,bf tl (.int j)=some d->mR p d=true /\ ∃r∈done,r.k=j/\cD r.dd=true/\r.e.isSome=true
 t2:∀r∈done,cD r.dd=true->r.e.isSome=true->(bf tl (.int r.k)).isSome=true
 t3:∀a r b,done=a++r::b->cD r.dd=true->r.e.isSome=true->bf tl (.int r.k)=some (.tup (mV p a))
 ke:ks=(done.filter fz).map (·.k)
theorem TI.Mw {p done st tl ks}(I:TI p done st tl ks):ks.length<=done.length:=by rw[I.ke,Zr];exact Z8 _ _
theorem TI.zP {p done st tl ks}(I:TI p done st tl ks):∀k∈ks,∃r∈done,r.k=k:=λk hk=>by
 rw[I.ke]at hk
 obtain⟨r,hr,e⟩:=Zc.mp hk
 exact⟨r,(Zt.mp hr).1,e⟩
theorem qb (h:done ++ [r]=a++s::b):(b = []/\a=done/\s=r) \/ ∃b',b=b' ++ [r]/\done=a++s::b':=by
 rcases acF b with rfl|⟨b',x,rfl⟩
 . obtain⟨h1,h2⟩:=afG h rfl
   cases h2
   exact .inl ⟨rfl,h1.symm,rfl⟩
 . have h':done ++ [r]=(a++s::b') ++ [x]:=by simpa using h
   obtain⟨h1,h2⟩:=afG h' rfl
   cases h2
   exact .inr ⟨b',by simp,h1⟩
theorem Mx:(g ++ [a,b])[g.length]? = some a:=by simp
theorem My:(g ++ [a,b])[g.length+1]? = some b:=by simp
theorem QT:(g ++ [a,b]).set g.length c=g ++ [c,b]:=by simp
theorem QU:(g ++ [a,b]).set (g.length+1) c=g ++ [a,c]:=by
 rw[List.set_append_right _ _ (by omega)];simp
theorem lK {rws:List Row}(h:rws.Pairwise After):∀r∈rws,∀s∈rws,r.k=s.k->r=s:=by
 induction rws with
 |nil=>intro r hr;simp at hr
 |cons x xs ih =>
  rw[acm]at h
  intro r hr s hs e
  rcases Zd.mp hr with h1|h1<;>rcases Zd.mp hs with h2|h2
  . rw[h1,h2]
  . subst h1;have:=(h.1 s h2).1;omega
  . subst h2;have:=(h.1 r h1).1;omega
  . exact ih h.2 r h1 s h2 e
set_option maxHeartbeats 4000000 in
theorem D0 {Q:F×Sg×G->Prop}(hp:p<=100)(I:TI p done st tl ks)(hr:lI p r)(hl:done.length<=100)(qc:∀s∈done,s.k≠r.k)
   (q:∀cL Fu vS,TI p (done ++ [r]) cL Fu vS->Q (.nx,[some (.int p),some (.lst rows),some (.tup cL),some (.aM g.length),some (.ref (g.length+1)),some (.int r.pt),some (.int r.k),some (.int r.h),some r.dd,some (.int r.b),some (eD r.e),eH],g ++ [Fu,vS.map D.int])):
   wp (mU [some (.int p),some (.lst rows),some (.tup st),some (.aM g.length),some (.ref (g.length+1)),some (.int r.pt),some (.int r.k),some (.int r.h),some r.dd,some (.int r.b),some (eD r.e),eH] (g ++ [tl,ks.map D.int])) Q:=by
 have kl:=I.Mw
 have Mv:=I.Mv
 have hz:aG (ks.length+1)=true:=aL (by omega)
 have hs:lX tl=true:=vN (by omega)
 have vT:¬(Zy "put" = Zy "look"):=by decide
 have xY:¬(Zy "look" = Zy "put"):=by decide
 have kt:fz r=true->ks ++ [r.k]=((done ++ [r]).filter fz).map (·.k):=λh=>by
   rw[adb,aat,<- I.ke];simp[h]
 have kf:fz r=false->ks=((done ++ [r]).filter fz).map (·.k):=λh=>by
   rw[adb,aat,<- I.ke];simp[h]
 have same:∀cL vS,St p cL->cL=cJ st r.dd->vS=((done ++ [r]).filter fz).map (·.k)->¬(cD r.dd=true/\r.e.isSome=true)->TI p (done ++ [r]) cL tl vS:=λcL vS h1 h2 h3 h4=>by
   refine⟨h1,by rw[mW,<- I.se];exact h2,I.it,by simp;omega,λj d e=>?_,λs eL e1 e2=>?_,λa s b e e1 e2=>?_,h3⟩
   . obtain⟨z1,s,z2,z3⟩:=I.t1 j d e
     exact⟨z1,s,by simp[z2],z3⟩
   . rcases Ze.mp eL with eL|eL
     . exact I.t2 s eL e1 e2
     . simp at eL
       subst eL
       exact absurd ⟨e1,e2⟩ h4
   . rcases qb e with⟨_,_,rfl⟩|⟨b',_,e3⟩
     . exact absurd ⟨e1,e2⟩ h4
     . exact I.t3 a s b' e3 e1 e2
 rcases hr.dd with hd|⟨c,v,hd,c0,c1,hv⟩
 . have lk:cD r.dd=true:=by rw[hd];rfl
   have ps:st=cJ st r.dd:=by rw[hd];rfl
   cases he:r.e with
   |none =>
     have z:=q st tl ks (same st ks I.sv ps (kf (by simp[fz,lk,he])) (by simp[he]))
     rw[he,hd]at z
     simp[mU,Fx,Fy,Fz,hd,eW,eq_str,flat,dep,xY,eD,isLit,dG]
     exact z
   |some x =>
     have z:=q st (cf tl (.int r.k) (.tup st)) (ks ++ [r.k]) ⟨I.sv,by rw[mW,<- I.se];exact ps,I.it.put _ _,by have:=I.it.len r.k (.tup st);simp;omega,λj d e=>by
         rw[I.it.get]at e
         split at e
         . rename_i e1
           cases e
           exact⟨I.sv.B,r,by simp,e1,lk,by simp[he]⟩
         . obtain⟨z1,s,z2,z3⟩:=I.t1 j d e
           exact⟨z1,s,by simp[z2],z3⟩,λs eL e1 e2=>by
         rw[I.it.get]
         split
         . rfl
         . rename_i e3
           rcases Ze.mp eL with eL|eL
           . exact I.t2 s eL e1 e2
           . simp at eL
             subst eL
             exact absurd rfl e3,λa s b e e1 e2=>by
         rw[I.it.get]
         rcases qb e with⟨_,rfl,rfl⟩|⟨b',_,e3⟩
         . rw[if_pos rfl,<- I.se]
         . rw[if_neg (λz=>qc s (by rw[e3];simp) z.symm)]
           exact I.t3 a s b' e3 e1 e2,kt (by simp[fz,he])⟩
     rw[he,hd]at z
     simp[mU,Fx,Fy,Fz,hd,eW,eq_str,flat,dep,xY,eD,isLit,dG,Mx,My,QT,QU,hz,hs]
     simpa[eD]using z
 . have lk:cD r.dd=false:=by rw[hd];simp[cD,vT]
   have Mz:=I.sv.1
   obtain⟨cn,rfl⟩:∃cn:Nat,c=cn:=⟨c.toNat,by omega⟩
   have dI:cn<st.length:=by omega
   have s1:gC (.tup st) none (some (cn:Int)) (g ++ [tl,ks.map D.int])=some (.tup (st.take cn),g ++ [tl,ks.map D.int]):=hG (pL dI)
   have s2:gC (.tup st) (some ((cn:Int)+1)) none (g ++ [tl,ks.map D.int])=some (.tup (st.drop (cn+1)),g ++ [tl,ks.map D.int]):=hG (nz dI)
   have z:=q (st.take cn++v::st.drop (cn+1)) tl (ks ++ [r.k]) (same _ _ ⟨by simp;omega,λx hx=>by
     rcases Ze.mp hx with hx|hx
     . exact I.sv.2 x (aaH hx)
     . rcases Zd.mp hx with rfl|hx
       . exact rq hv
       . exact I.sv.2 x (acV hx)⟩ (by rw[hd];simp[cJ]) (kt (by simp[fz,lk])) (by simp[lk]))
   rw[hd]at z
   have y1:aG (min cn st.length+1)=true:=aL (by omega)
   have y2:aG (min cn st.length+1+(st.length-(cn+1)))=true:=aL (by omega)
   simp[mU,Fx,Fy,Fz,hd,eW,gD,rn,eq_str,flat,dep,vT,s1,s2,y1,y2,Mx,My,QT,QU,hz,hs]
   simpa using z
theorem Row.flat (h:lI p r):L3.flat r.d=true/\dep r.d<=6:=by
 obtain⟨h1,h2⟩:=h.dd.flat
 have he:L3.flat (eD r.e)=true/\dep (eD r.e)=0:=by cases r.e<;>exact⟨rfl,rfl⟩
 constructor
 . simp[Row.d,Row.ls,L3.flat,aU,h1,he.1]
 . simp[Row.d,Row.ls,dep,bX,he.2];omega
theorem Row.aU {p:Int}{rws:List Row}(h:∀r∈rws,lI p r):L3.aU (rws.map Row.d)=true/\bX (rws.map Row.d)<=6:=by
 induction rws with
 |nil=>exact⟨rfl,by simp[bX]⟩
 |cons r rs ih =>
  obtain⟨h1,h2⟩:=Row.flat (h r (by simp))
  obtain⟨h3,h4⟩:=ih λs hs=>h s (by simp[hs])
  exact⟨by simp[L3.aU,h1,h3],by simp[bX];omega⟩
theorem Row.lt (hr:lI p r)(h:r.k=s.k->r=s):(ltN r.d s.d).isSome=true:=by
 by_cases e1:r.pt=s.pt
 . by_cases e2:r.k=s.k
   . have:=h e2
     subst this
     have fl:=(Row.flat hr).1
     have FC:L3.flat (.tup r.ls)=true:=by
      simp[Row.d,L3.flat,L3.aU]at fl
      simpa[L3.flat]using fl
     have:=fG _ FC
     simp[Row.d,ltN,fV,fL,this]
   . simp[Row.d,ltN,fV,fL,e1,e2]
 . simp[Row.d,ltN,fV,fL,e1]
theorem D1 {p:Int}{most:Nat}{rws:List Row}(h:Rows p most rws)(hm:most<=50):pY (rws.map Row.d)=true:=by
 have hl:=h.len
 obtain⟨h1,h2⟩:=Row.aU h.g
 simp only[pY,Y3,ZR,decide_eq_true_eq,Zi]
 refine⟨⟨⟨⟨by simp;omega,h1⟩,by omega⟩,.inr (.inl λx hx=>?_)⟩,λx hx y hy=>?_⟩
 . obtain⟨r,_,rfl⟩:=Zc.mp hx
   rfl
 . obtain⟨r,hr,rfl⟩:=Zc.mp hx
   obtain⟨s,hs,rfl⟩:=Zc.mp hy
   exact Row.lt (h.g r hr) (lK h.pw r hr s hs)
theorem vU {α β:Type}{f:α->β}:∀(rs:List α) (l:List β),l.Perm (rs.map f)->∃ss:List α,ss.Perm rs/\l=ss.map f
 | [],l,h=>⟨[],.refl _,by simpa using h⟩
 |r::rs,l,h=>by
  have hm:f r∈l:=h.mem_iff.mpr (by simp)
  obtain⟨a,b,rfl⟩:=ade hm
  have h2:(a++b).Perm (rs.map f):=by
   have:=(afH (a:=f r) (l₁:=a) (l₂:=b)).symm.trans h
   rw[Zw]at this
   exact List.Perm.cons_inv this
  obtain⟨ss,h3,h4⟩:=vU rs _ h2
  obtain⟨s1,s2,rfl,h5,h6⟩:=List.map_eq_append_iff.mp h4.symm
  exact⟨s1++r::s2,afH.trans (h3.cons r),by simp[h5,h6]⟩
structure Told (p:Int)(rws:List Row)(cy:Row->D):Prop where
 t:∀r∈rws,if cD r.dd&&r.e.isSome then mR p (cy r)=true else cy r = .aA
noncomputable def oN (cy:Row->D)(r:Row):D:=.tup (r.ls ++ [cy r])
noncomputable def Xe (p:Int)(rows:List D)(g:G)(ss:List Row)(i:Nat)(σ:Sg)(gg:G):Prop:=i<=ss.length->∃st tl ks o5 o6 o7 o8 o9 eO eH,σ = [some (.int p),some (.lst rows),some (.tup st),some (.aM g.length),some (.ref (g.length+1)),o5,o6,o7,o8,o9,eO,eH]/\gg=g ++ [tl,ks.map D.int]/\TI p (ss.take i) st tl ks
theorem IC {rws:List Row}{σ:Sg}{gg:G}(h:σ[1]? = some (some (.lst (rws.map Row.d))))(hl:rws.length<=100):nums σ gg=some (.lst (rws.map λr=>.int r.k),gg):=by
 have hz:aG (rws.map Row.d).length=true:=aL (by simp;omega)
 have c:=dB (t:=gT 3 (au (gN 1) (au (gN 2) (au (gN 3) aP)))) (c:=aQ) (e:=af 2) (h:=λd=>match d with|.tup [_,k,_]=>k|_=>.aA) (λσ=>∃a b c,σ = [none,a,b,c]) (rws.map Row.d) [none,none,none,none] gg ⟨_,_,_,rfl⟩ (by
  rintro d hm σ ⟨a,b,c,rfl⟩
  obtain⟨r,hr,rfl⟩:=Zc.mp hm
  exact⟨[none,some (.int r.pt),some (.int r.k),some (.tup r.ls)],by simp[Row.d],by simp,by simp[Row.d],⟨_,_,_,rfl⟩⟩)
 have sb:bL [none,none,none,none] σ = [none,none,none,none]:=rfl
 rw[Z2]at c
 have e2:((λd:D=>match d with|.tup [_,k,_]=>k|_=>D.aA) ∘ Row.d)=λr=>D.int r.k:=rfl
 rw[e2]at c
 simp[nums,h,sb,c]
 simpa using hz
noncomputable def iO (tl:List D)(r:Row):D:=(bf tl (.int r.k)).getD .aA
theorem ID {rws:List Row}{σ:Sg}{gg:G}{n:Nat}{tl:List D}(h:σ[1]? = some (some (.lst (rws.map Row.d))))(h3:σ[3]? = some (some (.aM n)))(ha:gg[n]? = some tl)(hl:rws.length<=100):DY σ gg=some (.lst (rws.map (oN (iO tl))),gg):=by
 have hz:aG (rws.map Row.d).length=true:=aL (by simp;omega)
 have z5:aG 5=true:=aL (by omega)
 have c:=dB (t:=gT 3 (au (gN 1) (au (gN 2) (au (gN 3) aP)))) (c:=aQ) (e:=aq aV (af 3) (aK aJ (aa (cq iL i5 (af 4) (aa (af 2) ag)) ag))) (h:=λd=>match d with|.tup [_,k,.tup ls]=>.tup (ls ++ [(bf tl k).getD .aA])|_=>.aA) (λσ=>∃a b c,σ = [none,a,b,c,some (.aM n)]) (rws.map Row.d) [none,none,none,none,some (.aM n)] gg ⟨_,_,_,rfl⟩ (by
  rintro d hm σ ⟨a,b,c,rfl⟩
  obtain⟨r,hr,rfl⟩:=Zc.mp hm
  exact⟨[none,some (.int r.pt),some (.int r.k),some (.tup r.ls),some (.aM n)],by simp[Row.d],by simp,by simp[Row.d,ha,Row.ls],⟨_,_,_,rfl⟩⟩)
 have sb:bL [none,none,none,none,some 3] σ = [none,none,none,none,some (.aM n)]:=by simp[bL,h3]
 rw[Z2]at c
 have e2:((λd:D=>match d with|.tup [_,k,.tup ls]=>.tup (ls ++ [(bf tl k).getD .aA])|_=>.aA) ∘ Row.d)=oN (iO tl):=rfl
 rw[e2]at c
 simp[DY,h,sb,c]
 simpa using hz
noncomputable def vV (rws:List Row)(k:Int):Int:=(((lu (rws.map λr=>D.int r.k) (.int k)).getD 0:Nat):Int)
theorem IE {rws:List Row}{σ:Sg}{gg:G}{n:Nat}{ks:List Int}(h4:σ[4]? = some (some (.ref n)))(Xf:σ[11]? = some (some (.lst (rws.map λr=>.int r.k))))(ha:gg[n]? = some (ks.map D.int))(hk:∀k∈ks,∃r∈rws,r.k=k)(hl:ks.length<=100):
  DZ σ gg=some (.lst ((ks.map (vV rws)).map D.int),gg):=by
 have hz:aG ks.length=true:=aL (by omega)
 have hf:(rws.map λr=>D.int r.k).all fD=true:=Zi.mpr λx hx=>by
  obtain⟨r,_,rfl⟩:=Zc.mp hx
  rfl
 have c:=dB (t:=gN 1) (c:=aQ) (e:=cq iY ia (af 2) (aa (af 1) ag)) (h:=λd=>.int (((lu (rws.map λr=>D.int r.k) d).getD 0:Nat):Int)) (λσ=>∃a,σ = [none,a,some (.lst (rws.map λr=>.int r.k))]) (ks.map D.int) [none,none,some (.lst (rws.map λr=>.int r.k))] gg ⟨_,rfl⟩ (by
  rintro d hm σ ⟨a,rfl⟩
  obtain⟨k,AG,rfl⟩:=Zc.mp hm
  refine⟨[none,some (.int k),some (.lst (rws.map λr=>.int r.k))],by simp,by simp,?_,⟨_,rfl⟩⟩
  obtain⟨r,hr,e⟩:=hk k AG
  obtain⟨j,hj⟩:∃j,lu (rws.map λr=>D.int r.k) (.int k)=some j:=by
   unfold lu
   have:(((rws.map λr=>D.int r.k).findIdx? λy=>aI y (.int k))).isSome=true:=by
     rw[aev,aaN]
     exact⟨.int r.k,Zc.mpr ⟨r,hr,rfl⟩,by simp[fL,e]⟩
   exact aaV.mp this
  have fk:fD (.int k)=true:=rfl
  simp[ia,hf,hj,fk]
  simpa using hf)
 have c2:=mJ (t:=gN 1) (c:=aQ) (e:=cq iY ia (af 2) (aa (af 1) ag)) ha (ks.map D.int).length [none,none,some (.lst (rws.map λr=>.int r.k))] _ (Za _) (λσ d q h=>Iz h) (λσ q h=>by cases h;rfl) (λσ q h=>by
   rw[Iq]at h
   obtain⟨q1,h1,h⟩:=bind_some h
   have e1:q1.2=gg:=by
     rw[kL]at h1
     split at h1
     . cases h1;rfl
     . cases h1
   split at h
   . obtain⟨q2,h2,h⟩:=bind_some h
     have e2:q2.2=gg:=by
       rw[lr]at h2
       obtain⟨q3,h3,h2⟩:=bind_some h2
       rw[kL]at h3
       split at h3
       . cases h3;cases h2;exact e1
       . cases h3
     unfold ia at h
     split at h
     . split at h
       . obtain⟨j,_,h⟩:=Zq.mp h
         cases h;exact e2
       . cases h
     . cases h
   . cases h) (by rw[aby,abV];exact c)
 have sb:bL [none,none,some 11] σ = [none,none,some (.lst (rws.map λr=>.int r.k))]:=by simp[bL,Xf]
 rw[Zr]at c2
 simp[DZ,h4,ha,sb,c2,hz,vV]
structure iu (p:Int)(rws ss:List Row)(cy:Row->D):Prop where
 pm:ss.Perm rws
 pw:ss.Pairwise λr s=>r.pt<=s.pt
 tl:∀a r b,ss=a++r::b->cD r.dd=true->r.e.isSome=true->cy r = .tup (mV p a)
noncomputable def BI:D->Int
 |.tup [.int a,.int b,_]=>a*1000+b
 |_=>0
theorem Pw (hr:lI p r)(h:r.k=s.k->r=s)(k1:0<=r.k/\r.k<1000)(k2:0<=s.k/\s.k<1000):ltB r.d s.d=decide (BI r.d<BI s.d):=by
 have e0:BI r.d=r.pt*1000+r.k:=rfl
 have e9:BI s.d=s.pt*1000+s.k:=rfl
 rw[e0,e9]
 unfold ltB
 by_cases e1:r.pt=s.pt
 . by_cases e2:r.k=s.k
   . have:=h e2
     subst this
     have fl:=(Row.flat hr).1
     have FC:L3.flat (.tup r.ls)=true:=by
      simp[Row.d,L3.flat,L3.aU]at fl
      simpa[L3.flat]using fl
     have:=fG _ FC
     simp[Row.d,ltN,fV,fL,this]
   . simp[Row.d,ltN,fV,fL,e1,e2]
 . simp[Row.d,ltN,fV,fL,e1]
   omega
set_option maxHeartbeats 4000000 in
theorem MA {p:Int}{most:Nat}{rws:List Row}{g:G}{Q:D×G->Prop}(p0:0<p)(hp:p<=100)(hm:most<=50)(R:Rows p most rws)(hc:Clean g)
   (q:∀cy ss,Told p rws cy->iu p rws ss cy->Q (.tup [.tup (rws.map (oN cy)),.tup (((ss.filter fz).map λr=>vV rws r.k).map D.int)],g)):
   wp (aD false 12 2 vR [.int p,.lst (rws.map Row.d)] g) Q:=by
 have hlen:=R.len
 refine fO rfl ?_
 unfold vR
 have mz:bU (.tup [.int 0]) (.int p) g=some (.tup (Zo p.toNat (D.int 0)),g):=by
   rw[yX (by omega) (by omega) (by simp)]
   simp
 have so:=D1 R hm
 have pk:=lK R.pw
 have nk:(rws.map (·.k)).Nodup:=by
   rw[ab4,aab]
   exact R.pw.imp λh=>by have:=h.1;omega
 obtain⟨ss,eL,lO⟩:=vU rws _ (zm (rws.map Row.d))
 have rise:=wI (xs:=rws.map Row.d) (key:=BI) (by
   intro x hx y hy
   obtain⟨r,hr,rfl⟩:=Zc.mp hx
   obtain⟨s,hs,rfl⟩:=Zc.mp hy
   exact Pw (R.g r hr) (pk r hr s hs) (R.kk r hr) (R.kk s hs)) (by
   rw[Z2,ab4,aab]
   refine(abh.mp R.pw).imp fun {r s} h=>?_
   have h1:=R.kk r h.1
   have h2:=R.kk s h.2.1
   have h3:=h.2.2.1
   show r.pt*1000+r.k≠s.pt*1000+s.k
   omega)
 rw[lO,aab]at rise
 have Xg:ss.Pairwise λr s=>r.pt<=s.pt:=(abh.mp rise).imp fun {r s} h=>by
   have h1:=R.kk r (eL.mem_iff.mp h.1)
   have h2:=R.kk s (eL.mem_iff.mp h.2.1)
   have h3:r.pt*1000+r.k<s.pt*1000+s.k:=h.2.2
   omega
 have Xh:(ss.map (·.k)).Nodup:=(eL.map (·.k)).nodup_iff.mpr nk
 have sx:∀g,ib [.lst (rws.map Row.d)] g=some (.lst (h_ (rws.map Row.d)),g):=λg=>by
   show(match gp [.lst (rws.map Row.d)] g with|some r=>some r|none=>iC [.lst (rws.map Row.d)] g)=_
   simp[gp,dS,so]
 simp[mz,sx]
 rw[lO]
 have h0:St p (Zo p.toNat (D.int 0)):=⟨by simp;omega,λx hx=>by
   obtain⟨_,rfl⟩:=ae3.mp hx
   decide⟩
 have sl:ss.length=rws.length:=eL.length_eq
 refine kM (Xe p (rws.map Row.d) g ss) _ 0 _ _ (λ_=>⟨_,[],[],none,none,none,none,none,none,none,rfl,rfl,⟨h0,rfl,.nil,by simp,(λj d e=>by cases e),by simp,(λa r b e=>by simp at e),by simp⟩⟩) ?_ ?_
 . intro j d σ gg sJ hI
   rw[abW]at *
   rw[ZS]at sJ
   obtain⟨r,hr,rfl⟩:=Zq.mp sJ
   have sg:j<ss.length:=(Y7.mp hr).1
   obtain⟨st,tl,ks,o5,o6,o7,o8,o9,eO,eH,rfl,rfl,I⟩:=hI (by omega)
   have tk:ss.take (j+1)=ss.take j ++ [r]:=by rw[List.take_succ,hr];rfl
   have j8:r∈rws:=eL.mem_iff.mp (ZY hr)
   have qc:∀s∈ss.take j,s.k≠r.k:=λs hs e=>by
    obtain⟨i,hi,rfl⟩:=aax.mp hs
    rw[aaM]at hi
    obtain⟨sM,jZ⟩:=Y7.mp hr
    rw[afc,<- jZ]at e
    have:=TL.mN Xh (i:=i) (j:=j) (by simp;omega) (by simp;omega) (by simpa using e)
    omega
   unfold QS Row.d Row.ls
   simp
   refine D0 hp I (R.g r j8) (by simp;omega) qc λcL Fu vS I'=>?_
   exact λ_=>⟨_,_,_,_,_,_,_,_,_,_,rfl,rfl,by rw[tk];exact I'⟩
 . intro σ gg hI
   rw[Zr,abW]at hI
   obtain⟨st,tl,ks,o5,o6,o7,o8,o9,eO,eH,rfl,rfl,I⟩:=hI (by omega)
   rw[List.take_length]at I
   have Bz:rws.length<=100:=by omega
   have kl:=I.Mw
   have e1:∀gg,nums [some (.int p),some (.lst (rws.map Row.d)),some (.tup st),some (.aM g.length),some (.ref (g.length+1)),o5,o6,o7,o8,o9,eO,eH] gg=_:=λgg=>IC (rws:=rws) rfl Bz
   have e2:=ID (rws:=rws) (σ:=[some (.int p),some (.lst (rws.map Row.d)),some (.tup st),some (.aM g.length),some (.ref (g.length+1)),o5,o6,o7,o8,o9,eO,some (.lst (rws.map λr=>.int r.k))]) (gg:=g ++ [tl,ks.map D.int]) (n:=g.length) rfl rfl Mx Bz
   have e3:=IE (rws:=rws) (σ:=[some (.int p),some (.lst (rws.map Row.d)),some (.tup st),some (.aM g.length),some (.ref (g.length+1)),o5,o6,o7,o8,o9,eO,some (.lst (rws.map λr=>.int r.k))]) (gg:=g ++ [tl,ks.map D.int]) (n:=g.length+1) rfl rfl My (λk hk=>by
    obtain⟨r,h1,h2⟩:=I.zP k hk
    exact⟨r,eL.mem_iff.mp h1,h2⟩) (by omega)
   have qq:=q (iO tl) ss ⟨λr hr=>by
     split
     . rename_i vW
       rw[Y3]at vW
       obtain⟨d,e⟩:=aaV.mp (I.t2 r (eL.mem_iff.mpr hr) vW.1 vW.2)
       have:iO tl r=d:=by simp[iO,e]
       rw[this]
       exact(I.t1 _ _ e).1
     . rename_i vW
       cases e:bf tl (.int r.k)with
       |none=>simp[iO,e]
       |some d =>
        obtain⟨_,s,s1,s2,s3,s4⟩:=I.t1 _ _ e
        have:=pk s (eL.mem_iff.mp s1) r hr s2
        subst this
        exact absurd (by rw[s3,s4];rfl) vW⟩ ⟨eL,Xg,λa r b e h1 h2=>by simp[iO,I.t3 a r b e h1 h2]⟩
   have ke:=I.ke
   have ex:(ss.filter fz).map (λr=>vV rws r.k)=ks.map (vV rws):=by rw[ke,Z2];rfl
   rw[ex]at qq
   have y1:aG rws.length=true:=aL (by omega)
   have y2:aG ks.length=true:=aL (by omega)
   have tn:∀r∈rws,∀m,bB m (iO tl r)=true:=λr hr m=>by
    unfold iO
    cases e:bf tl (.int r.k)with
    |none=>rfl
    |some d=>exact(qa (I.t1 _ _ e).1).2 m
   clear ex ke
   generalize Xi:ks.map (vV rws)=QV at *
   have y3:aG QV.length=true:=by rw[<- Xi];simpa using y2
   simp[e1,e2,e3,y1,y3]
   refine⟨?_,λx hx=>hc x hx _,qq⟩
   have a1:aW g.length (rws.map (oN (iO tl)))=true:=cH λx hx=>by
    obtain⟨r,hr,rfl⟩:=Zc.mp hx
    have b1:=(R.g r hr).dd.bB g.length
    have b2:=tn r hr g.length
    have b3:bB g.length (eD r.e)=true:=by cases r.e<;>rfl
    simp[oN,Row.ls,bB,aW,b1,b2,b3]
   have a2:=DN (n:=g.length) QV
   simp[bB,aW,a1,a2]
noncomputable def rt (x:Row×D):D:=.tup [.int x.1.h,x.1.dd,.int x.1.b,eD x.1.e,x.2]
structure bH (p:Int)(x:Row×D):Prop where
 r:lI p x.1
 t:if cD x.1.dd&&x.1.e.isSome then mR p x.2=true else x.2 = .aA
noncomputable def xZ (x y:Row×D):Prop:=x.1.b<=y.1.b/\(x.1.h=y.1.h->∃e,x.1.e=some e/\e<=y.1.b)
theorem bH.row (h:bH p x):rh p (rt x)=true:=by
 have h1:=h.r.dd.told
 have h2:=h.r.h0
 have h3:=h.r.h9
 have h4:=h.r.b0
 have h5:=h.t
 have tm:mQ (.int x.1.b) (eD x.1.e)=true:=by
   have:=h.r.eb
   cases e:x.1.e with
   |none=>simp[mQ,eD,h4]
   |some y=>have:=this y e;simp[mQ,eD,h4,this]
 have nn:i3 (eD x.1.e)= !x.1.e.isSome:=by cases x.1.e<;>rfl
 simp only[rt,rh,within,h1,tm,nn,Bool.not_not,h2,h3,decide_true,Bool.and_self,ab9]
 split
 . rename_i z;rw[if_pos z]at h5;exact h5
 . rename_i z;rw[if_neg z]at h5;rw[h5];rfl
theorem bH.nf (h:bH p x):Pd.nf (rt x)=true:=by
 have h1:=h.r.dd.nf
 have h5:=h.t
 have h2:Pd.nf (eD x.1.e)=true:=by cases x.1.e<;>rfl
 have h3:Pd.nf x.2=true:=by
  split at h5
  . exact(qa h5).1
  . rw[h5];rfl
 simp[rt,Pd.nf,p7,h1,h2,h3]
theorem IF (R:Rows p most rws)(T:Told p rws cy):rws.map (oN cy)=(rws.map λr=>(r,cy r)).map rt/\(∀x∈rws.map λr=>(r,cy r),bH p x)/\(rws.map λr=>(r,cy r)).Pairwise xZ:=by
 refine⟨by rw[Z2];rfl,λx hx=>?_,?_⟩
 . obtain⟨r,hr,rfl⟩:=Zc.mp hx
   exact⟨R.g r hr,T.t r hr⟩
 . rw[aab]
   exact R.pw.imp λh=>⟨h.2.1,h.2.2⟩
theorem dW {α:Type}{f h:α->D}{t:FG}{c:FT}{e:FE}(I:Sg->Prop):∀(xs:List α) (σ:Sg) (g:G),I σ->(∀x∈xs,∀σ,I σ->∃σ1,t (f x) σ g=some (σ1,g)/\c σ1 g=some (true,g)/\e σ1 g=some (h x,g)/\I σ1)->bZ t c e (xs.map f) σ g=some (xs.map h,g)
 | [],_,_,_,_=>rfl
 |x::xs,σ,g,hi,hh=>by
  obtain⟨σ1,h1,h2,h3,h4⟩:=hh x Zp σ hi
  have ih:=dW I xs σ1 g h4 λx hx=>hh x (Zs _ hx)
  simp only[Zw,bZ,h1,h2,h3,Zb,if_true,ih]
end Pd
namespace Od
open PySem L3 L2 RI Pd
noncomputable def x4:FS:=aF (aq bU (aK aJ (aa (fC (.int 0)) ag)) (af 0))
noncomputable def vX:FS:=aF (mv (aq oEq (aq ay (aq ay (af 0) (fC (.int 1))) (fC (.int 0))) (fC (.str "put"))) (aq oEq (aq ay (af 0) (fC (.int 4))) (af 1)))
noncomputable def oO:FS:=aw (aC (aq ay (af 0) (fC (.int 1))) (gN 2)) (aw (bK (aH (aq oEq (aq ay (af 2) (fC (.int 0))) (fC (.str "look")))) (aF (af 1)) aN) (aF (aq aV (aq aV (dX (af 1) cN (cC (aq ay (af 2) (fC (.int 1))))) (aK aJ (aa (aq ay (af 2) (fC (.int 2))) ag))) (dX (af 1) (cC (aq aV (aq ay (af 2) (fC (.int 1))) (fC (.int 1)))) cN))))
noncomputable def FD (within:Fn):FS:=aF (ao fu (aa (bh aY (bQ (af 1)) [none,none,some 0] (gN 1) aQ (ao within (aa (af 1) (aa (fC (.int 0)) (aa (aq (aR bp (· - ·)) (ao cx (aa (af 2) ag)) (fC (.int 1))) ag))))) ag))
noncomputable def x5:FS:=aF (ao fu (aa (bh aY (fP (af 0)) [none,none,none,some 1] (gT 2 (au (gN 1) (au (gN 2) aP))) (aH (aq cF (aq ay (af 2) (fC (.int 3))) (fC .aA))) (aq hJ (af 1) (af 3))) ag))
noncomputable def qd (ahead:Fn):FS:=bK (bW (ao eR (aa (bh aY (bQ (dX (af 1) cN (cC (af 2)))) [none,none,some 3,some 0] (gN 1) aQ (ao ahead (aa (aq ay (af 3) (af 2)) (aa (aq ay (af 3) (af 1)) ag)))) ag))) (aF (fC (.bl false))) aN
noncomputable def rA (ahead:Fn):FS:=aw (cS (fP (af 1)) (gT 2 (au (gN 2) (au (gN 3) aP))) (qd ahead)) (aF (fC (.bl true)))
noncomputable def tQ (fits behind:Fn):FS:=aw (bK (cz (bW (ao fits (aa (af 3) (aa (af 2) ag))))) (aF (fC (.bl false))) aN) (aC (ao behind (aa (af 3) (aa (af 2) ag))) (gN 2))
noncomputable def mX (zeros fits behind:Fn):FS:=aw (aC (ao zeros (aa (af 0) ag)) (gN 2)) (aw (cS (bQ (af 1)) (gN 3) (tQ fits behind)) (aF (fC (.bl true))))
noncomputable def gP (tupleOf are ended turns IG:Fn):FS:=aw (bK (gW (cz (bW (ao tupleOf (aa (af 2) (aa (fC (.int 0)) (aa (ao cx (aa (af 1) ag)) ag)))))) (cz (bW (ao are (aa (af 1) (aa (af 2) ag)))))) (aF (fC (.bl false))) aN) (aw (bK (gW (aH (aq oLt (iE (af 2)) (ao cx (aa (af 2) ag)))) (cz (bW (ao ended (aa (af 1) (aa (af 2) ag)))))) (aF (fC (.bl false))) aN) (aF (dA (ao turns (aa (af 1) (aa (af 2) ag))) (ao IG (aa (af 0) (aa (bh aY (bQ (af 2)) [none,none,some 1] (gN 1) aQ (aq ay (af 2) (af 1))) ag))))))
noncomputable abbrev Rt:=Row×D
noncomputable def zs (p:Int):List D:=Zo p.toNat (.int 0)
noncomputable def x0:Rt:=⟨⟨0,0,0,.aA,0,none⟩,.aA⟩
noncomputable def aB (xs:List Rt)(k:Nat):Rt:=xs.getD k x0
noncomputable def kD (ks:List Nat):List D:=ks.map λ(k:Nat)=>D.int k
theorem qf:∀(n:Nat) (d:D),isVal n d=true->flat d=true/\dep d<=n
 | 0,d,h=>by
  unfold isVal mP within at h
  split at h
  . exact⟨rfl,Za _⟩
  . cases h
 |n+1,d,h=>by
  cases d with
  |tup xs =>
    simp only[isVal,Y3,Zi]at h
    have:∀ys:List D,(∀y∈ys,isVal n y=true)->aU ys=true/\bX ys<=n:=λys=>by
     induction ys with
     |nil=>intro _;exact⟨rfl,by simp[bX]⟩
     |cons y ys ih =>
      intro hy
      obtain⟨h1,h2⟩:=qf n y (hy y (by simp))
      obtain⟨h3,h4⟩:=ih λz hz=>hy z (by simp[hz])
      exact⟨by simp[aU,h1,h3],by simp[bX];omega⟩
    obtain⟨h1,h2⟩:=this xs h.2
    exact⟨by simpa[flat]using h1,by simp[dep];omega⟩
  |_=>first|exact⟨rfl,by simp[dep]⟩| (simp[isVal,mP,within]at h)
theorem oP (h:∀x∈xs,flat x=true/\dep x<=n):aU xs=true/\bX xs<=n:=by
 induction xs with
 |nil=>exact⟨rfl,by simp[bX]⟩
 |cons y ys ih =>
  obtain⟨h1,h2⟩:=h y (by simp)
  obtain⟨h3,h4⟩:=ih λz hz=>h z (by simp[hz])
  exact⟨by simp[aU,h1,h3],by simp[bX];omega⟩
theorem St.flat (h:St p st):L3.flat (.tup st)=true/\dep (.tup st)<=4:=by
 obtain⟨h1,h2⟩:=oP λx hx=>qf 3 x (h.2 x hx)
 exact⟨by simpa[L3.flat]using h1,by simp[dep];omega⟩
theorem vY (h:mR p d=true):L3.flat d=true/\dep d<=4:=by
 unfold mR at h
 split at h
 . simp only[Y3,decide_eq_true_eq,Zi]at h
   exact St.flat (p:=p) h
 . cases h
theorem bH.FH (h:bH p x):L3.flat x.2=true/\dep x.2<=4:=by
 have:=h.t
 split at this
 . exact vY this
 . rw[this];exact⟨rfl,by simp[dep]⟩
theorem St.zs (h:0<=p):St p (zs p):=⟨by simp[Od.zs];omega,λx hx=>by
 obtain⟨_,rfl⟩:=ae3.mp hx
 decide⟩
theorem St.put (h:St p st)(hd:fM p dd):St p (cJ st dd):=by
 rcases hd with rfl|⟨c,v,rfl,c0,c1,hv⟩
 . exact h
 . have hl:=h.1
   refine⟨by simp[cJ];omega,λx hx=>?_⟩
   simp only[cJ]at hx
   rcases Ze.mp hx with hx|hx
   . exact h.2 x (aaH hx)
   . rcases Zd.mp hx with rfl|hx
     . exact rq hv
     . exact h.2 x (acV hx)
noncomputable def kT (p:Int)(f:Fn):Prop:=∀g,f [.int p] g=some (.tup (zs p),g)
theorem D2 (h0:0<=p)(h1:p<=100):kT p (aD false 1 1 x4):=λg=>by
 refine bS (σ':=[some (.int p)]) rfl ?_ rfl
 have mz:bU (.tup [.int 0]) (.int p) g=some (.tup (zs p),g):=by
  rw[yX (by omega) (by omega) (by simp)]
  simp[zs]
 simp[x4,mz]
noncomputable def qg (x:Rt)(st:List D):Bool:=!(cD x.1.dd)||aI x.2 (.tup st)
theorem vT:¬(Zy "put" = Zy "look"):=by decide
theorem xY:¬(Zy "look" = Zy "put"):=by decide
noncomputable def jN (p:Int)(f:Fn):Prop:=∀x st g,bH p x->St p st->f [rt x,.tup st] g=some (.bl (qg x st),g)
theorem IH:jN p (aD false 2 2 vX):=λx st g hx hs=>by
 refine bS (σ':=[some (rt x),some (.tup st)]) rfl ?_ rfl
 obtain⟨f1,f2⟩:=bH.FH hx
 obtain⟨f3,f4⟩:=St.flat hs
 have QW:dep x.2<=60:=by omega
 have oe:oEq x.2 (.tup st) g=some (.bl (aI x.2 (.tup st)),g):=by unfold oEq;simp[f1,f3,QW]
 unfold qg
 rcases hx.r.dd with hd|⟨c,v,hd,c0,c1,hv⟩
 . simp[vX,rt,hd,eW,gD,vL,eq_str,flat,dep,xY,cD,oe,f1,f3,QW]
 . simp[vX,rt,hd,eW,gD,vL,eq_str,flat,dep,vT,cD]
noncomputable def iH (p:Int)(f:Fn):Prop:=∀x st g,bH p x->St p st->f [rt x,.tup st] g=some (.tup (cJ st x.1.dd),g)
theorem BJ (hp:p<=100):iH p (aD false 3 2 oO):=λx st g hx hs=>by
 refine bS (σ':=[some (rt x),some (.tup st),some x.1.dd]) rfl ?_ rfl
 have Mz:=hs.1
 rcases hx.r.dd with hd|⟨c,v,hd,c0,c1,hv⟩
 . simp[oO,rt,hd,eW,gD,eq_str,flat,dep,cJ]
 . obtain⟨cn,rfl⟩:∃cn:Nat,c=cn:=⟨c.toNat,by omega⟩
   have dI:cn<st.length:=by omega
   have s1:gC (.tup st) none (some (cn:Int)) g=some (.tup (st.take cn),g):=hG (pL dI)
   have s2:gC (.tup st) (some ((cn:Int)+1)) none g=some (.tup (st.drop (cn+1)),g):=hG (nz dI)
   have y1:aG (min cn st.length+1)=true:=aL (by omega)
   have y2:aG (min cn st.length+1+(st.length-(cn+1)))=true:=aL (by omega)
   simp[oO,rt,hd,eW,gD,rn,eq_str,flat,dep,vT,cJ,s1,s2,y1,y2]
noncomputable def dk:List D->List Rt->Bool
 |_,[]=>true
 |st,x::xs=>qg x st&&dk (cJ st x.1.dd) xs
theorem MB (hf:jN p fi)(hb:iH p be):∀(xs:List Rt) (st:List D) (o3:Option D),(∀x∈xs,bH p x)->St p st->∃σ',forL (gN 3) (tQ fi be) (xs.map rt) [some (.int p),L,some (.tup st),o3] g=some (if dk st xs then .nx else .rt (.bl false),σ',g)
 | [],st,o3,_,_=>⟨_,rfl⟩
 |x::xs,st,o3,h,hs=>by
  have h1:=hf x st g (h x (by simp)) hs
  have h2:=hb x st g (h x (by simp)) hs
  cases hk:qg x st with
  |false =>
   refine⟨[some (.int p),L,some (.tup st),some (rt x)],?_⟩
   simp[forL,tQ,h1,hk,dk]
  |true =>
   obtain⟨σ',e⟩:=MB hf hb (L:=L) (g:=g) xs (cJ st x.1.dd) (some (rt x)) (λy hy=>h y (by simp[hy])) (St.put hs (h x (by simp)).r.dd)
   refine⟨σ',?_⟩
   rw[show dk st (x::xs)=dk (cJ st x.1.dd) xs by simp[dk,hk],<- e]
   simp[forL,tQ,h1,h2,hk]
noncomputable def mY (p:Int)(f:Fn):Prop:=∀xs g,(∀x∈xs,bH p x)->f [.int p,.lst (xs.map rt)] g=some (.bl (dk (zs p) xs),g)
theorem zB (h0:0<=p)(hz:kT p z)(hf:jN p fi)(hb:iH p be):mY p (aD false 4 2 (mX z fi be)):=λxs g hx=>by
 obtain⟨σ',e⟩:=MB hf hb (L:=some (.lst (xs.map rt))) (g:=g) xs (zs p) none hx (St.zs h0)
 cases hk:dk (zs p) xs with
 |true=>rw[hk]at e;exact bS (σ':=σ') rfl (by simp[mX,hz g,e]) rfl
 |false=>rw[hk]at e;exact bS (σ':=σ') rfl (by simp[mX,hz g,e]) rfl
noncomputable def jO (n:Nat)(d:D):Bool:=within d 0 ((n:Int)-1)
noncomputable def tR (f:Fn):Prop:=∀ss ts g,(∀t∈ts,isFn t=false)->ts.length<=1000->f [.tup ss,.tup ts] g=some (.bl (ts.all (jO ss.length)),g)
theorem MC (hw:lF w):tR (aD false 2 2 (FD w)):=λss ts g ht hl=>by
 refine bS (σ':=[some (.tup ss),some (.tup ts)]) rfl ?_ rfl
 have hz:aG ts.length=true:=aL (by omega)
 have c1:=dB (t:=gN 1) (c:=aQ) (e:=ao w (aa (af 1) (aa (fC (.int 0)) (aa (aq (aR bp (· - ·)) (ao cx (aa (af 2) ag)) (fC (.int 1))) ag)))) (h:=λo=>D.bl (jO ss.length o)) (λσ=>∃o,σ = [none,o,some (.tup ss)]) ts [none,none,some (.tup ss)] g ⟨_,rfl⟩ (by
  rintro d hm σ ⟨o,rfl⟩
  refine⟨[none,some d,some (.tup ss)],by simp,by simp,?_,⟨_,rfl⟩⟩
  simp[hw d _ _ g (ht d hm),jO])
 have sb:bL [none,none,some 0] [some (D.tup ss),some (D.tup ts)]= [none,none,some (D.tup ss)]:=rfl
 simp[FD,sb,c1,hz,dC]
theorem rB (ks:List Nat):aU (kD ks)=true/\bX (kD ks)=0:=lH λd hd=>by
 obtain⟨k,_,rfl⟩:=Zc.mp hd
 exact⟨_,rfl⟩
theorem Px (i:Nat)(ks:List Nat):((kD ks).any λy=>aI y (.int i))=ks.contains i:=by
 induction ks with
 |nil=>rfl
 |cons k ks ih =>
  simp only[kD,Zw,aak,List.contains_cons]at ih ⊢
  rw[ih,fL]
  have:(decide ((k:Int)=(i:Int)))=(i == k):=by
   by_cases h:k=i
   . subst h;simp
   . have h':¬i=k:=λe=>h e.symm
     have h2:¬(k:Int)=(i:Int):=by omega
     simp[h2,h']
  rw[this]
theorem MD (i:Nat)(ks:List Nat)(g:G):n_ (.int i) (.tup (kD ks)) g=some (ks.contains i):=by
 obtain⟨h1,h2⟩:=rB ks
 show A1 (.int i) (kD ks)=_
 unfold A1
 rw[Px]
 simp[flat,h1,h2]
noncomputable def kr (xs:List Rt)(ks:List Nat):Bool:=xs.zipIdx.all λy=>y.1.1.e.isNone||ks.contains y.2
theorem rC (xs:List Rt):dH (xs.map rt)=xs.zipIdx.map λy=>.tup [.int (y.2:Nat),rt y.1]:=by
 simp[dH,afZ,aar]
noncomputable def rE (p:Int)(f:Fn):Prop:=∀xs ks g,(∀x∈xs,bH p x)->xs.length<=100->f [.tup (xs.map rt),.tup (kD ks)] g=some (.bl (kr xs ks),g)
theorem gQ {α:Type}{f h:α->D}{t:FG}{c:FT}{e:FE}{cB:α->Bool}(I:Sg->Prop):∀(xs:List α) (σ:Sg) (g:G),I σ->(∀x∈xs,∀σ,I σ->∃σ1,t (f x) σ g=some (σ1,g)/\c σ1 g=some (cB x,g)/\(cB x=true->e σ1 g=some (h x,g))/\I σ1)->bZ t c e (xs.map f) σ g=some ((xs.filter cB).map h,g)
 | [],_,_,_,_=>rfl
 |d::ds,σ,g,hi,hh=>by
  obtain⟨σ1,h1,h2,h3,h4⟩:=hh d Zp σ hi
  have ih:=gQ I ds σ1 g h4 λx hx=>hh x (Zs _ hx)
  cases hc:cB d with
  |true =>
   rw[hc]at h2
   simp only[Zw,bZ,h1,h2,h3 hc,Zb,if_true,ih,aay,hc]
  |false =>
   rw[hc]at h2
   simp only[Zw,bZ,h1,h2,Zb,Zh,if_false,ih,aay,hc]
theorem D3 {p:Int}:rE p (aD false 2 2 x5):=λxs ks g hx hl=>by
 refine bS (σ':=[some (.tup (xs.map rt)),some (.tup (kD ks))]) rfl ?_ rfl
 have hz:aG (dH (xs.map rt)).length=true:=aL (by simp[dH];omega)
 have c1:=gQ (f:=λy:Rt×Nat=>.tup [.int (y.2:Nat),rt y.1]) (t:=gT 2 (au (gN 1) (au (gN 2) aP))) (c:=aH (aq cF (aq ay (af 2) (fC (.int 3))) (fC .aA))) (e:=aq hJ (af 1) (af 3)) (cB:=λy=>y.1.1.e.isSome) (h:=λy=>D.bl (ks.contains y.2)) (λσ=>∃a b,σ = [none,a,b,some (.tup (kD ks))]) xs.zipIdx [none,none,none,some (.tup (kD ks))] g ⟨_,_,rfl⟩ (by
  rintro⟨y,i⟩ hm σ ⟨a,b,rfl⟩
  refine⟨[none,some (.int i),some (rt y),some (.tup (kD ks))],by simp,?_,λ_=>by simp[MD],⟨_,_,rfl⟩⟩
  cases he:y.1.e<;>simp[rt,zy,he,eD,isLit,dG])
 rw[<- rC]at c1
 have sb:bL [none,none,none,some 1] [some (D.tup (xs.map rt)),some (D.tup (kD ks))]= [none,none,none,some (D.tup (kD ks))]:=rfl
 have e2:((xs.zipIdx.filter λy=>y.1.1.e.isSome).map λy=>ks.contains y.2).all id=kr xs ks:=by
  unfold kr
  rw[acO,af0]
  congr 1
  funext y
  cases y.1.1.e<;>simp
 simp only[x5]
 simp[sb,c1,hz,dC]
 rw[<- e2]
 simp[acO,aar]
noncomputable def dJ (x y:Rt):Bool:=Pd.p_ (rt x) (rt y)
theorem qh (x y:Rt):dJ x y=match x.1.e with|some e=>decide (e<=y.1.b)|none=>false:=by
 have e1:eI (rt x)=x.1.e:=by cases he:x.1.e<;>simp[rt,eI,he,eD]
 have e2:bI (rt y)=y.1.b:=rfl
 unfold dJ Pd.p_
 rw[e1,e2]
 try (cases x.1.e<;>first|rfl| (exact decide_eq_decide.mpr Iff.rfl))
noncomputable def cE (xs:List Rt):List Nat->List Nat->Bool
 |_,[]=>true
 |seen,k::ks=>!(seen.any λi=>dJ (aB xs k) (aB xs i))&&cE xs (seen ++ [k]) ks
theorem kU (h:k<xs.length):(xs.map rt)[k]? = some (rt (aB xs k)):=by
 simp[aB,h]
theorem b8 (h:k<xs.length):aB xs k∈xs:=by simp[aB,h]
theorem FJ (ha:iG p ah)(hx:∀x∈xs,bH p x):∀(rest seen:List Nat) (o2 o3:Option D),(∀k∈seen,k<xs.length)->(∀k∈rest,k<xs.length)->(seen++rest).length<=1000 ->
  ∃σ',forL (gT 2 (au (gN 2) (au (gN 3) aP))) (qd ah) ((rest.zipIdx seen.length).map λy=>.tup [.int (y.2:Nat),.int (y.1:Nat)]) [some (.tup (xs.map rt)),some (.tup (kD (seen++rest))),o2,o3] g=some (if cE xs seen rest then .nx else .rt (.bl false),σ',g)
 | [],seen,o2,o3,_,_,_=>⟨_,rfl⟩
 |k::rest,seen,o2,o3,h1,h2,hl=>by
  have hk:k<xs.length:=h2 k (by simp)
  have sl:gC (.tup (kD (seen++k::rest))) none (some ((seen.length:Nat):Int)) g=some (.tup (kD seen),g):=by
   rw[hG (pL (by simp[kD]))]
   simp[kD,List.take_append]
  have Fl:seen.length<=1000:=by simp at hl;omega
  have hz:aG (kD seen).length=true:=aL (by simp[kD];omega)
  have gk:=eY (kU hk)
  have c1:=dW (f:=λ(i:Nat)=>D.int i) (t:=gN 1) (c:=aQ) (e:=ao ah (aa (aq ay (af 3) (af 2)) (aa (aq ay (af 3) (af 1)) ag))) (h:=λi=>D.bl (dJ (aB xs k) (aB xs i))) (λσ=>∃a,σ = [none,a,some (.int k),some (.tup (xs.map rt))]) seen [none,none,some (.int k),some (.tup (xs.map rt))] g ⟨_,rfl⟩ (by
   rintro i hm σ ⟨a,rfl⟩
   have gi:=eY (kU (h1 i hm))
   refine⟨[none,some (.int i),some (.int k),some (.tup (xs.map rt))],by simp,by simp,?_,⟨_,rfl⟩⟩
   have:=ha (rt (aB xs k)) (rt (aB xs i)) g (hx _ (b8 hk)).row (hx _ (b8 (h1 i hm))).row
   simp[gk,gi,this,dJ])
  have sb:∀c:Option D,bL [none,none,some 3,some 0] [some (D.tup (xs.map rt)),c,some (.int (seen.length:Nat)),some (.int k)]= [none,none,some (.int k),some (D.tup (xs.map rt))]:=λ_=>rfl
  have c2:bZ (gN 1) aQ (ao ah (aa (aq ay (af 3) (af 2)) (aa (aq ay (af 3) (af 1)) ag))) (kD seen) [none,none,some (.int k),some (.tup (xs.map rt))] g=_:=c1
  have bd:qd ah [some (.tup (xs.map rt)),some (.tup (kD (seen++k::rest))),some (.int (seen.length:Nat)),some (.int k)] g=some (if(seen.any λi=>dJ (aB xs k) (aB xs i))then .rt (.bl false)else .nx,[some (.tup (xs.map rt)),some (.tup (kD (seen++k::rest))),some (.int (seen.length:Nat)),some (.int k)],g):=by
   cases hb:(seen.any λi=>dJ (aB xs k) (aB xs i))<;>simp[qd,sl,sb,c2,hz,dC,eR,dS,List.any_map,aar,hb]
  cases hb:(seen.any λi=>dJ (aB xs k) (aB xs i))with
  |true =>
   rw[hb]at bd
   refine⟨[some (.tup (xs.map rt)),some (.tup (kD (seen++k::rest))),some (.int (seen.length:Nat)),some (.int k)],?_⟩
   simp only[cE,hb,Zj,ad6,afI,Zw]
   simp[forL,bd]
  |false =>
   rw[hb]at bd
   obtain⟨σ',e⟩:=FJ ha (g:=g) hx rest (seen ++ [k]) (some (.int (seen.length:Nat))) (some (.int k)) (λi hi=>by
    rcases Ze.mp hi with hi|hi
    . exact h1 i hi
    . simp at hi;subst hi;exact hk) (λi hi=>h2 i (by simp[hi])) (by simpa using hl)
   refine⟨σ',?_⟩
   rw[show cE xs seen (k::rest)=cE xs (seen ++ [k]) rest by simp[cE,hb],<- e]
   rw[aav,ad8,aaI,abU]
   simp only[afI,Zw]
   simp[forL,bd]
noncomputable def rF (p:Int)(f:Fn):Prop:=∀xs ks g,(∀x∈xs,bH p x)->(∀k∈ks,k<xs.length)->ks.length<=1000->f [.tup (xs.map rt),.tup (kD ks)] g=some (.bl (cE xs [] ks),g)
theorem D4 (ha:iG p ah):rF p (aD false 4 2 (rA ah)):=λxs ks g hx hk hl=>by
 obtain⟨σ',e⟩:=FJ ha (g:=g) hx ks [] none none (by simp) hk (by simpa using hl)
 have en:dH (kD ks)=(ks.zipIdx.map λy=>.tup [.int (y.2:Nat),.int (y.1:Nat)]):=by
  simp[dH,kD,afZ,aar]
 rw[aam,List.length_nil,<- en]at e
 cases hb:cE xs [] ks with
 |true=>rw[hb]at e;exact bS (σ':=σ') rfl (by simp[rA,e]) rfl
 |false=>rw[hb]at e;exact bS (σ':=σ') rfl (by simp[rA,e]) rfl
end Od
namespace Od
open PySem L3 L2 RI Pd PyProof.Rows
theorem vZ:∀(ns σ:List Int),σ.Nodup->(ns.foldl ab5 σ=σ++ns/\(σ++ns).Nodup)\/((ns.foldl ab5 σ).length < σ.length+ns.length /\ ¬(σ++ns).Nodup)
 | [],σ,h=>.inl ⟨by simp,by simpa using h⟩
 |v::ns,σ,h=>by
  rw[acM]
  by_cases hv:v∈σ
  . have e:ab5 σ v=σ:=by unfold ab5;rw[if_pos];rw[aaN];exact⟨v,hv,by simp⟩
    rw[e]
    refine .inr ⟨?_,λhn=>?_⟩
    . rcases vZ ns σ h with h1|h1
      . rw[h1.1];simp
      . simp;omega
    . rw[aaq]at hn
      exact hn.2.2 v hv v (by simp) rfl
  . have e:ab5 σ v=σ ++ [v]:=by
      unfold ab5
      rw[if_neg]
      rw[aaN]
      rintro⟨x,hx,e⟩
      have:=eq_of_beq e
      subst this
      exact hv hx
    have h2:(σ ++ [v]).Nodup:=by
      rw[aaq]
      exact⟨h,by simp,λa ha b hb=>by simp at hb;subst hb;exact λz=>hv (z ▸ ha)⟩
    have ih:=vZ ns (σ ++ [v]) h2
    rw[e]
    simpa[Nat.add_assoc,aeS 1]using ih
theorem BK (ns:List Int):unlike ns=(ns.foldl ab5 []).length:=by
 unfold unlike abr
 rw[pZ]
theorem BL (ns:List Int):decide ((unlike ns:Int)<ns.length)= !decide ns.Nodup:=by
 rw[BK]
 rcases vZ ns [] acp with h|h
 . rw[h.1]
   have:ns.Nodup:=by simpa using h.2
   simp[this]
 . have h1:¬ns.Nodup:=by simpa using h.2
   have h2:=h.1
   have h3:(((ns.foldl ab5 []).length:Nat):Int)<(ns.length:Int):=by simp at h2;omega
   simp[h1,h3]
noncomputable def toN:D->Nat
 |.int i=>i.toNat
 |_=>0
noncomputable def sQ (p:Int)(xs:List Rt)(ks:List Nat):Bool:=decide ks.Nodup&&(kr xs ks&&(cE xs [] ks&&dk (zs p) (ks.map (aB xs))))
noncomputable def RB (p:Int)(xs:List Rt):D->Bool
 |.tup ts=>ts.all (jO xs.length)&&sQ p xs (ts.map toN)
 |_=>false
theorem zC (h:ts.all (jO n)=true):ts=kD (ts.map toN) /\ ∀k∈ts.map toN,k<n:=by
 rw[Zi]at h
 constructor
 . unfold kD
   rw[Z2]
   conv=>lhs;rw[<- afp ts]
   refine aa5 λt ht=>?_
   have:=h t ht
   unfold jO within at this
   split at this
   . simp only[Y3,decide_eq_true_eq]at this
     show D.int _=D.int _
     congr 1
     simp[toN];omega
   . cases this
 . intro k hk
   obtain⟨t,ht,rfl⟩:=Zc.mp hk
   have:=h t ht
   unfold jO within at this
   split at this
   . simp only[Y3,decide_eq_true_eq]at this
     simp[toN];omega
   . cases this
theorem sR:∀{n:Nat} {ks:List Nat},ks.Nodup->(∀k∈ks,k<n)->ks.length<=n
 | 0,[],_,_=>Za _
 | 0,k::_,_,h=>absurd (h k (by simp)) (by omega)
 |n+1,ks,hn,h=>by
  have h1:=sR (n:=n) (hn.erase n) λk hk=>by
   have h2:=(hn.mem_erase_iff).mp hk
   have:=h k h2.2
   omega
  rw[List.length_erase]at h1
  split at h1<;>omega
theorem D5 (ks:List Nat):dh (kD ks)=some (ks.map λ(k:Nat)=>(k:Int)):=by
 induction ks with
 |nil=>rfl
 |cons k ks ih=>simp only[kD,Zw]at ih ⊢;simp[dh,ih]
theorem II (ks:List Nat):(ks.map λ(k:Nat)=>(k:Int)).Nodup ↔ ks.Nodup:=by
 rw[ab4,ab4,aab]
 constructor
 . exact λh=>h.imp λh e=>h (by rw[e])
 . exact λh=>h.imp λh e=>h (by omega)
noncomputable def kW (p:Int)(f:Fn):Prop:=∀xs d g,(∀x∈xs,bH p x)->xs.length<=100->nf d=true->f [.int p,.tup (xs.map rt),d] g=some (.bl (RB p xs d),g)
theorem D6 (ht:eM t)(ha:tR a)(he:rE p e)(hu:rF p u)(hf:mY p f):kW p (aD false 3 3 (gP t a e u f)):=λxs d g hx hl hd=>by
 refine bS (σ':=[some (.int p),some (.tup (xs.map rt)),some d]) rfl ?_ rfl
 have e1:=ht d 0 (xs.length:Nat) g (tO hd)
 cases d with
 |tup ts =>
  have t_:∀t∈ts,isFn t=false:=λt h=>tO (qZ hd t h)
  by_cases h:ts.length<=xs.length
  . have tl:dz (.tup ts) 0 (xs.length:Nat)=true:=by
     simp only[dz,Y3,decide_eq_true_eq];omega
    rw[tl]at e1
    have e2:=ha (xs.map rt) ts g t_ (by omega)
    rw[Zr]at e2
    cases h1:ts.all (jO xs.length)with
    |false =>
     rw[h1]at e2
     simp[gP,e1,e2,RB,h1]
    |true =>
     rw[h1]at e2
     obtain⟨t1,t2⟩:=zC h1
     simp only[RB,h1,ab9]
     generalize YR:ts.map toN=ks at *
     subst t1
     have ME:ks.length<=xs.length:=by simpa[kD]using h
     have e3:=he xs ks g hx hl
     have e4:=hu xs ks g hx t2 (by omega)
     have e5:=hf (ks.map (aB xs)) g λx oW=>by
      obtain⟨k,hk,rfl⟩:=Zc.mp oW
      exact hx _ (b8 (t2 k hk))
     have c1:=dW (f:=λ(i:Nat)=>D.int i) (t:=gN 1) (c:=aQ) (e:=aq ay (af 2) (af 1)) (h:=λi=>rt (aB xs i)) (λσ=>∃a,σ = [none,a,some (.tup (xs.map rt))]) ks [none,none,some (.tup (xs.map rt))] g ⟨_,rfl⟩ (by
      rintro i hm σ ⟨a,rfl⟩
      have gi:=eY (kU (t2 i hm))
      exact⟨[none,some (.int i),some (.tup (xs.map rt))],by simp,by simp,by simp[gi],⟨_,rfl⟩⟩)
     have c2:bZ (gN 1) aQ (aq ay (af 2) (af 1)) (kD ks) [none,none,some (.tup (xs.map rt))] g=some ((ks.map (aB xs)).map rt,g):=by rw[Z2];exact c1
     have sb:∀c d:Option D,bL [none,none,some 1] [c,some (.tup (xs.map rt)),d]= [none,none,some (.tup (xs.map rt))]:=λ_ _=>rfl
     have hz:aG (kD ks).length=true:=aL (by simp[kD];omega)
     have ls:iE (af 2) [some (.int p),some (.tup (xs.map rt)),some (.tup (kD ks))] g=some (.int (unlike (ks.map λ(k:Nat)=>(k:Int))),g):=by
      have:ks.length<=4000:=by omega
      simp[iE,D5,this]
     have lt:=BL (ks.map λ(k:Nat)=>(k:Int))
     rw[Zr,show decide (ks.map λ(k:Nat)=>(k:Int)).Nodup=decide ks.Nodup from decide_eq_decide.mpr (II ks)]at lt
     have kl:(kD ks).length=ks.length:=by simp[kD]
     have x6:aG ks.length=true:=by rw[<- kl];exact hz
     generalize unlike (ks.map λ(k:Nat)=>(k:Int))=un at *
     generalize wW:ks.map (aB xs)=cs at *
     unfold sQ
     cases hn:decide ks.Nodup with
     |false =>
      rw[hn]at lt
      have lt':(un:Int)<(ks.length:Int):=by simpa using lt
      simp[gP,e1,e2,ls,kl,lt']
     |true =>
      rw[hn]at lt
      have lt':¬(un:Int)<(ks.length:Int):=by simpa using lt
      cases hE:kr xs ks with
      |false =>
       rw[hE]at e3
       simp[gP,e1,e2,ls,kl,lt',e3]
      |true =>
       rw[hE]at e3
       cases hT:cE xs [] ks with
       |false =>
        rw[hT]at e4
        simp[gP,e1,e2,ls,kl,lt',e3,e4]
       |true =>
        rw[hT]at e4
        simp[gP,e1,e2,ls,kl,lt',e3,e4,sb,c2,x6,e5,wW]
  . have tl:dz (.tup ts) 0 (xs.length:Nat)=false:=by
     simp only[dz,aek,decide_eq_false_iff_not];omega
    rw[tl]at e1
    have rb:RB p xs (.tup ts)=false:=by
     simp only[RB]
     cases h1:ts.all (jO xs.length)with
     |false=>rfl
     |true =>
      obtain⟨t1,t2⟩:=zC h1
      have:¬(ts.map toN).Nodup:=λhn=>by
       have:=sR hn t2
       simp at this
       omega
      simp[sQ,this]
    rw[rb]
    simp[gP,e1]
 |fn x=>cases hd
 |_=>simp[gP,e1,dz,RB]
theorem mZ (ds:List Int):dh (ds.map D.int)=some ds:=by
 induction ds with
 |nil=>rfl
 |cons d ds ih=>simp[dh,ih]
end Od
namespace Od
open PySem L3 L2 RI Pd
theorem ql {α:Type}{f h:α->D}{t:FG}{c:FT}{e:FE}{cB:α->Bool}{nn:Nat}{g:G}{xs:List α}(hg:g[nn]? = some (xs.map f))(I:Sg->Prop)(hh:∀x∈xs,∀σ,I σ->∃σ1,t (f x) σ g=some (σ1,g)/\c σ1 g=some (cB x,g)/\(cB x=true->e σ1 g=some (h x,g))/\I σ1):
  ∀(k:Nat) (σ:Sg),k<=xs.length->I σ->eG nn xs.length t c e k σ g=some (((xs.drop (xs.length-k)).filter cB).map h,g)
 | 0,σ,_,_=>by simp[eG,hg]
 |k+1,σ,hk,hi=>by
  have bD:xs.length-(k+1)<xs.length:=by omega
  obtain⟨σ1,h1,h2,h3,h4⟩:=hh (xs[xs.length-(k+1)]) (aaf bD) σ hi
  have ih:=ql hg I hh k σ1 (by omega) h4
  rw[aaE bD,show xs.length-(k+1)+1=xs.length-k by omega]
  have rG:(xs.map f)[xs.length-(k+1)]? = some (f xs[xs.length-(k+1)]):=by simp[bD]
  simp only[eG,hg,Zb,Zr,if_true,rG,h1,h2]
  cases hc:cB xs[xs.length-(k+1)]with
  |true=>simp only[if_true,h3 hc,Zb,ih,aay,hc,Zw]
  |false=>simp only[Zh,if_false,ih,aay,hc]
noncomputable def gE:FS:=qL 5 6 (aa (aq bU (aK aJ (aa (fC (.int 0)) ag)) (af 0)) (aa (aK mkRef ag) ag))
theorem v3 {p:Int}{cy:Row->D}:∀(ss:List Row) (a:List Row),(∀a' r b,ss=a'++r::b->cD r.dd=true->r.e.isSome=true->cy r = .tup (mV p (a++a')))->(∀r∈ss,fM p r.dd)->(∀r∈ss,flat (cy r)=true) ->
  dk (mV p a) ((ss.filter fz).map λr=>(r,cy r))=true
 | [],_,_,_,_=>rfl
 |r::ss,a,h,hd,hf=>by
  have ih:=v3 ss (a ++ [r]) (λa' s b e h1 h2=>by
   have:=h (r::a') s b (by rw[e];rfl) h1 h2
   simpa using this) (λs hs=>hd s (by simp[hs])) (λs hs=>hf s (by simp[hs]))
  rw[mW]at ih
  rw[aay]
  cases hk:fz r with
  |true =>
   simp only[if_true,Zw,dk,ih,adi]
   unfold qg
   cases hl:cD r.dd with
   |false=>rfl
   |true =>
     have hs:r.e.isSome=true:=by simpa[fz,hl]using hk
     have:=h [] r ss rfl hl hs
     rw[abI]at this
     have fl:=hf r (by simp)
     rw[this]at fl ⊢
     simp[fG _ fl]
  |false =>
   simp only[Zh,if_false]
   have hl:cD r.dd=true:=by
     cases hl:cD r.dd with
     |true=>rfl
     |false=>simp[fz,hl]at hk
   rcases hd r (by simp)with e|⟨c,v,e,_⟩
   . rw[e]at ih;exact ih
   . rw[e]at hl;simp[cD,vT]at hl
noncomputable def jP (rws:List Row)(k:Int):Nat:=(lu (rws.map λr=>D.int r.k) (.int k)).getD 0
theorem MF (hp:rws.Pairwise After)(hr:r∈rws):rws[jP rws r.k]? = some r:=by
 have:((rws.map λr=>D.int r.k).findIdx? λy=>aI y (.int r.k)).isSome=true:=by
  rw[aev,aaN]
  exact⟨.int r.k,Zc.mpr ⟨r,hr,rfl⟩,by simp[fL]⟩
 obtain⟨j,hj⟩:=aaV.mp this
 have e1:jP rws r.k=j:=by unfold jP lu;rw[hj];rfl
 rw[acu]at hj
 obtain⟨h1,h2,_⟩:=hj
 rw[Zr]at h1
 rw[afJ,fL,decide_eq_true_eq]at h2
 rw[e1,Y8 h1,lK hp _ (aaf h1) r hr h2]
theorem v5:∀(ks seen:List Nat),(∀i∈seen,∀k∈ks,dJ (aB xs k) (aB xs i)=false)->ks.Pairwise (λi k=>dJ (aB xs k) (aB xs i)=false)->cE xs seen ks=true
 | [],_,_,_=>rfl
 |k::ks,seen,h,hp=>by
  rw[acm]at hp
  simp only[cE,Y3,Zx,ads]
  refine⟨λi hi=>by rw[h i hi k (by simp)];simp,v5 ks _ (λi hi k' pv=>?_) hp.2⟩
  rcases Ze.mp hi with hi|hi
  . exact h i hi k' (by simp[pv])
  . simp at hi;subst hi;exact hp.1 k' pv
noncomputable def fv (cy:Row->D)(rws:List Row):List Rt:=rws.map λr=>(r,cy r)
noncomputable def fY (rws ss:List Row):List Nat:=(ss.filter fz).map λr=>jP rws r.k
theorem Py (rws ss:List Row):((ss.filter fz).map λr=>vV rws r.k).map D.int=kD (fY rws ss):=by
 unfold kD fY
 rw[Z2,Z2]
 rfl
theorem MG (ks:List Nat):(kD ks).map toN=ks:=by
 unfold kD
 rw[Z2]
 conv=>rhs;rw[<- afp ks]
 exact aa5 λk _=>by simp[toN]
theorem Pz (h:∀k∈ks,k<n):(kD ks).all (jO n)=true:=by
 rw[Zi]
 intro d hd
 obtain⟨k,hk,rfl⟩:=Zc.mp hd
 have:=h k hk
 simp only[jO,within,Y3,decide_eq_true_eq]
 omega
theorem BM (R:Rows p most rws)(T:Told p rws cy)(S:iu p rws ss cy):RB p (fv cy rws) (.tup (kD (fY rws ss)))=true:=by
 have mem:∀r∈ss,r∈rws:=λr hr=>S.pm.mem_iff.mp hr
 have mf:∀r∈ss.filter fz,r∈rws:=λr hr=>mem r (Zt.mp hr).1
 have nk:(ss.map (·.k)).Nodup:=(S.pm.map (·.k)).nodup_iff.mpr (by
  rw[ab4,aab]
  exact R.pw.imp λh=>by have:=h.1;omega)
 have po:∀r∈rws,rws[jP rws r.k]? = some r:=λr hr=>MF R.pw hr
 have pl:∀r∈rws,jP rws r.k<rws.length:=λr hr=>(Y7.mp (po r hr)).1
 have ax:∀r∈rws,aB (fv cy rws) (jP rws r.k)=(r,cy r):=λr hr=>by
  unfold aB fv
  simp[ab_,po r hr]
 have kl:∀k∈fY rws ss,k<(fv cy rws).length:=λk hk=>by
  obtain⟨r,hr,rfl⟩:=Zc.mp hk
  simpa[fv]using pl r (mf r hr)
 simp only[RB,Pz kl,ab9,MG]
 have c1:(fY rws ss).Nodup:=by
  unfold fY
  rw[ab4,aab]
  have h1:(ss.filter fz).Pairwise λr s=>r.k≠s.k:=by
    rw[ab4,aab]at nk
    exact nk.filter _
  refine(abh.mp h1).imp fun {r s} h e=>h.2.2 ?_
  have h2:=po r (mf r h.1)
  rw[e,po s (mf s h.2.1)]at h2
  cases h2;rfl
 have c2:kr (fv cy rws) (fY rws ss)=true:=by
  unfold kr
  rw[Zi]
  rintro⟨x,i⟩ hy
  obtain⟨hi,xW⟩:=List.mem_zipIdx' hy
  have xO:i<rws.length:=by simpa[fv]using hi
  have ex:x=(rws[i],cy rws[i]):=by rw[xW];simp[fv]
  subst ex
  cases he:rws[i].e with
  |none=>simp[he]
  |some e =>
    have hm:rws[i]∈ss.filter fz:=Zt.mpr ⟨S.pm.mem_iff.mpr (aaf _),by simp[fz,he]⟩
    have h2:=po _ (mf _ hm)
    have hq:=pl _ (mf _ hm)
    rw[Y8 hq]at h2
    have:jP rws rws[i].k=i:=by
      have e2:rws[jP rws rws[i].k]=rws[i]:=by simpa using h2
      by_cases bD:jP rws rws[i].k<i
      . have:=(aaF.mp R.pw _ _ hq xO bD).1
        rw[e2]at this;omega
      . by_cases Mg:i<jP rws rws[i].k
        . have:=(aaF.mp R.pw _ _ xO hq Mg).1
          rw[e2]at this;omega
        . omega
    have:i∈fY rws ss:=Zc.mpr ⟨_,hm,this⟩
    simp[this]
 have c3:cE (fv cy rws) [] (fY rws ss)=true:=by
  refine v5 _ _ (by simp) ?_
  unfold fY
  rw[aab]
  refine(abh.mp (S.pw.filter fz)).imp fun {r s} h=>?_
  have hr:=mf r h.1
  have hs:=mf s h.2.1
  rw[ax r hr,ax s hs,qh]
  cases he:s.e with
  |none=>simp[he]
  |some e =>
    have h1:=(R.g s hs).pb e he
    have h2:=(R.g r hr).pa
    have h3:=h.2.2
    have:¬e<=r.b:=by omega
    simp[he,this]
 have c4:dk (zs p) ((fY rws ss).map (aB (fv cy rws)))=true:=by
  have e:(fY rws ss).map (aB (fv cy rws))=(ss.filter fz).map λr=>(r,cy r):=by
    unfold fY
    rw[Z2]
    exact aa5 λr hr=>ax r (mf r hr)
  rw[e]
  refine v3 (p:=p) ss [] (λa' r b e h1 h2=>?_) (λr hr=>(R.g r (mem r hr)).dd) (λr hr=>?_)
  . rw[aam];exact S.tl a' r b e h1 h2
  . have:=T.t r (mem r hr)
    split at this
    . exact(vY this).1
    . rw[this];rfl
 simp[sQ,c1,c2,c3,c4]
theorem FK {Q:F×Sg×G->Prop}(h:wp (f1 σ g) λr=>r.1 = .nx/\wp (f2 r.2.1 r.2.2) Q):wp (aw f1 f2 σ g) Q:=by
 obtain⟨⟨r,σ1,g1⟩,e,h1,h2⟩:=h
 dsimp only at h1 h2
 subst h1
 rw[cP,e]
 exact h2
theorem IJ (h:k<n):kC n (k:Int)=some k:=by
 unfold kC
 have h1:(0:Int)<=(k:Int):=by omega
 have h2:(k:Int)<(n:Int):=by omega
 simp[h1,h2]
theorem MH {g:G}{m k:Nat}{xs:List D}{v:D}(hm:g[m]? = some xs)(hk:k<xs.length):putD (.ref m) (.int k) v g=some (g.set m (xs.set k v)):=by
 unfold putD
 simp only[hm,IJ hk]
noncomputable def QX (take:Fn):FS:=aC (ao take (aa (af 0) (aa (ao cx (aa (af 3) ag)) ag))) (gN 5)
noncomputable def MI:FS:=aC (aq ay (af 3) (af 5)) (gT 5 (au (gN 6) (au (gN 7) (au (gN 8) (au (gN 9) (au (gN 10) aP))))))
noncomputable def QY (take:Fn):FS:=aC (ao take (aa (af 0) (aa (af 1) ag))) (gN 11)
noncomputable def MJ:FE:=fJ aY (mI (af 3)) [none,none] (gN 1) (aH (aq cF (aq ay (af 1) (fC (.int 4))) (fC .aA))) (aq ay (af 1) (fC (.int 4)))
noncomputable def QZ (val:Fn):FS:=aC (aq aV (aq aV (dX (af 10) cN (cC (af 11))) (aK aJ (aa (ao val (aa (af 0) ag)) ag))) (dX (af 10) (cC (aq aV (af 11) (fC (.int 1)))) cN)) (gN 13)
noncomputable def Q0 (pick:Fn):FS:=aC (aK aJ (aa (af 6) (aa (af 7) (aa (af 8) (aa (af 9) (aa (ao pick (aa (af 0) (aa (aK cj (aa (af 13) (aa (ao pick (aa (af 0) (aa (af 12) ag))) ag))) ag))) ag)))))) (eU (af 3) (af 5))
noncomputable def D7 (take pick val:Fn):FS:=aw (QX take) (aw MI (bK (aH (aq cF (af 10) (fC .aA))) (aw (QY take) (aw (aC MJ (gN 12)) (aw (QZ val) (Q0 pick)))) aN))
noncomputable def MK:FS:=aF (ao da (aa (af 3) ag))
noncomputable def v7 (take pick val:Fn):FS:=aw (aC (ao jq (aa (af 2) ag)) (gN 3)) (aw (cS (gI (aa (aq bU (ao pick (aa (af 0) (aa (aK cj (aa (fC (.int 0)) (aa (fC (.int 1)) (aa (fC (.int 1)) (aa (fC (.int 2)) (aa (fC (.int 3)) ag)))))) ag))) (ao ki (aa (aq kq (af 3) (aK cj ag)) ag))) ag)) (gN 4) (D7 take pick val)) MK)
theorem bH.cy (h:bH p x):x.2 = .aA \/ ∃st,x.2 = .tup st/\St p st/\(cD x.1.dd&&x.1.e.isSome)=true:=by
 have ht:=h.t
 split at ht
 . rename_i hc
   unfold mR at ht
   split at ht
   . rename_i st e
     simp only[Y3,decide_eq_true_eq,Zi]at ht
     exact .inr ⟨st,e,ht,hc⟩
   . cases ht
 . exact .inl ht
noncomputable def nI (ys:List Rt):List D:=(ys.filter λy=>!i3 y.2).map (·.2)
theorem ML (hy:∀y∈ys,bH p y)(hl:ys.length<=100)(hg:g[m]? = some (ys.map rt))(h3:σ[3]? = some (some (.ref m))):MJ σ g=some (.lst (nI ys),g):=by
 have hz:aG ys.length=true:=aL (by omega)
 have c1:=ql (f:=rt) (t:=gN 1) (c:=aH (aq cF (aq ay (af 1) (fC (.int 4))) (fC .aA))) (cB:=λy=>!i3 y.2) (e:=aq ay (af 1) (fC (.int 4))) (h:=λy=>y.2) (xs:=ys) hg (λσ=>∃o,σ = [none,o]) (by
  rintro y hm σ ⟨o,rfl⟩
  refine⟨[none,some (rt y)],by simp,?_,λ_=>by simp[rt,vL],⟨_,rfl⟩⟩
  rcases bH.cy (hy y hm)with e|⟨st,e,_⟩
  . simp[rt,vL,e,isLit,dG,i3]
  . simp[rt,vL,e,isLit,dG,i3]) ys.length [none,none] (Za _) ⟨_,rfl⟩
 rw[aby,abV]at c1
 have sb:bL [none,none] σ = [none,none]:=rfl
 unfold MJ
 simp only[AZ,HN,kL,h3,Zb,hg,Zr,hz,if_true,sb,c1]
 rfl
theorem MM (hy:∀y∈ys,bH p y)(hd:d∈nI ys):∃st,d = .tup st/\St p st:=by
 obtain⟨y,h1,rfl⟩:=Zc.mp hd
 obtain⟨h2,h3⟩:=Zt.mp h1
 rcases bH.cy (hy y h2)with e|⟨st,e,h4,_⟩
 . rw[e]at h3;cases h3
 . exact⟨st,e,h4⟩
theorem D8 {ys:List Rt}{k:Nat}{d:D}(hk:k<ys.length):(ys.set k ((aB ys k).1,d)).map (·.1)=ys.map (·.1):=by
 rw[List.map_set]
 refine aaO (by simp) λi h1 h2=>?_
 by_cases hi:k=i
 . subst hi;simp[aB,hk]
 . rw[List.getElem_set_ne hi]
noncomputable def MN (n:Nat)(p:Int)(xs:List Rt)(B:Int)(g:G)(i:Nat)(σ:Sg)(gg:G):Prop:=i<=3->∃(ys:List Rt) (o4 o5 o6 o7 o8 o9 eO eH fT lY:Option D),σ = [some (.ref n),some (.int p),some (.tup (xs.map rt)),some (.ref g.length),o4,o5,o6,o7,o8,o9,eO,eH,fT,lY]/\Mk g gg n (B+10+10*i) (ys.map rt)/\(∀y∈ys,bH p y)/\ys.map (·.1)=xs.map (·.1)
set_option maxHeartbeats 4000000 in
theorem MO {take pick val:Fn}(ht:dU take)(hp:gq pick)(hv:gr val){n:Nat}{g gg:G}{B p:Int}{xs ys:List Rt}{o4 o5 o6 o7 o8 o9 eO eH fT lY:Option D}{Q:F×Sg×G->Prop}(hB:B+10<2 ^ 40)(p0:0<p)(lW:p<=100)(m:Mk g gg n B (ys.map rt))(hy:∀y∈ys,bH p y)(hl:ys.length<=100)(h0:0<ys.length)
   (q:∀(BN:List Rt) g' o4 o5 o6 o7 o8 o9 eO eH fT lY,Mk g g' n (B+6) (BN.map rt)->(∀y∈BN,bH p y)->BN.map (·.1)=ys.map (·.1)->Q (.nx,[some (.ref n),some (.int p),some (.tup (xs.map rt)),some (.ref g.length),o4,o5,o6,o7,o8,o9,eO,eH,fT,lY],g')):
   wp (D7 take pick val [some (.ref n),some (.int p),some (.tup (xs.map rt)),some (.ref g.length),o4,o5,o6,o7,o8,o9,eO,eH,fT,lY] gg) Q:=by
 unfold D7
 refine FK ?_
 have a0:=m.at_
 unfold QX
 simp[a0,cv]
 refine ht.w (by omega) (by omega) (by omega) m.hd λr g2 r0 r1 h2 f2=>?_
 have m2:=m.step h2 f2
 have a2:=m2.at_
 obtain⟨k,rfl⟩:∃k:Nat,r=k:=⟨r.toNat,by omega⟩
 have hk:k<ys.length:=by omega
 have gk:=eY (kU hk)
 have Q1:=hy _ (b8 hk)
 simp
 have eB:MI [some (.ref n),some (.int p),some (.tup (xs.map rt)),some (.ref g.length),o4,some (.int k),o6,o7,o8,o9,eO,eH,fT,lY] g2=some (.nx,[some (.ref n),some (.int p),some (.tup (xs.map rt)),some (.ref g.length),o4,some (.int k),some (.int (aB ys k).1.h),some (aB ys k).1.dd,some (.int (aB ys k).1.b),some (eD (aB ys k).1.e),some (aB ys k).2,eH,fT,lY],g2):=by
   simp[MI,pI,cv,a2,gk,rt]
 refine⟨_,eB,?_⟩
 rcases bH.cy Q1 with e|⟨st,e,cU,Xj⟩
 . simp[e,isLit,dG]
   exact q ys g2 _ _ _ _ _ _ _ _ _ _ (m2.mono (by omega)) hy rfl
 . simp[e,isLit,dG,QY]
   refine ht.w (by omega) p0 (by omega) m2.hd λc g3 c0 c1 h3 f3=>?_
   have m3:=m2.step h3 f3
   have bt:=ML (σ:=[some (.ref n),some (.int p),some (.tup (xs.map rt)),some (.ref g.length),o4,some (.int k),some (.int (aB ys k).1.h),some (aB ys k).1.dd,some (.int (aB ys k).1.b),some (eD (aB ys k).1.e),some (.tup st),some (.int c),fT,lY]) hy hl m3.at_ rfl
   simp
   refine⟨_,bt,?_⟩
   have Mz:=cU.1
   obtain⟨cn,rfl⟩:∃cn:Nat,c=cn:=⟨c.toNat,by omega⟩
   have dI:cn<st.length:=by omega
   have s1:∀g,gC (.tup st) none (some (cn:Int)) g=some (.tup (st.take cn),g):=λg=>hG (pL dI)
   have s2:∀g,gC (.tup st) (some ((cn:Int)+1)) none g=some (.tup (st.drop (cn+1)),g):=λg=>hG (nz dI)
   have y1:aG (min cn st.length+1)=true:=aL (by omega)
   have y2:aG (min cn st.length+1+(st.length-(cn+1)))=true:=aL (by omega)
   simp[QZ,s1]
   refine hv.w (by omega) m3.hd λv g4 v0 h4 f4=>?_
   have m4:=m3.step h4 f4
   have Tj:St p (st.take cn++v::st.drop (cn+1)):=⟨by simp;omega,λx hx=>by
     rcases Ze.mp hx with hx|hx
     . exact cU.2 x (aaH hx)
     . rcases Zd.mp hx with rfl|hx
       . exact rq v0
       . exact cU.2 x (acV hx)⟩
   simp[s2,y1,y2,Q0]
   have tn:nI ys ≠ []:=λz=>by
     have:st.map id=st:=by simp
     have hm:D.tup st∈nI ys:=Zc.mpr ⟨aB ys k,Zt.mpr ⟨b8 hk,by rw[e];rfl⟩,e⟩
     rw[z]at hm
     cases hm
   have tl:(nI ys).length<1000:=by
     unfold nI
     rw[Zr]
     have:=Z8 (λy:Rt=>!i3 y.2) ys
     omega
   refine hp.w (by omega) tn tl m4.hd λd g5 hd h5 f5=>?_
   have m5:=m4.step h5 f5
   obtain⟨PN,rfl,Tn⟩:=MM hy hd
   simp
   refine hp.w (by omega) (by simp) (by simp) m5.hd λd g6 hd h6 f6=>?_
   have m6:=m5.step h6 f6
   obtain⟨nR,rfl,To⟩:∃nR,d = .tup nR/\St p nR:=by
     rcases Zd.mp hd with rfl|hd
     . exact⟨_,rfl,Tj⟩
     . simp at hd;subst hd;exact⟨_,rfl,Tn⟩
   have pa:=MH (v:=rt ((aB ys k).1,.tup nR)) m6.at_ (k:=k) (by simpa using hk)
   have Xk:putD (.ref g.length) (.int k) (.tup [.int (aB ys k).1.h,(aB ys k).1.dd,.int (aB ys k).1.b,eD (aB ys k).1.e,.tup nR]) g6=_:=pa
   simp[Xk]
   have m7:=m6.put (ys:=(ys.map rt).set k (rt ((aB ys k).1,.tup nR)))
   rw[<- List.map_set]at m7 ⊢
   refine q (ys.set k ((aB ys k).1,.tup nR)) _ _ _ _ _ _ _ _ _ _ _ (m7.mono (by omega)) (λy Q2=>?_) (D8 hk)
   rcases List.mem_or_eq_of_mem_set Q2 with h|rfl
   . exact hy y h
   . exact⟨Q1.r,by rw[if_pos Xj];exact St.B To⟩
theorem bH.PB (h:bH p x):L3.flat (rt x)=true/\dep (rt x)<=6:=by
 obtain⟨h1,h2⟩:=h.r.dd.flat
 obtain⟨h3,h4⟩:=bH.FH h
 have he:L3.flat (eD x.1.e)=true/\dep (eD x.1.e)=0:=by cases x.1.e<;>exact⟨rfl,rfl⟩
 constructor
 . simp[rt,L3.flat,L3.aU,h1,he.1,h3]
 . simp[rt,dep,bX,he.2];omega
theorem D9 {p:Int}{xs:List Rt}(h:∀x∈xs,bH p x):L3.aU (xs.map rt)=true/\bX (xs.map rt)<=6:=oP λd hd=>by
 obtain⟨x,hx,rfl⟩:=Zc.mp hd
 exact bH.PB (h x hx)
theorem bH.bB (h:bH p x)(n:Nat):L3.bB n (rt x)=true:=by
 have h1:=h.r.dd.bB n
 have h2:L3.bB n (eD x.1.e)=true:=by cases x.1.e<;>rfl
 have h3:L3.bB n x.2=true:=by
  have ht:=h.t
  split at ht
  . exact(qa ht).2 n
  . rw[ht];rfl
 simp[rt,L3.bB,aW,h1,h2,h3]
theorem IK {p:Int}{xs:List Rt}(h:∀x∈xs,bH p x)(n:Nat):aW n (xs.map rt)=true:=cH λd hd=>by
 obtain⟨x,hx,rfl⟩:=Zc.mp hd
 exact bH.bB (h x hx) n
theorem x8 (hg:g[m]? = some xs)(h1:L3.aU xs=true)(h2:bX xs<=50):kq (.ref m) (.lst []) g=some (.bl (!xs.isEmpty),g):=by
 have d1:dr (.ref m) g = .lst xs:=by simp[dr,hg]
 have d2:dr (.lst []) g = .lst []:=rfl
 have e:aI (.lst xs) (.lst [])=xs.isEmpty:=by cases xs<;>simp[aI,c_]
 unfold kq
 rw[d1,d2,e,if_pos]
 simp[L3.flat,h1,aU,dep]
 omega
set_option maxHeartbeats 4000000 in
theorem MP {take pick val:Fn}(ht:dU take)(hp:gq pick)(hv:gr val){n:Nat}{g:G}{B p:Int}{xs:List Rt}{Q:D×G->Prop}(hB:B+100<2 ^ 40)(p0:0<p)(lW:p<=100)(hx:∀x∈xs,bH p x)(hl:xs.length<=100)(hd:Hd g n B)(hc:Clean g)
   (q:∀(ys:List Rt) g',(∀y∈ys,bH p y)->ys.map (·.1)=xs.map (·.1)->Hd g' n (B+50)->Fr n g g'->Q (.tup (ys.map rt),g')):
   wp (aD false 14 3 (v7 take pick val) [.ref n,.int p,.tup (xs.map rt)] g) Q:=by
 refine fO rfl ?_
 unfold v7
 have hz:aG xs.length=true:=aL (by omega)
 simp[jq,cv,hz]
 refine nH ?_
 simp
 have m0:Mk g (g ++ [xs.map rt]) n B (xs.map rt):=Mk.init hd
 refine hp.w (by omega) (by simp) (by simp) m0.hd λc g2 rP h2 f2=>?_
 have m2:=m0.step h2 f2
 obtain⟨c,rfl,c0,c3⟩:∃i:Int,c = .int i/\0<=i/\i<=3:=by
   simp only[Zd,abz,or_false]at rP
   rcases rP with rfl|rfl|rfl|rfl|rfl<;>exact⟨_,rfl,by decide,by decide⟩
 obtain⟨Mt,FC⟩:=D9 hx
 have nn:=x8 m2.at_ Mt (by omega)
 have em:(xs.map rt).isEmpty=xs.isEmpty:=by cases xs<;>rfl
 rw[em]at nn
 simp[nn]
 have fin:∀(σ:Sg) (gg:G) (k:Nat),k<=3->MN n p xs B g k σ gg->wp (MK σ gg) λr=>match r.1 with
   |.rt d=>L3.bB g.length d=true/\(∀x,x∈List.take g.length r.2.2->aW g.length x=true)/\g.length<=r.2.2.length/\Q (d,r.2.2.take g.length)
   |.nx=>(∀x,x∈List.take g.length r.2.2->aW g.length x=true)/\g.length<=r.2.2.length/\Q (.aA,r.2.2.take g.length)
   |_=>False:=λσ gg k hk hI=>by
   obtain⟨ys,o4,o5,o6,o7,o8,o9,eO,eH,fT,lY,rfl,m,hy,e⟩:=hI hk
   have a0:=m.at_
   have el:ys.length=xs.length:=by simpa using congrArg aca e
   have y1:aG ys.length=true:=by rw[el];exact hz
   obtain⟨h1,h2⟩:=m.fin
   have Fm:=m.len
   have cl:=(hc.fr h2 h1).all g.length
   refine⟨(.rt (.tup (ys.map rt)),[some (.ref n),some (.int p),some (.tup (xs.map rt)),some (.ref g.length),o4,o5,o6,o7,o8,o9,eO,eH,fT,lY],gg),?_,?_⟩
   . simp[MK,da,cv,a0,y1]
   . exact⟨by simpa[L3.bB]using IK hy g.length,λx oW=>Zi.mp cl x oW,by show g.length<=gg.length;omega,q ys _ hy e (h1.mono (by omega)) h2⟩
 have Xl:MN n p xs B g 0 [some (.ref n),some (.int p),some (.tup (xs.map rt)),some (.ref g.length),none,none,none,none,none,none,none,none,none,none] g2:=λ_=>⟨xs,_,_,_,_,_,_,_,_,_,_,rfl,m2.mono (by omega),hx,rfl⟩
 have Xm:dg c (if xs = []then 0 else 1)=true:=gM (by omega) (by omega)
 simp[Xm]
 have jb:0<=(c*if xs = []then 0 else 1)/\(c*if xs = []then 0 else 1)<=3:=by split<;>omega
 refine⟨by omega,by omega,?_⟩
 refine kM (λi σ gg=>MN n p xs B g i σ gg) _ 0 _ _ Xl ?_ ?_
 . intro j d σ gg sJ hI
   obtain⟨hj,rfl⟩:=jM sJ
   have QQ:xs ≠ []:=λz=>by rw[if_pos z]at hj;simp at hj
   have YS:j<3:=by omega
   obtain⟨ys,o4,o5,o6,o7,o8,o9,eO,eH,fT,lY,rfl,m,hy,e⟩:=hI (by omega)
   rw[abW]at *
   simp
   have el:ys.length=xs.length:=by simpa using congrArg aca e
   refine MO ht hp hv (by omega) p0 lW m hy (by omega) (by rw[el];exact aeH.mpr QQ) λBN g' o4 o5 o6 o7 o8 o9 eO eH fT lY m' Kg e'=>?_
   exact λ_=>⟨BN,_,_,_,_,_,_,_,_,_,_,rfl,m'.mono (by omega),Kg,e'.trans e⟩
 . intro σ gg hI
   rw[gO,abW]at hI
   simp
   exact fin σ gg _ (by omega) hI
end Od
namespace Sd
open PySem L3 L2 RI Pd Od
noncomputable abbrev aO:=Nat×List D
noncomputable def early (xs:List Rt)(k:Nat):List Nat:=(Y9 xs.length).filter λo=>dJ (aB xs o) (aB xs k)
noncomputable def dD (xs:List Rt)(r:aO)(k:Nat):Bool:=!r.1.testBit k&&(((early xs k).all λo=>r.1.testBit o)&&qg (aB xs k) r.2)
noncomputable def bM (xs:List Rt)(r:aO)(k:Nat):aO:=(r.1 ||| 1 <<< k,cJ r.2 (aB xs k).1.dd)
inductive Path (xs:List Rt)(p:Int):List Nat->aO->Prop
 |nil:Path xs p [] (0,zs p)
 |snoc {ks r k}:Path xs p ks r->k<xs.length->dD xs r k=true->Path xs p (ks ++ [k]) (bM xs r k)
theorem jv:(bM xs r k).1.testBit i=(r.1.testBit i||decide (i=k)):=by
 unfold bM
 rw[Nat.testBit_or,abQ,abB]
 congr 1
 exact decide_eq_decide.mpr eq_comm
theorem Path.bits {xs p ks r}(h:Path xs p ks r):∀i,r.1.testBit i=ks.contains i:=by
 induction h with
 |nil=>intro i;simp
 |snoc h hk hc ih =>
  intro i
  rw[jv,ih]
  simp
theorem Path.lt {xs p ks r}(h:Path xs p ks r):∀k∈ks,k<xs.length:=by
 induction h with
 |nil=>intro k hk;cases hk
 |snoc h hk hc ih =>
  intro k' pv
  rcases Ze.mp pv with h'|h'
  . exact ih k' h'
  . simp at h';subst h';exact hk
theorem Path.nodup {xs p ks r}(h:Path xs p ks r):ks.Nodup:=by
 induction h with
 |nil=>exact acp
 |snoc h hk hc ih =>
  rw[aaq]
  refine⟨ih,by simp,λa ha b hb e=>?_⟩
  simp at hb
  subst hb;subst e
  have:=h.bits a
  simp[dD,this,ha]at hc
theorem oo:∀(ks seen:List Nat) (k:Nat),cE xs seen (ks ++ [k])=(cE xs seen ks && !((seen++ks).any λi=>dJ (aB xs k) (aB xs i)))
 | [],seen,k=>by simp[cE]
 |j::ks,seen,k=>by
  simp only[aa7,cE,oo ks]
  rw[aaI,abU,ad_]
theorem qm:∀(cs:List Rt) (st:List D) (x:Rt),dk st (cs ++ [x])=(dk st cs&&qg x (cs.foldl (λs y=>cJ s y.1.dd) st))
 | [],st,x=>by simp[dk]
 |y::cs,st,x=>by simp only[aa7,dk,qm cs,acM,ad_]
theorem Path.st {xs p ks r}(h:Path xs p ks r):r.2=(ks.map (aB xs)).foldl (λs y=>cJ s y.1.dd) (zs p):=by
 induction h with
 |nil=>rfl
 |snoc h hk hc ih=>simp[bM,ih]
theorem Path.early {xs p ks r}(h:Path xs p ks r):∀i∈ks,∀o<xs.length,dJ (aB xs o) (aB xs i)=true->o∈ks:=by
 induction h with
 |nil=>intro i hi;cases hi
 | @snoc ks r k h hk hc ih =>
  intro i hi o ho ha
  rcases Ze.mp hi with hi|hi
  . exact Ze.mpr (.inl (ih i hi o ho ha))
  . simp at hi
    subst hi
    simp only[dD,Y3,Zi]at hc
    have:=hc.2.1 o (Zt.mpr ⟨Zm.mpr ho,ha⟩)
    rw[h.bits]at this
    exact Ze.mpr (.inl (by simpa using this))
theorem Path.turns {xs p ks r}(h:Path xs p ks r):cE xs [] ks=true:=by
 induction h with
 |nil=>rfl
 | @snoc ks r k h hk hc ih =>
  rw[oo,ih]
  simp only[aam,ab9,Zx,ads]
  intro i hi ha
  have hm:=h.early i hi k hk ha
  have hb:=h.bits k
  have:ks.contains k=true:=by simpa using hm
  rw[this]at hb
  simp[dD,hb]at hc
theorem Path.fits {xs p ks r}(h:Path xs p ks r):dk (zs p) (ks.map (aB xs))=true:=by
 induction h with
 |nil=>rfl
 | @snoc ks r k h hk hc ih =>
  rw[aat,adf,qm,ih,<- h.st]
  simp only[dD,Y3]at hc
  simp[hc.2.2]
noncomputable def eJ (xs:List Rt)(b:Nat):Bool:=xs.zipIdx.all λy=>y.1.1.e.isNone||b.testBit y.2
theorem Path.end_ {xs p ks r}(h:Path xs p ks r):eJ xs r.1=kr xs ks:=by
 unfold eJ kr
 congr 1
 funext y
 rw[h.bits]
theorem Path.ok {xs p ks r}(h:Path xs p ks r)(he:eJ xs r.1=true):sQ p xs ks=true:=by
 rw[h.end_]at he
 simp[sQ,h.nodup,he,h.turns,h.fits]
theorem jQ {α:Type}:∀{V W:List α},V.Nodup->(∀v∈V,v∈W)->V.length<=W.length
 | [],_,_,_=>ZM _
 |v::V,W,hn,h=>by
  rw[aaD]at hn
  obtain⟨a,b,rfl⟩:=ade (h v (by simp))
  have:=jQ (V:=V) (W:=a++b) hn.2 λw hw=>by
   have:=h w (by simp[hw])
   rcases Ze.mp this with h1|h1
   . simp[h1]
   . rcases Zd.mp h1 with rfl|h1
     . exact absurd hw hn.1
     . simp[h1]
  simp at this ⊢
  omega
noncomputable def bT:Nat->(Nat->Nat)->Nat
 | 0,_=>0
 |n+1,T=>bT n T ||| (if T n=0 then 0 else 1 <<< n)
theorem m8 (T:Nat->Nat)(i:Nat):∀n,(bT n T).testBit i=(decide (i<n)&&decide (T i≠0))
 | 0=>by simp[bT]
 |n+1=>by
  simp only[bT]
  rw[Nat.testBit_or,m8 T i n]
  by_cases e:i=n
  . subst e
    by_cases h:T i=0<;>simp[h,abQ,abB]
  . have h1:(decide (i<n+1))=decide (i<n):=decide_eq_decide.mpr (by omega)
    rw[h1]
    have h2:¬n=i:=λz=>e z.symm
    by_cases h:T n=0<;>simp[h,abQ,abB,h2]
noncomputable def fA (x:Rt):Option Nat:=match x.1.dd with
 |.tup [.str _,.int c,_]=>some c.toNat
 |_=>none
noncomputable def BO (x:Rt):D:=match x.1.dd with
 |.tup [.str _,.int _,v]=>v
 |_=>.aA
theorem D_ (h:fM p x.1.dd)(hl:(st.length:Int)=p):cJ st x.1.dd=match fA x with|some c=>st.set c (BO x)|none=>st:=by
 rcases h with e|⟨c,v,e,c0,c1,_⟩
 . simp[fA,e,cJ]
 . have hc:c.toNat<st.length:=by omega
   simp only[fA,BO,e,cJ]
   rw[List.set_eq_take_append_cons_drop,if_pos hc]
noncomputable def v9 (xs:List Rt)(T:Nat->Nat)(c:Nat):D:=match(Y9 xs.length).find? (λk=>T k == 2&&fA (aB xs k)== some c)with
 |some k=>BO (aB xs k)
 |none=>.int 0
noncomputable def v_ (p:Int)(xs:List Rt)(T:Nat->Nat):List D:=(Y9 p.toNat).map (v9 xs T)
noncomputable def gu (xs:List Rt)(T:Nat->Nat)(k i:Nat):Nat:=if i=k then(if(fA (aB xs k)).isSome then 2 else 1)else if T i=2/\fA (aB xs i)=fA (aB xs k)then 1 else T i
theorem wb (hk:k<xs.length)(c:Nat):v9 xs (gu xs T k) c=if fA (aB xs k)=some c then BO (aB xs k)else v9 xs T c:=by
 unfold v9
 by_cases h:fA (aB xs k)=some c
 . rw[if_pos h]
   have:(Y9 xs.length).find? (λi=>gu xs T k i == 2&&fA (aB xs i)== some c)=some k:=by
    have hi:∀i,(gu xs T k i == 2&&fA (aB xs i)== some c)=true ↔ i=k:=λi=>by
      unfold gu
      by_cases e:i=k
      . subst e;simp[h]
      . simp only[e,if_false,iff_false,ab3,aek]
        by_cases h2:T i=2/\fA (aB xs i)=fA (aB xs k)
        . rw[if_pos h2];exact .inl rfl
        . rw[if_neg h2]
          by_cases h3:T i=2
          . refine .inr ?_
            simp only[h]at h2
            simp
            exact λz=>h2 ⟨h3,z⟩
          . refine .inl ?_;simp[h3]
    cases hf:(Y9 xs.length).find? (λi=>gu xs T k i == 2&&fA (aB xs i)== some c)with
    |none =>
      rw[ae4]at hf
      exact absurd ((hi k).mpr rfl) (hf k (Zm.mpr hk))
    |some j =>
      have:=acf hf
      rw[(hi j).mp this]
   rw[this]
 . rw[if_neg h]
   have:∀i,(gu xs T k i == 2&&fA (aB xs i)== some c)=(T i == 2&&fA (aB xs i)== some c):=λi=>by
    by_cases h2:fA (aB xs i)=some c
    . simp only[h2,beq_self_eq_true,adi]
      unfold gu
      by_cases e:i=k
      . subst e;exact absurd h2 h
      . rw[if_neg e,if_neg]
        intro z
        rw[h2]at z
        exact h z.2.symm
    . have:(fA (aB xs i)== some c)=false:=by simpa using h2
      simp[this]
   simp only[this]
theorem Path.tags (p0:0<=p)(hx:∀x∈xs,bH p x)(h:Path xs p ks r):∃T:Nat->Nat,(∀i,T i<3)/\r.1=bT xs.length T/\r.2=v_ p xs T:=by
 induction h with
 |nil =>
  refine⟨λ_=>0,λ_=>by show 0<3;omega,?_,?_⟩
  . refine aaZ λi=>?_
    rw[m8];simp
  . unfold v_ zs
    refine aaO (by simp) λi h1 h2=>?_
    have e:(Y9 xs.length).find? (λ_=>false)=none:=by rw[ae4];intro _ _;simp
    simp[v9,e]
 | @snoc ks r k h hk hc ih =>
  obtain⟨T,h1,h2,h3⟩:=ih
  refine⟨gu xs T k,λi=>?_,?_,?_⟩
  . unfold gu
    have:=h1 i
    split
    . split<;>omega
    . split<;>omega
  . refine aaZ λi=>?_
    rw[jv,h2,m8,m8]
    unfold gu
    by_cases e:i=k
    . subst e
      have:(if(fA (aB xs i)).isSome=true then 2 else 1)≠0:=by split<;>omega
      simp[hk,this]
    . simp only[e,if_false,decide_false,acw]
      congr 1
      refine decide_eq_decide.mpr ?_
      split<;>omega
  . have hd:=(hx _ (b8 hk)).r.dd
    have hl:(r.2.length:Int)=p:=by rw[h3];simp[v_];omega
    show cJ r.2 (aB xs k).1.dd=_
    rw[D_ hd hl,h3]
    unfold v_
    cases hp:fA (aB xs k)with
    |none =>
      refine aa5 λc _=>?_
      rw[wb hk,hp]
      simp
    |some c0 =>
      refine aaO (by simp) λi a b=>?_
      simp only[List.getElem_set,afJ,List.getElem_range]
      rw[wb hk,hp]
      by_cases e:c0=i
      . subst e;simp
      . simp[e]
theorem jR (a b:Nat):ZJ (a:Int) (b:Int)=((a &&& b:Nat):Int):=by
 have h1:decide ((0:Int)<=(a:Int))=true:=by simp
 have h2:decide ((0:Int)<=(b:Int))=true:=by simp
 unfold ZJ
 rw[h1,h2]
 simp
theorem IL (a b:Nat):abC (a:Int) (b:Int)=((a ||| b:Nat):Int):=by
 have e:∀x:Nat,(aaT (aaT (x:Int))).toNat=x:=λx=>by unfold aaT;omega
 have h1:∀x:Nat,decide ((0:Int)<=aaT (x:Int))=false:=λx=>by unfold aaT;simp;omega
 unfold abC
 have:ZJ (aaT (a:Int)) (aaT (b:Int))=aaT (((a ||| b:Nat):Nat):Int):=by
  unfold ZJ
  rw[h1,h1,e,e]
 rw[this]
 unfold aaT
 omega
noncomputable def bF (n:Nat)(f:Nat->Bool):Nat:=bT n λi=>if f i then 1 else 0
theorem m9 (f:Nat->Bool)(i n:Nat):(bF n f).testBit i=(decide (i<n)&&f i):=by
 unfold bF
 rw[m8]
 cases f i<;>simp
theorem PC (f:Nat->Bool)(n:Nat):bF n f<2 ^ n:=acg _ λi hi=>by
 rw[m9]
 have:¬i<n:=by omega
 simp[this]
theorem lL (f:Nat->Bool):∀n,((((Y9 n).filter f).map λk=>(2:Nat) ^ k).sum)=bF n f
 | 0=>rfl
 |n+1=>by
  rw[List.range_succ,adb,aat,List.sum_append,lL f n]
  have hl:=PC f n
  have e:bF (n+1) f=bF n f ||| (if f n then 1 <<< n else 0):=by
   unfold bF
   simp only[bT]
   by_cases t_:f n=true<;>simp[t_]
  rw[e]
  cases hf:f n with
  |false=>simp[hf]
  |true =>
   have:=Nat.two_pow_add_eq_or_of_lt hl 1
   simp only[Nat.mul_one]at this
   rw[abQ]
   simp[hf]
   rw[aeS,this,Nat.or_comm]
theorem rH (b k:Nat):(b &&& 2 ^ k=0)↔ b.testBit k=false:=by
 constructor
 . intro h
   have:=congrArg (λx=>x.testBit k) h
   simpa[acW,abB]using this
 . intro h
   refine aaZ λi=>?_
   rw[acW,abB]
   by_cases e:k=i
   . subst e;simp[h]
   . simp[e]
theorem IM (a b:Nat):(b &&& a=a)↔ ∀i,a.testBit i=true->b.testBit i=true:=by
 constructor
 . intro h i hi
   rw[<- h,acW]at hi
   simp at hi
   exact hi.1
 . intro h
   refine aaZ λi=>?_
   rw[acW]
   cases hi:a.testBit i with
   |false=>simp
   |true=>simp[h i hi]
theorem BP (f:Nat->Bool)(b n:Nat):(b &&& bF n f=bF n f)↔ ((Y9 n).filter f).all (λi=>b.testBit i)=true:=by
 rw[IM,Zi]
 constructor
 . intro h i hi
   obtain⟨h1,h2⟩:=Zt.mp hi
   exact h i (by rw[m9];simp[Zm.mp h1,h2])
 . intro h i hi
   rw[m9]at hi
   simp at hi
   exact h i (Zt.mpr ⟨Zm.mpr hi.1,hi.2⟩)
noncomputable def qo:FS:=aF (ao ly (aa (bh aY (bQ (af 0)) [none,none] (gN 1) aQ (aq (aR cM (λi j=>i*2 ^ j.toNat)) (fC (.int 1)) (af 1))) ag))
noncomputable def wc (bits:Fn):FS:=aF (ao bits (aa (bh aY (fP (af 0)) [none,none,none] (gT 2 (au (gN 1) (au (gN 2) aP))) (aH (aq cF (aq ay (af 2) (fC (.int 3))) (fC .aA))) (af 1)) ag))
theorem qp {k:Nat}(h:k<=1000):cM 1 (k:Int)=true:=by
 show(abE k 1000000&&abE (1:Int).natAbs 18446744073709551615)=true
 rw[Nat.ble_eq.mpr (by omega:k<=1000000)]
 decide
theorem wd (ks:List Nat):(ks.map λk=>((2 ^ k:Nat):Int)).sum=(((ks.map λk=>2 ^ k).sum:Nat):Int):=by
 induction ks with
 |nil=>rfl
 |cons k ks ih=>simp only[Zw,adm,ih];omega
noncomputable def m_ (f:Fn):Prop:=∀ks g,(∀k∈ks,k<=1000)->ks.length<=1000->f [.lst (kD ks)] g=some (.int (((ks.map λk=>2 ^ k).sum:Nat):Int),g)
theorem IP:m_ (aD false 1 1 qo):=λks g hk hl=>by
 refine bS (σ':=[some (.lst (kD ks))]) rfl ?_ rfl
 have hz:aG ks.length=true:=aL (by omega)
 have kl:(kD ks).length=ks.length:=by simp[kD]
 have c1:=dW (f:=λ(i:Nat)=>D.int i) (t:=gN 1) (c:=aQ) (e:=aq (aR cM (λi j=>i*2 ^ j.toNat)) (fC (.int 1)) (af 1)) (h:=λ(i:Nat)=>D.int ((2 ^ i:Nat):Int)) (λσ=>∃a,σ = [none,a]) ks [none,none] g ⟨_,rfl⟩ (by
  rintro i hm σ ⟨a,rfl⟩
  refine⟨[none,some (.int i)],by simp,by simp,?_,⟨_,rfl⟩⟩
  have:=qp (hk i hm)
  simp[aR,this])
 have c2:bZ (gN 1) aQ (aq (aR cM (λi j=>i*2 ^ j.toNat)) (fC (.int 1)) (af 1)) (kD ks) [none,none] g=some ((ks.map λk=>((2 ^ k:Nat):Int)).map D.int,g):=by rw[Z2];exact c1
 have sb:∀σ:Sg,bL [none,none] σ = [none,none]:=λ_=>rfl
 have i1:=mZ (ks.map λk=>((2 ^ k:Nat):Int))
 rw[<- wd]
 generalize (ks.map λk=>((2 ^ k:Nat):Int))=ns at *
 simp[qo,sb,c2,kl,hz,i1]
theorem zD {f:Rt->Bool}(xs:List Rt):(xs.zipIdx.filter λy=>f y.1).map (·.2)=(Y9 xs.length).filter λi=>f (aB xs i):=by
 have:xs.zipIdx=(Y9 xs.length).map λi=>(aB xs i,i):=by
  refine aaO (by simp) λi h1 h2=>?_
  have hi:i<xs.length:=by simpa using h1
  simp[aB,hi]
 rw[this,List.filter_map,Z2]
 simp[aar]
noncomputable def i8 (xs:List Rt):Nat:=bF xs.length λi=>(aB xs i).1.e.isSome
noncomputable def tS (f:Fn):Prop:=∀xs g,xs.length<=100->f [.tup (xs.map rt)] g=some (.int (i8 xs),g)
theorem MQ {b:Fn}(hb:m_ b):tS (aD false 1 1 (wc b)):=λxs g hl=>by
 refine bS (σ':=[some (.tup (xs.map rt))]) rfl ?_ rfl
 have hz:aG (dH (xs.map rt)).length=true:=aL (by simp[dH];omega)
 have c1:=gQ (f:=λy:Rt×Nat=>.tup [.int (y.2:Nat),rt y.1]) (t:=gT 2 (au (gN 1) (au (gN 2) aP))) (c:=aH (aq cF (aq ay (af 2) (fC (.int 3))) (fC .aA))) (e:=af 1) (cB:=λy=>y.1.1.e.isSome) (h:=λy=>D.int (y.2:Nat)) (λσ=>∃a b,σ = [none,a,b]) xs.zipIdx [none,none,none] g ⟨_,_,rfl⟩ (by
  rintro⟨y,i⟩ hm σ ⟨a,b,rfl⟩
  refine⟨[none,some (.int i),some (rt y)],by simp,?_,λ_=>by simp,⟨_,_,rfl⟩⟩
  cases he:y.1.e<;>simp[rt,zy,he,eD,isLit,dG])
 rw[<- rC]at c1
 have sb:∀σ:Sg,bL [none,none,none] σ = [none,none,none]:=λ_=>rfl
 have e2:(xs.zipIdx.filter λy=>y.1.1.e.isSome).map (λy=>D.int (y.2:Nat))=kD ((Y9 xs.length).filter λi=>(aB xs i).1.e.isSome):=by
  rw[<- zD (f:=λx=>x.1.e.isSome)]
  simp[kD,aar]
 rw[e2]at c1
 have Fo:=hb ((Y9 xs.length).filter λi=>(aB xs i).1.e.isSome) g (λk hk=>by
  have:=Zm.mp (Zt.mp hk).1
  omega) (by have:=Z8 (λi=>(aB xs i).1.e.isSome) (Y9 xs.length);simp at this;omega)
 rw[lL]at Fo
 generalize kD ((Y9 xs.length).filter λi=>(aB xs i).1.e.isSome)=kk at *
 simp[wc,sb,c1,hz,Fo,i8]
theorem x9 (xs:List Rt)(b:Nat):(b &&& i8 xs=i8 xs)↔ eJ xs b=true:=by
 unfold i8
 rw[BP]
 unfold eJ
 have:xs.zipIdx=(Y9 xs.length).map λi=>(aB xs i,i):=by
  refine aaO (by simp) λi h1 h2=>?_
  have hi:i<xs.length:=by simpa using h1
  simp[aB,hi]
 rw[this,af0,acO]
 have e:(λi=>!(aB xs i).1.e.isSome||b.testBit i)=((λy:Rt×Nat=>y.1.1.e.isNone||b.testBit y.2) ∘ λi=>(aB xs i,i)):=by
  funext i
  cases h:(aB xs i).1.e<;>simp[h]
 rw[e]
noncomputable def rD (r:aO):D:=.tup [.int (r.1:Nat),.tup r.2]
noncomputable def gy (xs:List Rt)(i:Nat):D:=.tup [.int (i:Nat),.int ((bF xs.length λo=>dJ (aB xs o) (aB xs i):Nat):Int),rt (aB xs i)]
noncomputable def fB (xs:List Rt):List D:=(Y9 xs.length).map (gy xs)
noncomputable def FL (ahead:Fn):FS:=aC (bh aY (fP (af 0)) [none,none,none,some 3] (gT 2 (au (gN 1) (au (gN 2) aP))) (bW (ao ahead (aa (af 2) (aa (af 3) ag)))) (af 1)) (gN 4)
noncomputable def FN (bits:Fn):FS:=cX (cq isRef b7 (af 1) (aa (aK aJ (aa (af 2) (aa (ao bits (aa (af 4) ag)) (aa (af 3) ag)))) ag))
noncomputable def qr (ahead bits:Fn):FS:=aw (aC (aK mkRef ag) (gN 1)) (aw (cS (fP (af 0)) (gT 2 (au (gN 2) (au (gN 3) aP))) (aw (FL ahead) (FN bits))) (aF (af 1)))
theorem BQ (xs:List Rt):xs.zipIdx=(Y9 xs.length).map λi=>(aB xs i,i):=by
 refine aaO (by simp) λi h1 h2=>?_
 have hi:i<xs.length:=by simpa using h1
 simp[aB,hi]
theorem x_ (xs:List Rt):dH (xs.map rt)=(Y9 xs.length).map λi=>.tup [.int (i:Nat),rt (aB xs i)]:=by
 rw[rC,BQ,Z2]
 rfl
theorem MS (ha:iG p ah)(hx:∀x∈xs,bH p x)(hl:xs.length<=100)(hk:k<xs.length):
  FL ah [some (.tup (xs.map rt)),o1,o2,some (rt (aB xs k)),o4] g=some (.nx,[some (.tup (xs.map rt)),o1,o2,some (rt (aB xs k)),some (.lst (kD (early xs k)))],g):=by
 have hz:aG (dH (xs.map rt)).length=true:=aL (by simp[dH];omega)
 have c1:=gQ (f:=λi:Nat=>.tup [.int (i:Nat),rt (aB xs i)]) (t:=gT 2 (au (gN 1) (au (gN 2) aP))) (c:=bW (ao ah (aa (af 2) (aa (af 3) ag)))) (e:=af 1) (cB:=λi=>dJ (aB xs i) (aB xs k)) (h:=λ(i:Nat)=>D.int i) (λσ=>∃a b,σ = [none,a,b,some (rt (aB xs k))]) (Y9 xs.length) [none,none,none,some (rt (aB xs k))] g ⟨_,_,rfl⟩ (by
  rintro i hm σ ⟨a,b,rfl⟩
  have:=ha (rt (aB xs i)) (rt (aB xs k)) g (hx _ (b8 (Zm.mp hm))).row (hx _ (b8 hk)).row
  refine⟨[none,some (.int i),some (rt (aB xs i)),some (rt (aB xs k))],by simp,?_,λ_=>by simp,⟨_,_,rfl⟩⟩
  simp[this,dJ])
 rw[<- x_]at c1
 have sb:∀a b c:Option D,bL [none,none,none,some 3] [a,b,c,some (rt (aB xs k)),o4]= [none,none,none,some (rt (aB xs k))]:=λ_ _ _=>rfl
 have c2:bZ (gT 2 (au (gN 1) (au (gN 2) aP))) (bW (ao ah (aa (af 2) (aa (af 3) ag)))) (af 1) (dH (xs.map rt)) [none,none,none,some (rt (aB xs k))] g=some (kD (early xs k),g):=c1
 simp[FL,sb,c2,hz]
theorem FP (ha:iG p ah)(hb:m_ bi)(hx:∀x∈xs,bH p x)(hl:xs.length<=100):∀(rest:List Nat) (acc:List D) (o2 o3 o4:Option D),(∀k∈rest,k<xs.length)->acc.length+rest.length<=200 ->
  ∃σ',σ'[1]? = some (some (.ref g.length))/\forL (gT 2 (au (gN 2) (au (gN 3) aP))) (aw (FL ah) (FN bi)) (rest.map λi=>.tup [.int (i:Nat),rt (aB xs i)]) [some (.tup (xs.map rt)),some (.ref g.length),o2,o3,o4] (g ++ [acc])=some (.nx,σ',g ++ [acc++rest.map (gy xs)])
 | [],acc,o2,o3,o4,_,_=>⟨[some (.tup (xs.map rt)),some (.ref g.length),o2,o3,o4],rfl,by simp[forL]⟩
 |k::rest,acc,o2,o3,o4,h,hs=>by
  have hk:=h k (by simp)
  have e1:=MS ha (g:=g ++ [acc]) (o1:=some (.ref g.length)) (o2:=some (.int k)) (o4:=o4) hx hl hk
  have Xa:(early xs k).length<=100:=by
   have:=Z8 (λo=>dJ (aB xs o) (aB xs k)) (Y9 xs.length)
   simp at this
   unfold early
   omega
  have e2:=hb (early xs k) (g ++ [acc]) (λj hj=>by
   have:=Zm.mp (Zt.mp hj).1
   omega) (by omega)
  have e3:((early xs k).map λk=>2 ^ k).sum=bF xs.length λo=>dJ (aB xs o) (aB xs k):=lL _ _
  rw[e3]at e2
  have hz:aG (acc.length+1)=true:=aL (by simp at hs;omega)
  obtain⟨σ',s1,ih⟩:=FP ha hb (g:=g) hx hl rest (acc ++ [gy xs k]) (some (.int k)) (some (rt (aB xs k))) (some (.lst (kD (early xs k)))) (λj hj=>h j (by simp[hj])) (by simp at hs ⊢;omega)
  refine⟨σ',s1,?_⟩
  have e4:FN bi [some (.tup (xs.map rt)),some (.ref g.length),some (.int k),some (rt (aB xs k)),some (.lst (kD (early xs k)))] (g ++ [acc])=some (.nx,[some (.tup (xs.map rt)),some (.ref g.length),some (.int k),some (rt (aB xs k)),some (.lst (kD (early xs k)))],g ++ [acc ++ [gy xs k]]):=by
   simp[FN,e2,hz,gy]
  rw[show acc++(k::rest).map (gy xs)=(acc ++ [gy xs k])++rest.map (gy xs) by simp,<- ih]
  simp[forL,e1,e4]
noncomputable def qs (p:Int)(f:Fn):Prop:=∀xs g,(∀x∈xs,bH p x)->xs.length<=100->Clean g->f [.tup (xs.map rt)] g=some (.lst (fB xs),g)
theorem IQ (ha:iG p ah)(hb:m_ bi):qs p (aD false 5 1 (qr ah bi)):=λxs g hx hl hc=>by
 have key:wp (aD false 5 1 (qr ah bi) [.tup (xs.map rt)] g) λr=>r=(.lst (fB xs),g):=by
  refine rg rfl ?_
  obtain⟨σ',s1,e⟩:=FP ha hb (g:=g) hx hl (Y9 xs.length) [] none none none (λk hk=>Zm.mp hk) (by simp;omega)
  rw[<- x_,aam]at e
  have e':qr ah bi [some (.tup (xs.map rt)),none,none,none,none] g=some (.rt (.ref g.length),σ',g ++ [fB xs]):=by
   simp[qr,e,s1,fB]
  refine⟨_,e',g.length,fB xs,rfl,Za _,by simp,cH λd hd=>?_,by simpa using hc.all _,by simp⟩
  obtain⟨k,hk,rfl⟩:=Zc.mp hd
  have:=bH.bB (hx _ (b8 (Zm.mp hk))) g.length
  simp[gy,bB,aW,this]
 obtain⟨r,e,rfl⟩:=key
 exact e
noncomputable def BR:FS:=aC (aq (aR cM (λi j=>i*2 ^ j.toNat)) (fC (.int 1)) (af 4)) (gN 7)
noncomputable def we (fits:Fn):FT:=i4 (aH (aq oEq (aq (aR bp ZJ) (af 1) (af 7)) (fC (.int 0)))) (i4 (aH (aq oEq (aq (aR bp ZJ) (af 1) (af 5)) (af 5))) (bW (ao fits (aa (af 6) (aa (af 2) ag)))))
noncomputable def BS (behind:Fn):FS:=cX (cq isRef b7 (af 3) (aa (aK aJ (aa (af 4) (aa (aK aJ (aa (aq (aR bp abC) (af 1) (af 7)) (aa (ao behind (aa (af 6) (aa (af 2) ag))) ag))) ag))) ag))
noncomputable def nJ (fits behind:Fn):FS:=aw (aC (aK mkRef ag) (gN 3)) (aw (cS (bQ (af 0)) (gT 3 (au (gN 4) (au (gN 5) (au (gN 6) aP)))) (aw BR (bK (we fits) (BS behind) aN))) (aF (af 3)))
noncomputable def jS (xs:List Rt)(r:aO)(k:Nat):D:=.tup [.int (k:Nat),rD (bM xs r k)]
noncomputable def nc (xs:List Rt)(r:aO):List D:=((Y9 xs.length).filter (dD xs r)).map (jS xs r)
noncomputable abbrev S8 (xs:List Rt)(r:aO)(m:Nat)(o4 o5 o6 o7:Option D):Sg:=[some (.lst (fB xs)),some (.int (r.1:Nat)),some (.tup r.2),some (.ref m),o4,o5,o6,o7]
theorem MT {xs:List Rt}{r:aO}{m k:Nat}{g:G}{o5 o6 o7:Option D}(hk:k<=1000):BR (S8 xs r m (some (.int k)) o5 o6 o7) g=some (.nx,S8 xs r m (some (.int k)) o5 o6 (some (.int ((2 ^ k:Nat):Int))),g):=by
 have:=qp hk
 simp[BR,aR,this]
theorem MU {fi:Fn}{p:Int}(hf:jN p fi){xs:List Rt}{r:aO}{m k:Nat}{g:G}(hx:∀x∈xs,bH p x)(hs:St p r.2)(hk:k<xs.length):
  we fi (S8 xs r m (some (.int k)) (some (.int ((bF xs.length λo=>dJ (aB xs o) (aB xs k):Nat):Int))) (some (rt (aB xs k))) (some (.int ((2 ^ k:Nat):Int)))) g=some (dD xs r k,g):=by
 have e1:=hf (aB xs k) r.2 g (hx _ (b8 hk)) hs
 have a1:=jR r.1 (2 ^ k)
 have a2:=jR r.1 (bF xs.length λo=>dJ (aB xs o) (aB xs k))
 have c1:decide (((r.1 &&& 2 ^ k:Nat):Int)=0)= !r.1.testBit k:=by
  cases h:r.1.testBit k with
  |false=>have:=(rH r.1 k).mpr h;rw[this];rfl
  |true =>
   simp only[Zj,decide_eq_false_iff_not]
   intro z
   have z':r.1 &&& 2 ^ k=0:=by omega
   rw[(rH r.1 k).mp z']at h
   cases h
 have c2:decide (((r.1 &&& (bF xs.length λo=>dJ (aB xs o) (aB xs k)):Nat):Int)=((bF xs.length λo=>dJ (aB xs o) (aB xs k):Nat):Int))=((early xs k).all λo=>r.1.testBit o):=by
  have:=BP (λo=>dJ (aB xs o) (aB xs k)) r.1 xs.length
  cases h:((early xs k).all λo=>r.1.testBit o)with
  |true =>
   have:=this.mpr h
   rw[this];simp
  |false =>
   simp only[decide_eq_false_iff_not]
   intro z
   have z':r.1 &&& (bF xs.length λo=>dJ (aB xs o) (aB xs k))=bF xs.length λo=>dJ (aB xs o) (aB xs k):=by omega
   rw[show(early xs k).all (λo=>r.1.testBit o)=true from this.mp z']at h
   cases h
 generalize (bF xs.length λo=>dJ (aB xs o) (aB xs k))=bb at *
 have q1:oEq (.int ((r.1 &&& 2 ^ k:Nat):Int)) (.int 0) g=some (.bl (!r.1.testBit k),g):=by
  unfold oEq
  rw[fL,c1]
  simp[flat,dep]
 have q2:oEq (.int ((r.1 &&& bb:Nat):Int)) (.int (bb:Int)) g=some (.bl ((early xs k).all λo=>r.1.testBit o),g):=by
  unfold oEq
  rw[fL,c2]
  simp[flat,dep]
 unfold dD
 generalize ((early xs k).all λo=>r.1.testBit o)=b2 at *
 generalize (r.1 &&& bb)=ab at *
 generalize (r.1 &&& 2 ^ k)=ak at *
 generalize 2 ^ k=tk at *
 cases h1:r.1.testBit k with
 |true=>rw[h1]at q1;simp[we,aR,bp,a1,q1]
 |false =>
  rw[h1]at q1
  cases b2 with
  |false =>
   have MV:=of_decide_eq_false c2
   simp[we,aR,bp,a1,q1,a2,MV]
  |true =>
   have MV:=of_decide_eq_true c2
   cases h3:qg (aB xs k) r.2<;>rw[h3]at e1<;>simp[we,aR,bp,a1,q1,a2,MV,e1]
theorem zE {fi be:Fn}{p:Int}(hf:jN p fi)(hb:iH p be){xs:List Rt}{r:aO}{g:G}(hx:∀x∈xs,bH p x)(hl:xs.length<=100)(hs:St p r.2):∀(rest:List Nat) (acc:List D) (o4 o5 o6 o7:Option D),(∀k∈rest,k<xs.length)->acc.length+rest.length<=200 ->
  ∃σ',σ'[3]? = some (some (.ref g.length))/\forL (gT 3 (au (gN 4) (au (gN 5) (au (gN 6) aP)))) (aw BR (bK (we fi) (BS be) aN)) (rest.map (gy xs)) (S8 xs r g.length o4 o5 o6 o7) (g ++ [acc])=some (.nx,σ',g ++ [acc++(rest.filter (dD xs r)).map (jS xs r)])
 | [],acc,o4,o5,o6,o7,_,_=>⟨S8 xs r g.length o4 o5 o6 o7,rfl,by simp[forL]⟩
 |k::rest,acc,o4,o5,o6,o7,h,hsz=>by
  have hk:=h k (by simp)
  have e1:=MT (xs:=xs) (r:=r) (m:=g.length) (g:=g ++ [acc]) (o5:=some (.int ((bF xs.length λo=>dJ (aB xs o) (aB xs k):Nat):Int))) (o6:=some (rt (aB xs k))) (o7:=o7) (show k<=1000 by omega)
  have e2:=MU hf (m:=g.length) (g:=g ++ [acc]) hx hs hk
  have e3:=hb (aB xs k) r.2 (g ++ [acc]) (hx _ (b8 hk)) hs
  have hz:aG (acc.length+1)=true:=aL (by simp at hsz;omega)
  have bo:=IL r.1 (2 ^ k)
  have tg:gT 3 (au (gN 4) (au (gN 5) (au (gN 6) aP))) (gy xs k) (S8 xs r g.length o4 o5 o6 o7) (g ++ [acc])=some (S8 xs r g.length (some (.int k)) (some (.int ((bF xs.length λo=>dJ (aB xs o) (aB xs k):Nat):Int))) (some (rt (aB xs k))) o7,g ++ [acc]):=by
   simp[gy]
  generalize PY:(bF xs.length λo=>dJ (aB xs o) (aB xs k))=bb at *
  cases hc:dD xs r k with
  |false =>
   rw[hc]at e2
   obtain⟨σ',s1,ih⟩:=zE hf hb (g:=g) hx hl hs rest acc (some (.int k)) (some (.int (bb:Int))) (some (rt (aB xs k))) (some (.int ((2 ^ k:Nat):Int))) (λj hj=>h j (by simp[hj])) (by simp at hsz;omega)
   refine⟨σ',s1,?_⟩
   rw[aay,hc,if_neg (by simp),<- ih,Zw]
   simp only[forL,tg,Zb,cP,e1,iV,e2]
   simp
  |true =>
   rw[hc]at e2
   obtain⟨σ',s1,ih⟩:=zE hf hb (g:=g) hx hl hs rest (acc ++ [jS xs r k]) (some (.int k)) (some (.int (bb:Int))) (some (rt (aB xs k))) (some (.int ((2 ^ k:Nat):Int))) (λj hj=>h j (by simp[hj])) (by simp at hsz ⊢;omega)
   refine⟨σ',s1,?_⟩
   have e4:BS be (S8 xs r g.length (some (.int k)) (some (.int (bb:Int))) (some (rt (aB xs k))) (some (.int ((2 ^ k:Nat):Int)))) (g ++ [acc])=some (.nx,S8 xs r g.length (some (.int k)) (some (.int (bb:Int))) (some (rt (aB xs k))) (some (.int ((2 ^ k:Nat):Int))),g ++ [acc ++ [jS xs r k]]):=by
    generalize Xn:2 ^ k=tk at *
    have ey:jS xs r k = .tup [.int (k:Nat),.tup [.int ((r.1 ||| tk:Nat):Int),.tup (cJ r.2 (aB xs k).1.dd)]]:=by
     simp[jS,rD,bM,abQ,Xn]
    rw[ey]
    simp[BS,aR,bp,bo,e3,hz]
   rw[aay,hc,if_pos rfl,show acc++(k::rest.filter (dD xs r)).map (jS xs r)=(acc ++ [jS xs r k])++(rest.filter (dD xs r)).map (jS xs r) by simp,<- ih,Zw]
   simp only[forL,tg,Zb,cP,e1,iV,e2,e4]
   simp[e4]
noncomputable def jw (p:Int)(f:Fn):Prop:=∀xs r g,(∀x∈xs,bH p x)->xs.length<=100->St p r.2->Clean g->f [.lst (fB xs),.int (r.1:Nat),.tup r.2] g=some (.lst (nc xs r),g)
theorem wg (h:St p st)(n:Nat):bB n (.tup st)=true:=(qa (St.B h)).2 n
theorem Ea (hf:jN p fi)(hb:iH p be):jw p (aD false 8 3 (nJ fi be)):=λxs r g hx hl hs hc=>by
 have key:wp (aD false 8 3 (nJ fi be) [.lst (fB xs),.int (r.1:Nat),.tup r.2] g) λq=>q=(.lst (nc xs r),g):=by
  refine rg rfl ?_
  obtain⟨σ',s1,e⟩:=zE hf hb (g:=g) hx hl hs (Y9 xs.length) [] none none none none (λk hk=>Zm.mp hk) (by simp;omega)
  rw[aam]at e
  have e0:forL (gT 3 (au (gN 4) (au (gN 5) (au (gN 6) aP)))) (aw BR (bK (we fi) (BS be) aN)) (fB xs) [some (.lst (fB xs)),some (.int (r.1:Nat)),some (.tup r.2),some (.ref g.length),none,none,none,none] (g ++ [[]])=some (.nx,σ',g ++ [nc xs r]):=e
  have e':nJ fi be [some (.lst (fB xs)),some (.int (r.1:Nat)),some (.tup r.2),none,none,none,none,none] g=some (.rt (.ref g.length),σ',g ++ [nc xs r]):=by
   simp[nJ,e0,s1]
  refine⟨_,e',g.length,nc xs r,rfl,Za _,by simp,cH λd hd=>?_,by simpa using hc.all _,by simp⟩
  obtain⟨k,hk,rfl⟩:=Zc.mp hd
  have pv:=Zm.mp (Zt.mp hk).1
  have h1:=wg (St.put hs (hx _ (b8 pv)).r.dd) g.length
  simp[bB]at h1
  simp[jS,rD,bM,bB,aW,h1]
 obtain⟨q,e,rfl⟩:=key
 exact e
theorem rJ (h:mP d=true):∃i:Int,d = .int i:=by
 unfold mP within at h
 split at h
 . exact⟨_,rfl⟩
 . cases h
theorem rK {P:D->Prop}(h:∀d e,P d->P e->(aI d e=true ↔ d=e)):∀(xs ys:List D),(∀x∈xs,P x)->(∀y∈ys,P y)->(c_ xs ys=true ↔ xs=ys)
 | [],[],_,_=>by simp[c_]
 | [],_::_,_,_=>by simp[c_]
 |_::_,[],_,_=>by simp[c_]
 |x::xs,y::ys,h1,h2=>by
  have ih:=rK h xs ys (λz hz=>h1 z (by simp[hz])) (λz hz=>h2 z (by simp[hz]))
  have h0:=h x y (h1 x (by simp)) (h2 y (by simp))
  show(aI x y&&c_ xs ys)=true ↔ _
  rw[Y3,h0,ih,adW]
theorem wk:aI (.tup xs) (.tup ys)=c_ xs ys:=by simp only[aI]
theorem MW:aI (.int i) (.tup ys)=false:=by simp[aI]
theorem MX:aI (.tup ys) (.int i)=false:=by simp[aI]
theorem ky (h:isVal (n+1) d=true):(∃i:Int,d = .int i) \/ ∃xs,d = .tup xs /\ ∀x∈xs,isVal n x=true:=by
 cases d with
 |tup xs =>
  simp only[isVal,Y3,Zi]at h
  exact .inr ⟨xs,rfl,h.2⟩
 |int i=>exact .inl ⟨i,rfl⟩
 |_=>simp[isVal,mP,within]at h
theorem ya:∀(n:Nat) (d e:D),isVal n d=true->isVal n e=true->(aI d e=true ↔ d=e)
 | 0,d,e,h1,h2=>by
  obtain⟨i,rfl⟩:=rJ h1
  obtain⟨j,rfl⟩:=rJ h2
  rw[fL];simp
 |n+1,d,e,h1,h2=>by
  rcases ky h1 with⟨i,rfl⟩|⟨xs,rfl,hx⟩<;>rcases ky h2 with⟨j,rfl⟩|⟨ys,rfl,hy⟩
  . rw[fL];simp
  . rw[MW];simp
  . rw[MX];simp
  . rw[wk,rK (P:=λd=>isVal n d=true) (λd e=>ya n d e) xs ys hx hy];simp
theorem yb:∀(n m:Nat) (d:D),isVal n d=true->n<=m->bC (m+1) d=true
 | 0,m,d,h,_=>by obtain⟨i,rfl⟩:=rJ h;simp[bC]
 |n+1,m,d,h,hm=>by
  rcases ky h with⟨i,rfl⟩|⟨xs,rfl,hx⟩
  . simp[bC]
  . obtain⟨m',rfl⟩:∃m',m=m'+1:=⟨m-1,by omega⟩
    have:∀ys:List D,(∀y∈ys,isVal n y=true)->fq (m'+1) ys=true:=λys=>by
     induction ys with
     |nil=>intro _;simp[fq]
     |cons y ys ih=>intro hy;simp[fq,yb n m' y (hy y (by simp)) (by omega),ih λz hz=>hy z (by simp[hz])]
    simpa[bC]using this xs hx
noncomputable def Rm (p:Int)(r:aO):Prop:=St p r.2
theorem zF (hr:Rm p r)(hs:Rm p s):aI (rD r) (rD s)=true ↔ r=s:=by
 obtain⟨b,st⟩:=r
 obtain⟨c,su⟩:=s
 have h1:=rK (P:=λd=>isVal 3 d=true) (λd e=>ya 3 d e) st su hr.2 hs.2
 have e1:aI (rD (b,st)) (rD (c,su))=(decide ((b:Int)=(c:Int))&&c_ st su):=by
   show aI (.tup [.int (b:Nat),.tup st]) (.tup [.int (c:Nat),.tup su])=_
   rw[wk]
   show(aI (.int (b:Nat)) (.int (c:Nat))&&(aI (.tup st) (.tup su)&&c_ [] []))=_
   rw[fL,wk]
   simp[c_]
 rw[e1,Y3,h1,decide_eq_true_eq,Prod.mk.injEq]
 constructor
 . rintro⟨h2,h3⟩;exact⟨by omega,h3⟩
 . rintro⟨rfl,rfl⟩;exact⟨rfl,rfl⟩
theorem kX (hr:Rm p r):bC 6 (rD r)=true:=by
 have:∀ys:List D,(∀y∈ys,isVal 3 y=true)->fq 4 ys=true:=λys=>by
  induction ys with
  |nil=>intro _;simp[fq]
  |cons y ys ih=>intro hy;simp[fq,yb 3 3 y (hy y (by simp)) (by omega),ih λz hz=>hy z (by simp[hz])]
 simp[rD,bC,fq,this r.2 hr.2]
noncomputable def dR:List (aO×D)->List D
 | []=>[]
 |e::r=>rD e.1::e.2::dR r
theorem BU (es:List (aO×D)):(dR es).length=2*es.length:=by
 induction es with
 |nil=>rfl
 |cons e es ih=>simp[dR,ih];omega
theorem yc (es:List (aO×D)):aS (dR es)=es.map λe=>rD e.1:=by
 induction es with
 |nil=>rfl
 |cons e es ih=>simp[dR,aS,ih]
theorem kY:∀{es:List (aO×D)} {r:aO},(∀e∈es,Rm p e.1)->Rm p r->(∀e∈es,e.1≠r)->bf (dR es) (rD r)=none /\ ∀v,cf (dR es) (rD r) v=dR (es ++ [(r,v)])
 | [],r,_,_,_=>⟨rfl,λ_=>rfl⟩
 |e::es,r,h1,h2,h3=>by
  obtain⟨i1,i2⟩:=kY (es:=es) (r:=r) (λx hx=>h1 x (by simp[hx])) h2 (λx hx=>h3 x (by simp[hx]))
  have:aI (rD e.1) (rD r)=false:=by
    cases hq:aI (rD e.1) (rD r)with
    |false=>rfl
    |true=>exact absurd ((zF (h1 e (by simp)) h2).mp hq) (h3 e (by simp))
  constructor
  . simp only[dR,bf,this,Zh,if_false,i1]
  . intro v
    simp only[dR,cf,this,Zh,if_false,i2,aa7]
theorem ng:∀{es:List (aO×D)} {r:aO} {v:D},(∀e∈es,Rm p e.1)->(es.map (·.1)).Nodup->(r,v)∈es->bf (dR es) (rD r)=some v
 |e::es,r,v,h1,hn,hm=>by
  rw[Zw,aaD]at hn
  simp only[dR,bf]
  by_cases hq:e.1=r
  . subst hq
    rw[if_pos ((zF (h1 e (by simp)) (h1 e (by simp))).mpr rfl)]
    rcases Zd.mp hm with he|hm
    . rw[<- he]
    . exact absurd (Zc.mpr ⟨_,hm,rfl⟩) hn.1
  . have mH:(r,v)∈es:=by
      rcases Zd.mp hm with rfl|hm
      . exact absurd rfl hq
      . exact hm
    rw[if_neg (λz=>hq ((zF (h1 e (by simp)) (h1 _ (by simp[mH]:(r,v)∈e::es))).mp z))]
    exact ng (λx hx=>h1 x (by simp[hx])) hn.2 mH
noncomputable def yd:FT:=aH (aq cF (aq ay (af 0) (af 1)) (fC .aA))
noncomputable def FQ:FS:=cX (cq isRef b7 (af 2) (aa (aq ay (aq ay (af 0) (af 1)) (fC (.int 0))) ag))
noncomputable def FR:FS:=aC (aq ay (aq ay (af 0) (af 1)) (fC (.int 1))) (gN 1)
noncomputable def MY:FS:=aF (p6 (af 2))
noncomputable def tT:FS:=aw (aC (aK mkRef ag) (gN 2)) (aw (kG 1000000 yd (aw FQ FR)) MY)
noncomputable def first (p:Int):aO:=(0,zs p)
structure eK (xs:List Rt)(p:Int)(es:List (aO×D)):Prop where
 rm:∀e∈es,Rm p e.1
 nd:(es.map (·.1)).Nodup
 at_:∀(i:Nat) (e:aO×D),es[i]? = some e->(e=(first p,D.aA)) \/ ∃(j:Nat) (r':aO) (v':D) (k:Nat),j<i/\es[j]? = some (r',v')/\k<xs.length/\dD xs r' k=true/\e=(bM xs r' k,D.tup [D.int (k:Nat),rD r'])
theorem MZ (C:eK xs p es)(hm:g[m]? = some (dR es)):∀(i:Nat) (e:aO×D),es[i]? = some e->∃ks,Path xs p ks e.1/\ks.length<=i /\ ∀(f:Nat) (acc:List D),i<f->acc.length+i<=16000000->∃σ',σ'[2]? = some (some (.ref g.length))/\iQ yd (aw FQ FR) f [some (.aM m),some (rD e.1),some (.ref g.length)] (g ++ [acc])=some (.nx,σ',g ++ [acc++(kD ks).reverse]):=by
 intro i
 induction i using af1 with
 |ind i ih =>
 intro e he
 have Fm:m<g.length:=(Y7.mp hm).1
 have FU:∀acc:List D,(g ++ [acc])[m]? = some (dR es):=λacc=>by rw[Zu Fm];exact hm
 have Q3:e∈es:=ZY he
 have hk:=kX (C.rm e Q3)
 have hg:bf (dR es) (rD e.1)=some e.2:=ng C.rm C.nd Q3
 rcases C.at_ i e he with e0|⟨j,r',v',k,hj,sM,qc,hc,e1⟩
 . refine⟨[],by rw[e0];exact Path.nil,by simp,λf acc hf _=>?_⟩
   obtain⟨f,rfl⟩:∃f',f=f'+1:=⟨f-1,by omega⟩
   refine⟨[some (.aM m),some (rD e.1),some (.ref g.length)],rfl,?_⟩
   have h2:e.2 = .aA:=by rw[e0]
   have ht:yd [some (.aM m),some (rD e.1),some (.ref g.length)] (g ++ [acc])=some (false,g ++ [acc]):=by
    simp[yd,FU,hk,hg,h2,isLit,dG]
   simp[iQ,ht,kD]
 . obtain⟨ks,p1,p2,p3⟩:=ih j hj (r',v') sM
   subst e1
   refine⟨ks ++ [k],Path.snoc p1 qc hc,by simp;omega,λf acc hf hs=>?_⟩
   obtain⟨f,rfl⟩:∃f',f=f'+1:=⟨f-1,by omega⟩
   obtain⟨σ',s1,s2⟩:=p3 f (acc ++ [.int (k:Nat)]) (by omega) (by simp;omega)
   refine⟨σ',s1,?_⟩
   have ht:yd [some (.aM m),some (rD (bM xs r' k)),some (.ref g.length)] (g ++ [acc])=some (true,g ++ [acc]):=by
    simp[yd,FU,hk,hg,isLit,dG]
   have hz:aG (acc.length+1)=true:=by unfold aG;exact decide_eq_true (by omega)
   have ha:FQ [some (.aM m),some (rD (bM xs r' k)),some (.ref g.length)] (g ++ [acc])=some (.nx,[some (.aM m),some (rD (bM xs r' k)),some (.ref g.length)],g ++ [acc ++ [.int (k:Nat)]]):=by
    simp[FQ,FU,hk,hg,eW,hz]
   have hr:FR [some (.aM m),some (rD (bM xs r' k)),some (.ref g.length)] (g ++ [acc ++ [.int (k:Nat)]])=some (.nx,[some (.aM m),some (rD r'),some (.ref g.length)],g ++ [acc ++ [.int (k:Nat)]]):=by
    simp[FR,FU,hk,hg,gD]
   rw[show acc++(kD (ks ++ [k])).reverse=(acc ++ [.int (k:Nat)])++(kD ks).reverse by simp[kD],<- s2]
   simp[iQ,ht,ha,hr]
noncomputable def tU (xs:List Rt)(p:Int)(f:Fn):Prop:=∀es g m e,eK xs p es->es.length<=900000->g[m]? = some (dR es)->e∈es->g.all (aW g.length)=true->∃ks,Path xs p ks e.1/\f [.aM m,rD e.1] g=some (.tup (kD ks),g)
theorem M0:tU xs p (aD false 3 2 tT):=λes g m e C hl hm he hc=>by
 obtain⟨i,hi⟩:=Z7.mp he
 have jF:=(Y7.mp hi).1
 obtain⟨ks,p1,p2,p3⟩:=MZ C hm i e hi
 obtain⟨σ',s1,s2⟩:=p3 1000000 [] (by omega) (by simp;omega)
 refine⟨ks,p1,?_⟩
 have key:wp (aD false 3 2 tT [.aM m,rD e.1] g) λq=>q=(.tup (kD ks),g):=by
  refine fO rfl ?_
  rw[aam]at s2
  have hz:aG (kD ks).reverse.length=true:=by unfold aG;exact decide_eq_true (by simp[kD];omega)
  have hx:MY σ' (g ++ [(kD ks).reverse])=some (.rt (.tup (kD ks)),σ',g ++ [(kD ks).reverse]):=by
   simp only[MY,qJ]
   unfold p6
   simp only[kL,s1,Zb,dS]
   have Fw:aG (kD ks).length=true:=by simpa using hz
   simp[Fw]
  have e':tT [some (.aM m),some (rD e.1),none] g=some (.rt (.tup (kD ks)),σ',g ++ [(kD ks).reverse]):=by
   simp[tT,kG,s2,hx]
  refine⟨_,e',by simpa[bB]using (cH λx oW=>by obtain⟨k,_,rfl⟩:=Zc.mp oW;rfl:aW g.length (kD ks)=true),by simpa using hc,by simp,by simp⟩
 obtain⟨q,e',rfl⟩:=key
 exact e'
noncomputable def keys (es:List (aO×D)):List aO:=es.map (·.1)
theorem eK.path (C:eK xs p es):∀(i:Nat) (e:aO×D),es[i]? = some e->∃ks,Path xs p ks e.1:=by
 intro i
 induction i using af1 with
 |ind i ih =>
 intro e he
 rcases C.at_ i e he with e0|⟨j,r',v',k,hj,sM,qc,hc,e1⟩
 . exact⟨[],by rw[e0];exact Path.nil⟩
 . obtain⟨ks,p1⟩:=ih j hj (r',v') sM
   exact⟨ks ++ [k],by rw[e1];exact Path.snoc p1 qc hc⟩
theorem eK.add (C:eK xs p es)(hx:∀x∈xs,bH p x)(hr:r∈keys es)(hk:k<xs.length)(hc:dD xs r k=true)(hn:bM xs r k ∉ keys es):eK xs p (es ++ [(bM xs r k,.tup [.int (k:Nat),rD r])]):=by
 obtain⟨e,he,rfl⟩:=Zc.mp hr
 refine⟨λe' h'=>?_,?_,λi e' h'=>?_⟩
 . rcases Ze.mp h' with h'|h'
   . exact C.rm e' h'
   . simp at h';subst h';exact St.put (C.rm e he) (hx _ (b8 hk)).r.dd
 . rw[aat,aaq]
   refine⟨C.nd,by simp,λa ha b hb z=>?_⟩
   simp at hb
   subst hb;subst z
   exact hn ha
 . by_cases hi:i<es.length
   . rw[Zu hi]at h'
     rcases C.at_ i e' h' with h0|⟨j,r',v',k',h1,h2,h3⟩
     . exact .inl h0
     . exact .inr ⟨j,r',v',k',h1,by rw[Zu (by omega)];exact h2,h3⟩
   . rw[aaA (by omega)]at h'
     have Fs:i-es.length=0:=by
       have:=(Y7.mp h').1
       simp at this;omega
     rw[Fs]at h'
     simp at h'
     obtain⟨j,hj⟩:=Z7.mp he
     have sg:=(Y7.mp hj).1
     exact .inr ⟨j,e.1,e.2,k,by omega,by rw[Zu sg];exact hj,hk,hc,h'.symm⟩
noncomputable def wm:FS:=bK (aH (aq gK (af 9) (af 5))) (aw (aC (aK aJ (aa (af 8) (aa (af 7) ag))) (eU (af 5) (af 9))) (cX (cq isRef b7 (af 6) (aa (af 9) ag)))) aN
noncomputable abbrev dM (p:Int)(xs:List Rt)(n:Nat)(c7 c8 c9:Option D):Sg:=[some (.int p),some (.tup (xs.map rt)),some (.lst (fB xs)),some (.int (i8 xs:Nat)),some (rD (first p)),some (.aM n),some (.ref (n+1)),c7,c8,c9]
structure lM (es bV:List (aO×D))(S S':List aO):Prop where
 ln:bV.length+S.length=es.length+S'.length
 sub:∀v∈keys es,v∈keys bV
 old:∀v∈keys bV,v∈keys es\/v∈S'
 st:∀v∈S,v∈S'
 ss:∀v∈S',v∈S\/v∈keys bV
theorem lM.refl:lM es es S S:=⟨rfl,λ_ h=>h,λ_ h=>.inl h,λ_ h=>h,λ_ h=>.inl h⟩
theorem lM.trans (h1:lM a b S T)(h2:lM b c T U):lM a c S U:=by
 have l1:=h1.ln
 have l2:=h2.ln
 refine⟨by omega,λv h=>h2.sub v (h1.sub v h),λv h=>?_,λv h=>h2.st v (h1.st v h),λv h=>?_⟩
 . rcases h2.old v h with h|h
   . rcases h1.old v h with h|h
     . exact .inl h
     . exact .inr (h2.st v h)
   . exact .inr h
 . rcases h2.ss v h with h|h
   . rcases h1.ss v h with h|h
     . exact .inl h
     . exact .inr (h2.sub v h)
   . exact .inr h
noncomputable def wo (xs:List Rt)(p:Int):Prop:=∀es,eK xs p es->es.length<=900000
theorem inner (hx:∀x∈xs,bH p x)(hl:wo xs p):∀(ks:List Nat) (es:List (aO×D)) (S:List aO) (c8 c9:Option D),(∀k∈ks,k<xs.length/\dD xs r k=true)->eK xs p es->r∈keys es->S.length<=es.length ->
  ∃bV S' BV BW,forL (gT 2 (au (gN 8) (au (gN 9) aP))) wm (ks.map (jS xs r)) (dM p xs g.length (some (rD r)) c8 c9) (g ++ [dR es,S.map rD])=some (.nx,dM p xs g.length (some (rD r)) BV BW,g ++ [dR bV,S'.map rD])/\eK xs p bV/\lM es bV S S' /\ ∀k∈ks,bM xs r k∈keys bV
 | [],es,S,c8,c9,_,C,_,_=>⟨es,S,c8,c9,rfl,C,lM.refl,by simp⟩
 |k::ks,es,S,c8,c9,h,C,hr,hS=>by
  obtain⟨hk,hc⟩:=h k (by simp)
  obtain⟨er,M1,Eb⟩:=Zc.mp hr
  have j8:Rm p r:=by rw[<- Eb];exact C.rm er M1
  have BX:Rm p (bM xs r k):=St.put j8 (hx _ (b8 hk)).r.dd
  have kk:=kX BX
  have a0:(g ++ [dR es,S.map rD])[g.length]? = some (dR es):=by simp
  have a1:∀d:List D,(g ++ [d,S.map rD])[g.length+1]? = some (S.map rD):=λ_=>by simp
  have tg:gT 2 (au (gN 8) (au (gN 9) aP)) (jS xs r k) (dM p xs g.length (some (rD r)) c8 c9) (g ++ [dR es,S.map rD])=some (dM p xs g.length (some (rD r)) (some (.int k)) (some (rD (bM xs r k))),g ++ [dR es,S.map rD]):=by
    simp[jS]
  by_cases hm:bM xs r k∈keys es
  . obtain⟨e,he,BY⟩:=Zc.mp hm
    have hg:bf (dR es) (rD (bM xs r k))=some e.2:=ng C.rm C.nd (by rw[<- BY];exact he)
    have bd:wm (dM p xs g.length (some (rD r)) (some (.int k)) (some (rD (bM xs r k)))) (g ++ [dR es,S.map rD])=some (.nx,dM p xs g.length (some (rD r)) (some (.int k)) (some (rD (bM xs r k))),g ++ [dR es,S.map rD]):=by
      simp[wm,kk,hg]
    obtain⟨bV,S',BV,BW,e1,C',G',h'⟩:=inner hx hl (g:=g) ks es S (some (.int k)) (some (rD (bM xs r k))) (λj hj=>h j (by simp[hj])) C hr hS
    refine⟨bV,S',BV,BW,?_,C',G',λj hj=>?_⟩
    . rw[<- e1,Zw]
      simp only[forL,tg,Zb,bd]
    . rcases Zd.mp hj with rfl|hj
      . exact G'.sub _ hm
      . exact h' j hj
  . obtain⟨hg,hp⟩:=kY (p:=p) C.rm BX (λe he z=>hm (Zc.mpr ⟨e,he,z⟩))
    have hle:=hl es C
    have hs:lX (dR es)=true:=by unfold lX aG;exact decide_eq_true (by rw[BU];omega)
    have hz:aG (S.length+1)=true:=by unfold aG;exact decide_eq_true (by omega)
    have C2:=C.add hx hr hk hc hm
    have bd:wm (dM p xs g.length (some (rD r)) (some (.int k)) (some (rD (bM xs r k)))) (g ++ [dR es,S.map rD])=some (.nx,dM p xs g.length (some (rD r)) (some (.int k)) (some (rD (bM xs r k))),g ++ [dR (es ++ [(bM xs r k,.tup [.int (k:Nat),rD r])]),(S ++ [bM xs r k]).map rD]):=by
      have q1:=hp (.tup [.int (k:Nat),rD r])
      simp[wm,kk,hg,hs,q1,hz,ach]
    have jZ:r∈keys (es ++ [(bM xs r k,.tup [.int (k:Nat),rD r])]):=by unfold keys;rw[aat];exact Ze.mpr (.inl hr)
    obtain⟨bV,S',BV,BW,e1,C',G',h'⟩:=inner hx hl (g:=g) ks _ (S ++ [bM xs r k]) (some (.int k)) (some (rD (bM xs r k))) (λj hj=>h j (by simp[hj])) C2 jZ (by simp;omega)
    have G1:lM es (es ++ [(bM xs r k,.tup [.int (k:Nat),rD r])]) S (S ++ [bM xs r k]):=by
      refine⟨by simp;omega,λv hv=>by unfold keys at *;rw[aat];exact Ze.mpr (.inl hv),λv hv=>?_,λv hv=>Ze.mpr (.inl hv),λv hv=>?_⟩
      . unfold keys at *
        rw[aat]at hv
        rcases Ze.mp hv with hv|hv
        . exact .inl hv
        . exact .inr (Ze.mpr (.inr (by simpa using hv)))
      . rcases Ze.mp hv with hv|hv
        . exact .inl hv
        . refine .inr ?_
          unfold keys
          rw[aat]
          exact Ze.mpr (.inr (by simpa using hv))
    refine⟨bV,S',BV,BW,?_,C',G1.trans G',λj hj=>?_⟩
    . rw[<- e1,Zw]
      simp only[forL,tg,Zb,bd]
    . rcases Zd.mp hj with rfl|hj
      . exact G'.sub _ (by unfold keys;simp)
      . exact h' j hj
noncomputable def M5:FS:=aC (cq isRef ko (af 6) ag) (gN 7)
noncomputable def FV:FT:=aH (aq oEq (aq (aR bp ZJ) (aq ay (af 7) (fC (.int 0))) (af 3)) (af 3))
noncomputable def Q4 (way:Fn):FS:=aF (aK aJ (aa (fC (.str "order")) (aa (ao way (aa (af 5) (aa (af 7) ag))) ag)))
noncomputable def M6 (leads:Fn):FS:=cS (bQ (ao leads (aa (af 2) (aa (aq ay (af 7) (fC (.int 0))) (aa (aq ay (af 7) (fC (.int 1))) ag))))) (gT 2 (au (gN 8) (au (gN 9) aP))) wm
noncomputable def oq:FT:=aH (aq xf (ao cx (aa (af 6) ag)) (fC (.int 0)))
noncomputable def qt (leads way:Fn):FS:=aw M5 (aw (bK FV (Q4 way) aN) (M6 leads))
theorem qu (h:Rm p r)(n:Nat):bB n (rD r)=true:=by
 have h1:=wg h n
 simp[bB]at h1
 simp[rD,bB,aW,h1]
theorem IS {p:Int}{S:List aO}(h:∀v∈S,Rm p v)(n:Nat):aW n (S.map rD)=true:=cH λd hd=>by
 obtain⟨v,hv,rfl⟩:=Zc.mp hd
 exact qu (h v hv) n
theorem BZ (h:d∈dR es):∃e∈es,d=rD e.1\/d=e.2:=by
 induction es with
 |nil=>cases h
 |cons e es ih =>
  simp only[dR,Zd]at h
  rcases h with rfl|rfl|h
  . exact⟨e,by simp,.inl rfl⟩
  . exact⟨e,by simp,.inr rfl⟩
  . obtain⟨e',h1,h2⟩:=ih h
    exact⟨e',by simp[h1],h2⟩
theorem eK.bB (C:eK xs p es)(n:Nat):aW n (dR es)=true:=cH λd hd=>by
 obtain⟨e,he,h⟩:=BZ hd
 rcases h with rfl|rfl
 . exact qu (C.rm e he) n
 . obtain⟨i,hi⟩:=Z7.mp he
   rcases C.at_ i e hi with e0|⟨j,r',v',k,_,sM,_,_,e1⟩
   . rw[e0];rfl
   . have:=qu (C.rm _ (ZY sM)) n
     rw[e1]
     simp[L3.bB,aW]
     exact this
theorem eK.FW (C:eK xs p es)(h:v∈keys es):Rm p v:=by
 obtain⟨e,he,rfl⟩:=Zc.mp h
 exact C.rm e he
theorem M7 (hc:Clean g)(ha:∀n,aW n a=true)(hb:∀n,aW n b=true):Clean (g ++ [a,b]):=λxs hx n=>by
 rcases Ze.mp hx with h|h
 . exact hc xs h n
 . simp at h
   rcases h with rfl|rfl
   . exact ha n
   . exact hb n
structure LI (xs:List Rt)(p:Int)(es:List (aO×D))(S:List aO)(c:Nat):Prop where
 C:eK xs p es
 fs:first p∈keys es
 sk:∀v∈S,v∈keys es
 pr:∀v∈keys es,v∈S\/(eJ xs v.1=false /\ ∀k<xs.length,dD xs v k=true->bM xs v k∈keys es)
 ct:c+S.length=es.length
noncomputable def jT (xs:List Rt)(p:Int)(es:List (aO×D)):Prop:=first p∈keys es /\ ∀v∈keys es,eJ xs v.1=false /\ ∀k<xs.length,dD xs v k=true->bM xs v k∈keys es
theorem jT.no {xs p es}(h:jT xs p es)(hp:Path xs p ks r):r∈keys es/\eJ xs r.1=false:=by
 have:r∈keys es:=by
  induction hp with
  |nil=>exact h.1
  |snoc _ hk hc ih=>exact(h.2 _ ih).2 _ hk hc
 exact⟨this,(h.2 _ this).1⟩
set_option maxHeartbeats 4000000 in
theorem loop {le wa:Fn}{xs:List Rt}{p:Int}(hx:∀x∈xs,bH p x)(hn:xs.length<=100)(hl:wo xs p)(hle:jw p le)(FX:tU xs p wa){g:G}(hc:Clean g):∀(f c:Nat) (es:List (aO×D)) (S:List aO) (c7 c8 c9:Option D),LI xs p es S c->900001<=f+c ->
  (∃σ' a b ks r,iQ oq (qt le wa) f (dM p xs g.length c7 c8 c9) (g ++ [dR es,S.map rD])=some (.rt (.tup [.str "order",.tup (kD ks)]),σ',g ++ [a,b])/\Path xs p ks r/\eJ xs r.1=true) \/
  (∃bV d7 d8 d9,iQ oq (qt le wa) f (dM p xs g.length c7 c8 c9) (g ++ [dR es,S.map rD])=some (.nx,dM p xs g.length d7 d8 d9,g ++ [dR bV,[]])/\eK xs p bV/\jT xs p bV)
 | 0,c,es,S,c7,c8,c9,I,hf=>by
  have:=hl es I.C
  have:=I.ct
  omega
 |f+1,c,es,S,c7,c8,c9,I,hf=>by
  have a1:(g ++ [dR es,S.map rD])[g.length+1]? = some (S.map rD):=by simp
  have ec:oq (dM p xs g.length c7 c8 c9) (g ++ [dR es,S.map rD])=some (decide (0<S.length),g ++ [dR es,S.map rD]):=by
    simp[oq,cv]
  rcases acF S with rfl|⟨T,r,rfl⟩
  . refine .inr ⟨es,c7,c8,c9,?_,I.C,I.fs,λv hv=>?_⟩
    . simp only[iQ,ec]
      simp
    . rcases I.pr v hv with h|h
      . cases h
      . exact h
  . rw[ael]at I ec a1 ⊢
    have M8:r∈keys es:=I.sk r (by simp)
    have j8:=I.C.FW M8
    have ct:=I.ct
    have po:M5 (dM p xs g.length c7 c8 c9) (g ++ [dR es,(T ++ [r]).map rD])=some (.nx,dM p xs g.length (some (rD r)) c8 c9,g ++ [dR es,T.map rD]):=by
      simp[M5,ko,ach]
    have Q5:oq (dM p xs g.length c7 c8 c9) (g ++ [dR es,(T ++ [r]).map rD])=some (true,g ++ [dR es,(T ++ [r]).map rD]):=by
      rw[ec];simp
    have cl:Clean (g ++ [dR es,T.map rD]):=M7 hc (λn=>I.C.bB n) (λn=>IS (λv hv=>I.C.FW (I.sk v (by simp[hv]))) n)
    have ba:=jR r.1 (i8 xs)
    have ev:FV (dM p xs g.length (some (rD r)) c8 c9) (g ++ [dR es,T.map rD])=some (eJ xs r.1,g ++ [dR es,T.map rD]):=by
      have e1:=x9 xs r.1
      generalize n0:i8 xs=en at *
      cases h:eJ xs r.1 with
      |true =>
        have e2:=e1.mpr h
        rw[e2]at ba
        simp[FV,rD,eW,aR,bp,ba,n0]
      |false =>
        have e2:¬(r.1 &&& en)=en:=λz=>by rw[e1.mp z]at h;cases h
        have e3:¬(((r.1 &&& en:Nat):Int)=(en:Int)):=by omega
        generalize (r.1 &&& en)=ae at *
        simp[FV,rD,eW,aR,bp,ba,n0,e3]
    cases hE:eJ xs r.1 with
    |true =>
      rw[hE]at ev
      obtain⟨e,he,BY⟩:=Zc.mp M8
      have h3:=hl es I.C
      obtain⟨ks,p1,p2⟩:=FX es (g ++ [dR es,T.map rD]) g.length e I.C (by omega) (by simp) he (cl.all _)
      rw[BY]at p1 p2
      refine .inl ⟨dM p xs g.length (some (rD r)) c8 c9,dR es,T.map rD,ks,r,?_,p1,hE⟩
      simp only[iQ,Q5,Zb,if_true,qt,cP,po,iV,ev]
      simp[Q4,p2]
    |false =>
      rw[hE]at ev
      have ld:=hle xs r (g ++ [dR es,T.map rD]) hx (by omega) j8 cl
      obtain⟨bV,S',d8,d9,e1,C',G',h'⟩:=inner hx hl (g:=g) (r:=r) ((Y9 xs.length).filter (dD xs r)) es T c8 c9 (λk hk=>⟨Zm.mp (Zt.mp hk).1,(Zt.mp hk).2⟩) I.C M8 (by simp at ct;omega)
      have M9:M6 le (dM p xs g.length (some (rD r)) c8 c9) (g ++ [dR es,T.map rD])=some (.nx,dM p xs g.length (some (rD r)) d8 d9,g ++ [dR bV,S'.map rD]):=by
        have e2:forL (gT 2 (au (gN 8) (au (gN 9) aP))) wm (nc xs r) (dM p xs g.length (some (rD r)) c8 c9) (g ++ [dR es,T.map rD])=_:=e1
        have i1:bQ (ao le (aa (af 2) (aa (aq ay (af 7) (fC (.int 0))) (aa (aq ay (af 7) (fC (.int 1))) ag)))) (dM p xs g.length (some (rD r)) c8 c9) (g ++ [dR es,T.map rD])=some (nc xs r,g ++ [dR es,T.map rD]):=by
          simp[rD,eW,gD,ld]
        simp only[M6,xg,i1,Zb,e2]
      have I':LI xs p bV S' (c+1):=by
        have gl:=G'.ln
        refine⟨C',G'.sub _ I.fs,λv hv=>?_,λv hv=>?_,by simp at ct;omega⟩
        . rcases G'.ss v hv with h|h
          . exact G'.sub v (I.sk v (by simp[h]))
          . exact h
        . rcases G'.old v hv with h|h
          . rcases I.pr v h with h2|⟨h2,h3⟩
            . rcases Ze.mp h2 with h2|h2
              . exact .inl (G'.st v h2)
              . simp at h2
                subst h2
                exact .inr ⟨hE,λk hk xt=>h' k (Zt.mpr ⟨Zm.mpr hk,xt⟩)⟩
            . exact .inr ⟨h2,λk hk xt=>G'.sub _ (h3 k hk xt)⟩
          . exact .inl h
      have step:iQ oq (qt le wa) (f+1) (dM p xs g.length c7 c8 c9) (g ++ [dR es,(T ++ [r]).map rD])=iQ oq (qt le wa) f (dM p xs g.length (some (rD r)) d8 d9) (g ++ [dR bV,S'.map rD]):=by
        simp only[iQ,Q5,Zb,if_true,qt,cP,po,iV,ev]
        simp[M9]
      rw[step]
      exact loop hx hn hl hle FX hc f (c+1) bV S' (some (rD r)) d8 d9 I' (by omega)
theorem ot {α:Type}{f h:α->D}{t:FG}{e:FE}{nn:Nat}{g:G}{ys:List D}{xs:List α}(hg:g[nn]? = some ys)(hk:aS ys=xs.map f)(I:Sg->Prop)(hh:∀x∈xs,∀σ,I σ->∃σ1,t (f x) σ g=some (σ1,g)/\e σ1 g=some (h x,g)/\I σ1):
  ∀(k:Nat) (σ:Sg),k<=xs.length->I σ->gj nn xs.length t aQ e k σ g=some ((xs.drop (xs.length-k)).map h,g)
 | 0,σ,_,_=>by simp[gj,hg,hk]
 |k+1,σ,ME,hi=>by
  have bD:xs.length-(k+1)<xs.length:=by omega
  obtain⟨σ1,h1,h2,h4⟩:=hh (xs[xs.length-(k+1)]) (aaf bD) σ hi
  have ih:=ot hg hk I hh k σ1 (by omega) h4
  rw[aaE bD,show xs.length-(k+1)+1=xs.length-k by omega]
  have rG:(xs.map f)[xs.length-(k+1)]? = some (f xs[xs.length-(k+1)]):=by simp[bD]
  simp only[gj,hg,hk,ZP,Zb,Zr,if_true,rG,h1]
  simp[h2,ih]
noncomputable def Ec:FS:=aF (ao da (aa (bh aY (gI (aa (af 1) ag)) [none,none,some 0] (gN 1) (aH (aq gZ (aq (aR bp ZJ) (af 2) (aq (aR cM (λi j=>i*2 ^ j.toNat)) (fC (.int 1)) (af 1))) (fC (.int 0)))) (af 1)) ag))
noncomputable def cw (n b:Nat):List Nat:=(Y9 n).filter λi=>b.testBit i
noncomputable def js (f:Fn):Prop:=∀(b n:Nat) g,n<=100->f [.int (b:Nat),.int (n:Nat)] g=some (.tup (kD (cw n b)),g)
theorem PD:js (aD false 2 2 Ec):=λb n g hn=>by
 refine bS (σ':=[some (.int (b:Nat)),some (.int (n:Nat))]) rfl ?_ rfl
 have hr:cZ 0 n=(Y9 n).map λ(i:Nat)=>D.int (i:Nat):=by
  unfold cZ
  exact aa5 λi _=>by simp
 have ir:gI (aa (af 1) ag) [some (.int (b:Nat)),some (.int (n:Nat))] g=some (cZ 0 n,g):=by
  obtain⟨q,e,h⟩:wp (gI (aa (af 1) ag) [some (.int (b:Nat)),some (.int (n:Nat))] g) λq=>q=(cZ 0 n,g):=by
   refine nH ?_
   simp
   omega
  rw[e,h]
 have hz:aG (cZ 0 n).length=true:=aL (by rw[gO];omega)
 have c1:=gQ (f:=λ(i:Nat)=>D.int (i:Nat)) (t:=gN 1) (c:=aH (aq gZ (aq (aR bp ZJ) (af 2) (aq (aR cM (λi j=>i*2 ^ j.toNat)) (fC (.int 1)) (af 1))) (fC (.int 0)))) (e:=af 1) (cB:=λi=>b.testBit i) (h:=λ(i:Nat)=>D.int (i:Nat)) (λσ=>∃a,σ = [none,a,some (.int (b:Nat))]) (Y9 n) [none,none,some (.int (b:Nat))] g ⟨_,rfl⟩ (by
  rintro i hm σ ⟨a,rfl⟩
  have hi:=Zm.mp hm
  refine⟨[none,some (.int i),some (.int (b:Nat))],by simp,?_,λ_=>by simp,⟨_,rfl⟩⟩
  have o1:=qp (show i<=1000 by omega)
  have hc:((2:Int) ^ i)=((2 ^ i:Nat):Int):=by simp
  have ba:ZJ (b:Int) ((2:Int) ^ i)=((b &&& 2 ^ i:Nat):Int):=by rw[hc];exact jR b (2 ^ i)
  have e1:=rH b i
  cases ht:b.testBit i with
  |false =>
   have e2:=e1.mpr ht
   rw[e2]at ba
   simp[aR,bp,o1,ba,flat,dep,fL]
  |true =>
   have e2:¬(b &&& 2 ^ i)=0:=λz=>by rw[e1.mp z]at ht;cases ht
   have e3:¬(((b &&& 2 ^ i:Nat):Int)=0):=by omega
   generalize (b &&& 2 ^ i)=ae at *
   simp[aR,bp,o1,ba,flat,dep,fL]
   omega)
 rw[<- hr]at c1
 have c2:bZ (gN 1) (aH (aq gZ (aq (aR bp ZJ) (af 2) (aq (aR cM (λi j=>i*2 ^ j.toNat)) (fC (.int 1)) (af 1))) (fC (.int 0)))) (af 1) (cZ 0 n) [none,none,some (.int (b:Nat))] g=some (kD (cw n b),g):=c1
 have sb:bL [none,none,some 0] [some (D.int (b:Nat)),some (D.int (n:Nat))]= [none,none,some (.int (b:Nat))]:=rfl
 have x6:aG (kD (cw n b)).length=true:=aL (by
  have:=Z8 (λi=>b.testBit i) (Y9 n)
  simp at this
  simp[kD,cw]
  omega)
 show Ec [some (.int (b:Nat)),some (.int (n:Nat))] g=_
 unfold Ec
 simp only[qJ,oE,lr,qI,C1,ir,Zb,hz,if_true,sb,c2]
 simp[aY,da,cv,x6]
noncomputable def B0 (rd:Fn):FS:=aF (aK aJ (aa (fC (.str "none")) (aa (ao da (aa (iX aY (i6 (af 5)) [none,none,none,some 1] (gT 2 (au (gN 1) (au (gN 2) aP))) aQ (aK aJ (aa (ao rd (aa (af 1) (aa (ao cx (aa (af 3) ag)) ag))) (aa (af 2) ag)))) ag)) ag)))
noncomputable def qv (zeros plan ended leads way rd:Fn):FS:=aw (aC (ao plan (aa (af 1) ag)) (gN 2)) (aw (aC (ao ended (aa (af 1) ag)) (gN 3)) (aw (aC (aK aJ (aa (fC (.int 0)) (aa (ao zeros (aa (af 0) ag)) ag))) (gN 4)) (aw (aC (kO [(af 4,fC .aA)]) (gN 5)) (aw (aC (aK mkRef (aa (af 4) ag)) (gN 6)) (aw (kG 1000000 oq (qt leads way)) (B0 rd))))))
noncomputable def aT (xs:List Rt)(r:aO):D:=.tup [.tup (kD (cw xs.length r.1)),.tup r.2]
theorem M_ {rd:Fn}{xs:List Rt}{p:Int}{es:List (aO×D)}{g:G}{d7 d8 d9:Option D}(hr:js rd)(hl:xs.length<=100)(C:eK xs p es)(hle:es.length<=1000000):
  B0 rd (dM p xs g.length d7 d8 d9) (g ++ [dR es,[]])=some (.rt (.tup [.str "none",.tup ((keys es).map (aT xs))]),dM p xs g.length d7 d8 d9,g ++ [dR es,[]]):=by
 have hg:(g ++ [dR es,[]])[g.length]? = some (dR es):=by simp
 have hz:aG (keys es).length=true:=by unfold aG;exact decide_eq_true (by simp[keys];omega)
 have hk:aS (dR es)=(keys es).map rD:=by rw[yc];simp[keys]
 have c1:=ot (f:=rD) (t:=gT 2 (au (gN 1) (au (gN 2) aP))) (e:=aK aJ (aa (ao rd (aa (af 1) (aa (ao cx (aa (af 3) ag)) ag))) (aa (af 2) ag))) (h:=aT xs) hg hk (λσ=>∃a b,σ = [none,a,b,some (.tup (xs.map rt))]) (by
  rintro r hm σ ⟨a,b,rfl⟩
  refine⟨[none,some (.int (r.1:Nat)),some (.tup r.2),some (.tup (xs.map rt))],by simp[rD],?_,⟨_,_,rfl⟩⟩
  have:=hr r.1 xs.length (g ++ [dR es,[]]) hl
  simp[cv,this,aT]) (keys es).length [none,none,none,some (.tup (xs.map rt))] (Za _) ⟨_,_,rfl⟩
 rw[aby,abV]at c1
 have kl:(aS (dR es)).length=(keys es).length:=by rw[hk];simp
 have sb:bL [none,none,none,some 1] (dM p xs g.length d7 d8 d9)= [none,none,none,some (.tup (xs.map rt))]:=rfl
 have i1:i6 (af 5) (dM p xs g.length d7 d8 d9) (g ++ [dR es,[]])=some (g.length,(keys es).length,g ++ [dR es,[]]):=by
  simp[kl]
 have cd:iX aY (i6 (af 5)) [none,none,none,some 1] (gT 2 (au (gN 1) (au (gN 2) aP))) aQ (aK aJ (aa (ao rd (aa (af 1) (aa (ao cx (aa (af 3) ag)) ag))) (aa (af 2) ag))) (dM p xs g.length d7 d8 d9) (g ++ [dR es,[]])=some (.lst ((keys es).map (aT xs)),g ++ [dR es,[]]):=by
  simp only[A6,i1,Zb,hz,if_true,sb,c1]
  rfl
 have x6:aG ((keys es).map (aT xs)).length=true:=by rw[Zr];exact hz
 unfold B0
 simp only[qJ,Ll,oE,lr,qI,EN,Zb,cd]
 simp[da,cv]
 simp at x6
 simp[x6]
noncomputable def Na (xs:List Rt)(p:Int)(d:D):Prop:=(flat d=true/\dep d<=60 /\ ∀n,bB n d=true)/\((∃ks r,d = .tup [.str "order",.tup (kD ks)]/\Path xs p ks r/\eJ xs r.1=true)\/(∃es,d = .tup [.str "none",.tup ((keys es).map (aT xs))]/\eK xs p es/\jT xs p es))
theorem ye (h:Rm p r):flat (aT xs r)=true/\dep (aT xs r)<=6 /\ ∀n,bB n (aT xs r)=true:=by
 obtain⟨h1,h2⟩:=rB (cw xs.length r.1)
 obtain⟨h3,h4⟩:=St.flat h
 have Xo:aU r.2=true:=by simpa[flat]using h3
 have YT:bX r.2<=3:=by simp[dep]at h4;omega
 refine⟨by simp[aT,flat,aU,h1,Xo],by simp[aT,dep,bX,h2];omega,λn=>?_⟩
 have h5:=wg h n
 simp[bB]at h5
 have h6:aW n (kD (cw xs.length r.1))=true:=cH λx hx=>by
  obtain⟨k,_,rfl⟩:=Zc.mp hx
  rfl
 simp[aT,bB,aW,h5,h6]
noncomputable def zG (p:Int)(f:Fn):Prop:=∀xs g,(∀x∈xs,bH p x)->xs.length<=100->wo xs p->Clean g->∃d,f [.int p,.tup (xs.map rt)] g=some (d,g)/\Na xs p d
set_option maxHeartbeats 4000000 in
theorem Nb (p0:0<=p)(hz:kT p z)(hp:qs p pl)(he:tS en)(hle:jw p le)(FX:∀xs,tU xs p wa)(hr:js rd):zG p (aD false 10 2 (qv z pl en le wa rd)):=λxs g hx hn hl hc=>by
 have key:wp (aD false 10 2 (qv z pl en le wa rd) [.int p,.tup (xs.map rt)] g) λq=>q.2=g/\Na xs p q.1:=by
  refine fO rfl ?_
  have e1:=hp xs g hx (by omega) hc
  have e2:=he xs g (by omega)
  have e3:=hz g
  have fr:Rm p (first p):=St.zs p0
  have kk:=kX fr
  have C0:eK xs p [(first p,.aA)]:=⟨λe h=>by simp at h;subst h;exact fr,by simp,λi e h=>by
    have:=(Y7.mp h).1
    have hi:i=0:=by simpa using this
    subst hi
    simp at h
    exact .inl h.symm⟩
  have I0:LI xs p [(first p,.aA)] [first p] 0:=⟨C0,by simp[keys],λv hv=>by simpa[keys]using hv,λv hv=>.inl (by simpa[keys]using hv),by simp⟩
  have lp:=loop hx hn hl hle (FX xs) hc 1000000 0 [(first p,.aA)] [first p] none none none I0 (by omega)
  have pre:∀R,aw (kG 1000000 oq (qt le wa)) (B0 rd) (dM p xs g.length none none none) (g ++ [dR [(first p,.aA)],[first p].map rD])=R->qv z pl en le wa rd [some (.int p),some (.tup (xs.map rt)),none,none,none,none,none,none,none,none] g=R:=λR hR=>by
    have dn:kO [(af 4,fC .aA)] [some (.int p),some (.tup (xs.map rt)),some (.lst (fB xs)),some (.int (i8 xs:Nat)),some (rD (first p)),none,none,none,none,none] g=some (.aM g.length,g ++ [dR [(first p,.aA)]]):=by
     have sz:lX []=true:=by decide
     simp[kO,u6,L3.putAll,kj,kk,sz,cf,dR]
    have fd:rD (first p)= .tup [.int 0,.tup (zs p)]:=rfl
    rw[<- hR]
    unfold qv
    generalize aw (kG 1000000 oq (qt le wa)) (B0 rd)=rest
    rw[fd]at dn
    simp[e1,e2,e3,dn,fd]
    rfl
  show wp (qv z pl en le wa rd [some (.int p),some (.tup (xs.map rt)),none,none,none,none,none,none,none,none] g) _
  rcases lp with⟨σ',a,b,ks,r,e,h1,h2⟩|⟨bV,d7,d8,d9,e,C',h1⟩
  . have:=pre (some (.rt (.tup [.str "order",.tup (kD ks)]),σ',g ++ [a,b])) (by simp only[cP,kG,e,Zb])
    rw[this]
    have kn:∀n,aW n (kD ks)=true:=λn=>cH λx hx=>by
     obtain⟨k,_,rfl⟩:=Zc.mp hx
     rfl
    obtain⟨f1,f2⟩:=rB ks
    simp only[ff]
    refine⟨by simp[bB,aW,kn],by simpa using hc.all _,by simp,by simp,⟨by simp[flat,aU,f1],by simp[dep,bX,f2],λn=>by simp[bB,aW,kn]⟩,.inl ⟨ks,r,rfl,h1,h2⟩⟩
  . have Yk:=hl bV C'
    have e5:=M_ (g:=g) (d7:=d7) (d8:=d8) (d9:=d9) hr (by omega) C' (by omega)
    have:=pre (some (.rt (.tup [.str "none",.tup ((keys bV).map (aT xs))]),dM p xs g.length d7 d8 d9,g ++ [dR bV,[]])) (by simp only[cP,kG,e,Zb,e5])
    rw[this]
    have yy:∀x∈(keys bV).map (aT xs),flat x=true/\dep x<=6 /\ ∀n,bB n x=true:=λx hx=>by
     obtain⟨r,hr,rfl⟩:=Zc.mp hx
     exact ye (C'.FW hr)
    obtain⟨f1,f2⟩:=oP λx hx=>⟨(yy x hx).1,(yy x hx).2.1⟩
    have kn:∀n,aW n ((keys bV).map (aT xs))=true:=λn=>cH λx hx=>(yy x hx).2.2 n
    have done_:=And.intro C' h1
    generalize Fl:(keys bV).map (aT xs)=ls at *
    simp only[ff]
    refine⟨by simp[bB,aW,kn],by simpa using hc.all _,by simp,by simp,⟨by simp[flat,aU,f1],by simp[dep,bX];omega,λn=>by simp[bB,aW,kn]⟩,.inr ⟨bV,by rw[Fl],done_⟩⟩
 obtain⟨⟨d,g'⟩,e,h1,h2⟩:=key
 dsimp only at h1 h2
 subst h1
 exact⟨d,e,h2⟩
noncomputable def zH (t a:Fn):FS:=aw (bK (gW (cz (bW (ao t (aa (af 1) (aa (fC (.int 0)) (aa (ao cx (aa (af 0) ag)) ag)))))) (cz (bW (ao a (aa (af 0) (aa (af 1) ag)))))) (aF (fC (.bl false))) aN) (aF (ao fu (aa (bh aY (sf (aa (fC (.int 1)) (aa (ao cx (aa (af 1) ag)) ag))) [none,none,some 1] (gN 1) aQ (aq oLt (aq ay (af 2) (aq (aR bp (· - ·)) (af 1) (fC (.int 1)))) (aq ay (af 2) (af 1)))) ag)))
noncomputable def zI (f:Fn):Prop:=∀(ss:List D) (ks:List Nat) g,ks.Pairwise (· < ·)->(∀k∈ks,k<ss.length)->ss.length<=100->f [.tup ss,.tup (kD ks)] g=some (.bl true,g)
theorem IT {ks:List Nat}{n:Nat}(hp:ks.Pairwise (· < ·))(hk:∀k∈ks,k<n):ks.length<=n:=by
 have:=jQ (V:=ks) (W:=Y9 n) (hp.imp λh=>Zk h) (λk h=>Zm.mpr (hk k h))
 simpa using this
theorem Nc {t a:Fn}(ht:eM t)(ha:tR a):zI (aD false 2 2 (zH t a)):=λss ks g hp hk hl=>by
 have ME:=IT hp hk
 have kl:(kD ks).length=ks.length:=by simp[kD]
 refine bS (σ':=[some (.tup ss),some (.tup (kD ks))]) rfl ?_ rfl
 have e1:=ht (.tup (kD ks)) 0 (ss.length:Int) g rfl
 have t1:dz (.tup (kD ks)) 0 (ss.length:Int)=true:=by
  simp[dz,kl];omega
 rw[t1]at e1
 have e2:=ha ss (kD ks) g (λx hx=>by obtain⟨k,_,rfl⟩:=Zc.mp hx;rfl) (by rw[kl];omega)
 have t2:(kD ks).all (jO ss.length)=true:=by
  rw[Zi]
  intro d hd
  obtain⟨k,h,rfl⟩:=Zc.mp hd
  have:=hk k h
  simp only[jO,within,Y3,decide_eq_true_eq]
  omega
 rw[t2]at e2
 have ir:sf (aa (fC (.int 1)) (aa (ao cx (aa (af 1) ag)) ag)) [some (.tup ss),some (.tup (kD ks))] g=some (cZ 1 (ks.length-1),g):=by
  obtain⟨q,e,h⟩:wp (sf (aa (fC (.int 1)) (aa (ao cx (aa (af 1) ag)) ag)) [some (.tup ss),some (.tup (kD ks))] g) λq=>q=(cZ 1 (ks.length-1),g):=by
   refine Pt ?_
   have en:((ks.length:Int)-1).toNat=ks.length-1:=by omega
   simp only[lr,EN,oE,kL,qI,Zb]
   simp[cv,kl]
   exact⟨1,ks.length,⟨rfl,rfl⟩,⟨by omega,by omega⟩,⟨by omega,by omega⟩,by rw[en]⟩
  rw[e,h]
 have hz:aG (cZ 1 (ks.length-1)).length=true:=aL (by rw[gO];omega)
 have c1:=dW (f:=λ(i:Nat)=>D.int (1+(i:Int))) (t:=gN 1) (c:=aQ) (e:=aq oLt (aq ay (af 2) (aq (aR bp (· - ·)) (af 1) (fC (.int 1)))) (aq ay (af 2) (af 1))) (h:=λ_=>D.bl true) (λσ=>∃o,σ = [none,o,some (.tup (kD ks))]) (Y9 (ks.length-1)) [none,none,some (.tup (kD ks))] g ⟨_,rfl⟩ (by
  rintro i hm σ ⟨o,rfl⟩
  have hi:=Zm.mp hm
  refine⟨[none,some (.int (1+(i:Int))),some (.tup (kD ks))],by simp,by simp,?_,⟨_,rfl⟩⟩
  have h0:i<ks.length:=by omega
  have h1:i+1<ks.length:=by omega
  have lt:=aaF.mp hp i (i+1) h0 h1 (by omega)
  have a1:dY (kD ks) ((1:Int)+(i:Int)-1)=some (.int (ks[i]:Nat)):=by
   rw[show(1:Int)+(i:Int)-1=((i:Nat):Int) by omega]
   exact eY (by simp[kD,h0])
  have a2:dY (kD ks) ((1:Int)+(i:Int))=some (.int (ks[i+1]:Nat)):=by
   rw[show(1:Int)+(i:Int)=((i+1:Nat):Int) by omega]
   exact eY (by simp[kD,h1])
  simp[aR,bp,a1,a2,lt])
 have c2:bZ (gN 1) aQ (aq oLt (aq ay (af 2) (aq (aR bp (· - ·)) (af 1) (fC (.int 1)))) (aq ay (af 2) (af 1))) (cZ 1 (ks.length-1)) [none,none,some (.tup (kD ks))] g=some ((Y9 (ks.length-1)).map λ_=>D.bl true,g):=c1
 have sb:bL [none,none,some 1] [some (D.tup ss),some (D.tup (kD ks))]= [none,none,some (.tup (kD ks))]:=rfl
 have bm:=dC (λ_:Nat=>true) (Y9 (ks.length-1))
 show zH t a [some (.tup ss),some (.tup (kD ks))] g=_
 unfold zH
 generalize kD ks=kk at *
 simp[e1,e2,ir,hz,sb,c2,bm]
noncomputable def zJ (t v:Fn)(e:FE):FS:=aw (bK (cz (bW (ao t (aa (af 2) (aa (af 0) (aa (af 0) ag)))))) (aF (fC (.bl false))) aN) (aF (ao fu (aa (bh aY (bQ (af 2)) [none,none,some 1] (gN 1) aQ (mv (ao v (aa (af 1) ag)) (ao eR (aa (bh aY (bQ (af 2)) [none,none,some 1] (gN 1) aQ e) ag)))) ag)))
noncomputable def zK (p:Int)(f:Fn):Prop:=∀(vs:D) st g,St p st->f [.int p,vs,.tup st] g=some (.bl true,g)
theorem Nd (hp:p<=100)(ht:eM t)(hv:zu v):zK p (aD false 3 3 (zJ t v e)):=λvs st g hs=>by
 refine bS (σ':=[some (.int p),some vs,some (.tup st)]) rfl ?_ rfl
 have e1:=ht (.tup st) p p g rfl
 have t1:dz (.tup st) p p=true:=by
  have:=hs.1
  simp[dz,this]
 rw[t1]at e1
 have hz:aG st.length=true:=aL (by have:=hs.1;omega)
 have c1:=dB (t:=gN 1) (c:=aQ) (e:=mv (ao v (aa (af 1) ag)) (ao eR (aa (bh aY (bQ (af 2)) [none,none,some 1] (gN 1) aQ e) ag))) (h:=λ_=>D.bl true) (λσ=>∃o,σ = [none,o,some vs]) st [none,none,some vs] g ⟨_,rfl⟩ (by
  rintro d hm σ ⟨o,rfl⟩
  refine⟨[none,some d,some vs],by simp,by simp,?_,⟨_,rfl⟩⟩
  have e2:=hv d g (lJ 3 d (hs.2 d hm)).1
  rw[hs.2 d hm]at e2
  simp[e2])
 have sb:bL [none,none,some 1] [some (D.int p),some vs,some (.tup st)]= [none,none,some vs]:=rfl
 have bm:=dC (λ_:D=>true) st
 show zJ t v e [some (.int p),some vs,some (.tup st)] g=_
 unfold zJ
 simp[e1,hz,sb,c1,bm]
noncomputable def wq (t r s:Fn):FS:=aw (bK (cz (bW (ao t (aa (af 3) (aa (fC (.int 2)) (aa (fC (.int 2)) ag)))))) (aF (fC (.bl false))) aN) (aF (dA (ao r (aa (af 1) (aa (aq ay (af 3) (fC (.int 0))) ag))) (ao s (aa (af 0) (aa (af 2) (aa (aq ay (af 3) (fC (.int 1))) ag))))))
noncomputable def qw (p:Int)(f:Fn):Prop:=∀(ss:List D) (vs:D) (ks:List Nat) st g,ks.Pairwise (· < ·)->(∀k∈ks,k<ss.length)->ss.length<=100->St p st->f [.int p,.tup ss,vs,.tup [.tup (kD ks),.tup st]] g=some (.bl true,g)
theorem IU (ht:eM t)(hr:zI r)(hs:zK p s):qw p (aD false 4 4 (wq t r s)):=λss vs ks st g h1 h2 h3 h4=>by
 refine bS (σ':=[some (.int p),some (.tup ss),some vs,some (.tup [.tup (kD ks),.tup st])]) rfl ?_ rfl
 have e1:=ht (.tup [.tup (kD ks),.tup st]) 2 2 g rfl
 have t1:dz (.tup [.tup (kD ks),.tup st]) 2 2=true:=by simp[dz]
 rw[t1]at e1
 have e2:=hr ss ks g h1 h2 h3
 have e3:=hs vs st g h4
 show wq t r s [some (.int p),some (.tup ss),some vs,some (.tup [.tup (kD ks),.tup st])] g=_
 unfold wq
 generalize kD ks=kk at *
 simp[e1,e2,e3,eW,gD]
noncomputable def nK (f:Fn):Prop:=∀ks g,(∀k∈ks,k<=1000)->ks.length<=1000->f [.tup (kD ks)] g=some (.int (((ks.map λk=>2 ^ k).sum:Nat):Int),g)
theorem Ed:nK (aD false 1 1 qo):=λks g hk hl=>by
 refine bS (σ':=[some (.tup (kD ks))]) rfl ?_ rfl
 have hz:aG ks.length=true:=aL (by omega)
 have kl:(kD ks).length=ks.length:=by simp[kD]
 have c1:=dW (f:=λ(i:Nat)=>D.int i) (t:=gN 1) (c:=aQ) (e:=aq (aR cM (λi j=>i*2 ^ j.toNat)) (fC (.int 1)) (af 1)) (h:=λ(i:Nat)=>D.int ((2 ^ i:Nat):Int)) (λσ=>∃a,σ = [none,a]) ks [none,none] g ⟨_,rfl⟩ (by
  rintro i hm σ ⟨a,rfl⟩
  refine⟨[none,some (.int i)],by simp,by simp,?_,⟨_,rfl⟩⟩
  have:=qp (hk i hm)
  simp[aR,this])
 have c2:bZ (gN 1) aQ (aq (aR cM (λi j=>i*2 ^ j.toNat)) (fC (.int 1)) (af 1)) (kD ks) [none,none] g=some ((ks.map λk=>((2 ^ k:Nat):Int)).map D.int,g):=by rw[Z2];exact c1
 have sb:∀σ:Sg,bL [none,none] σ = [none,none]:=λ_=>rfl
 have i1:=mZ (ks.map λk=>((2 ^ k:Nat):Int))
 rw[<- wd]
 generalize (ks.map λk=>((2 ^ k:Nat):Int))=ns at *
 simp[qo,sb,c2,kl,hz,i1]
theorem Ee (h:b<2 ^ n):((cw n b).map λk=>(2:Nat) ^ k).sum=b:=by
 unfold cw
 rw[lL]
 refine aaZ λi=>?_
 rw[m9]
 by_cases hi:i<n
 . simp[hi]
 . have:b.testBit i=false:=ad1 (ZD h (aew (by omega) (by omega)))
   simp[hi,this]
theorem j9 (n b:Nat):(cw n b).Pairwise (· < ·):=(ad2).filter _
noncomputable def FY:FT:=aH (aq oEq (aq (aR bp ZJ) (af 4) (af 3)) (af 3))
noncomputable def Nf (leads:Fn):FE:=ao fu (aa (bh aY (bQ (ao leads (aa (af 2) (aa (af 4) (aa (af 5) ag))))) [none,none,none,some 1] (gT 2 (au (gN 1) (au (gN 2) aP))) aQ (aq hJ (af 2) (af 3))) ag)
noncomputable def yf (leads:Fn):FS:=aw (bK FY (aF (fC (.bl false))) aN) (bK (cz (bW (Nf leads))) (aF (fC (.bl false))) aN)
noncomputable def zL (plan ended leads:Fn):FS:=aw (aC (ao plan (aa (af 0) ag)) (gN 2)) (aw (aC (ao ended (aa (af 0) ag)) (gN 3)) (aw (j5 (i6 (af 1)) (gT 2 (au (gN 4) (au (gN 5) aP))) (yf leads)) (aF (fC (.bl true)))))
noncomputable def inR (rs:List aO)(v:aO):Bool:=@decide (v∈rs) (adR _)
theorem kZ:inR rs v=true ↔ v∈rs:=by unfold inR;exact @decide_eq_true_iff _ (adR _)
theorem B1 (h:v ∉ rs):inR rs v=false:=by
 cases hq:inR rs v with
 |false=>rfl
 |true=>exact absurd (kZ.mp hq) h
noncomputable def eh (xs:List Rt)(rs:List aO)(r:aO):Bool:=!eJ xs r.1&&((Y9 xs.length).filter (dD xs r)).all λk=>inR rs (bM xs r k)
noncomputable def zM (xs:List Rt)(p:Int)(f:Fn):Prop:=∀es g m,(∀e∈es,Rm p e.1)->(es.map (·.1)).Nodup->g[m]? = some (dR es)->Clean g->f [.tup (xs.map rt),.aM m] g=some (.bl ((keys es).all (eh xs (keys es))),g)
noncomputable abbrev S6 (xs:List Rt)(m:Nat)(c4 c5:Option D):Sg:=[some (.tup (xs.map rt)),some (.aM m),some (.lst (fB xs)),some (.int (i8 xs:Nat)),c4,c5]
theorem Ng (hx:∀x∈xs,bH p x)(hn:xs.length<=100)(hle:jw p le)(j8:∀e∈es,Rm p e.1)(d_:(es.map (·.1)).Nodup)(hm:g[m]? = some (dR es))(hc:Clean g)(hr:r∈keys es):
  yf le (S6 xs m (some (.int (r.1:Nat))) (some (.tup r.2))) g=some (if eh xs (keys es) r=true then .nx else .rt (.bl false),S6 xs m (some (.int (r.1:Nat))) (some (.tup r.2)),g):=by
 obtain⟨er,M1,Eb⟩:=Zc.mp hr
 have om:Rm p r:=by rw[<- Eb];exact j8 er M1
 have ba:=jR r.1 (i8 xs)
 have ev:FY (S6 xs m (some (.int (r.1:Nat))) (some (.tup r.2))) g=some (eJ xs r.1,g):=by
  have e1:=x9 xs r.1
  generalize n0:i8 xs=en at *
  cases h:eJ xs r.1 with
  |true =>
   have e2:=e1.mpr h
   rw[e2]at ba
   simp[FY,aR,bp,ba,n0]
  |false =>
   have e2:¬(r.1 &&& en)=en:=λz=>by rw[e1.mp z]at h;cases h
   have e3:¬(((r.1 &&& en:Nat):Int)=(en:Int)):=by omega
   generalize (r.1 &&& en)=ae at *
   simp[FY,aR,bp,ba,n0,e3]
 cases hE:eJ xs r.1 with
 |true =>
  rw[hE]at ev
  have:eh xs (keys es) r=false:=by simp[eh,hE]
  unfold yf
  simp[ev,this]
 |false =>
  rw[hE]at ev
  have ld:=hle xs r g hx hn om hc
  have hl:((Y9 xs.length).filter (dD xs r)).length<=xs.length:=by
   have:=Z8 (dD xs r) (Y9 xs.length)
   simpa using this
  have hz:aG (nc xs r).length=true:=aL (by simp[nc];omega)
  have c1:=dW (f:=jS xs r) (t:=gT 2 (au (gN 1) (au (gN 2) aP))) (c:=aQ) (e:=aq hJ (af 2) (af 3)) (h:=λk=>D.bl (inR (keys es) (bM xs r k))) (λσ=>∃a b,σ = [none,a,b,some (.aM m)]) ((Y9 xs.length).filter (dD xs r)) [none,none,none,some (.aM m)] g ⟨_,_,rfl⟩ (by
   rintro k hk σ ⟨a,b,rfl⟩
   rw[Zt,Zm]at hk
   have BX:Rm p (bM xs r k):=St.put om (hx _ (b8 hk.1)).r.dd
   have kk:=kX BX
   refine⟨[none,some (.int k),some (rD (bM xs r k)),some (.aM m)],by simp[jS],by simp,?_,⟨_,_,rfl⟩⟩
   by_cases df:bM xs r k∈keys es
   . obtain⟨e,he,BY⟩:=Zc.mp df
     have hg:bf (dR es) (rD (bM xs r k))=some e.2:=ng j8 d_ (by rw[<- BY];exact he)
     simp[kk,hg,hm,kZ.mpr df]
   . obtain⟨hg,_⟩:=kY (p:=p) j8 BX (λe he z=>df (Zc.mpr ⟨e,he,z⟩))
     simp[kk,hg,hm,B1 df])
  have c2:bZ (gT 2 (au (gN 1) (au (gN 2) aP))) aQ (aq hJ (af 2) (af 3)) (nc xs r) [none,none,none,some (.aM m)] g=some (((Y9 xs.length).filter (dD xs r)).map λk=>D.bl (inR (keys es) (bM xs r k)),g):=c1
  have bm:=dC (λk:Nat=>inR (keys es) (bM xs r k)) ((Y9 xs.length).filter (dD xs r))
  have sb:bL [none,none,none,some 1] (S6 xs m (some (.int (r.1:Nat))) (some (.tup r.2)))= [none,none,none,some (.aM m)]:=rfl
  have gd:eh xs (keys es) r=(((Y9 xs.length).filter (dD xs r)).map λk=>inR (keys es) (bM xs r k)).all id:=by
   unfold eh
   rw[hE,acO]
   rfl
  have cc:Nf le (S6 xs m (some (.int (r.1:Nat))) (some (.tup r.2))) g=some (.bl (eh xs (keys es) r),g):=by
   rw[gd]
   unfold Nf
   generalize ((Y9 xs.length).filter (dD xs r)).map (λk=>D.bl (inR (keys es) (bM xs r k)))=CC at *
   generalize ((Y9 xs.length).filter (dD xs r)).map (λk=>inR (keys es) (bM xs r k))=BB at *
   generalize nc xs r=LL at *
   simp[ld,hz,sb,c2,bm]
  unfold yf
  cases hg:eh xs (keys es) r<;>rw[hg]at cc<;>simp[ev,cc]
theorem Nh (hx:∀x∈xs,bH p x)(hn:xs.length<=100)(hp:qs p pl)(he:tS en)(hle:jw p le):zM xs p (aD false 6 2 (zL pl en le)):=λes g m j8 d_ hm hc=>by
 have hk:aS (dR es)=(keys es).map rD:=by rw[yc];simp[keys]
 have e1:=hp xs g hx hn hc
 have e2:=he xs g hn
 have lp:∀(k:Nat) (c4 c5:Option D),k<=(keys es).length->∃d4 d5,hV m (keys es).length (gT 2 (au (gN 4) (au (gN 5) aP))) (yf le) k (S6 xs m c4 c5) g=some (if((keys es).drop ((keys es).length-k)).all (eh xs (keys es))=true then .nx else .rt (.bl false),S6 xs m d4 d5,g):=λk=>by
  induction k with
  |zero=>intro c4 c5 _;exact⟨c4,c5,by simp[hV,hm,hk]⟩
  |succ k ih =>
   intro c4 c5 ME
   have bD:(keys es).length-(k+1)<(keys es).length:=by omega
   have hr:(keys es)[(keys es).length-(k+1)]∈keys es:=aaf bD
   have Q6:=aaE bD
   rw[show(keys es).length-(k+1)+1=(keys es).length-k by omega]at Q6
   generalize om:(keys es)[(keys es).length-(k+1)]=r at *
   have rG:((keys es).map rD)[(keys es).length-(k+1)]? = some (rD r):=by simp[bD,om]
   have tg:gT 2 (au (gN 4) (au (gN 5) aP)) (rD r) (S6 xs m c4 c5) g=some (S6 xs m (some (.int (r.1:Nat))) (some (.tup r.2)),g):=by simp[rD]
   have bd:=Ng hx hn hle j8 d_ hm hc hr
   rw[Q6,ab8]
   cases hg:eh xs (keys es) r with
   |true =>
    rw[hg]at bd
    obtain⟨d4,d5,ih⟩:=ih (some (.int (r.1:Nat))) (some (.tup r.2)) (by omega)
    refine⟨d4,d5,?_⟩
    rw[ab9,<- ih]
    simp only[hV,hm,hk,ZP,Zb,Zr,if_true,rG,tg,bd]
   |false =>
    rw[hg]at bd
    refine⟨some (.int (r.1:Nat)),some (.tup r.2),?_⟩
    simp only[hV,hm,hk,ZP,Zb,Zr,if_true,rG,tg,bd]
    simp
 obtain⟨d4,d5,e3⟩:=lp (keys es).length none none (Za _)
 rw[aby,abV]at e3
 refine bS (σ':=S6 xs m d4 d5) rfl ?_ rfl
 have kl:(aS (dR es)).length=(keys es).length:=by rw[hk];simp
 have i1:i6 (af 1) (S6 xs m none none) g=some (m,(keys es).length,g):=by simp[hm,kl]
 have fo:j5 (i6 (af 1)) (gT 2 (au (gN 4) (au (gN 5) aP))) (yf le) (S6 xs m none none) g=some (if(keys es).all (eh xs (keys es))=true then .nx else .rt (.bl false),S6 xs m d4 d5,g):=by
  rw[De,i1]
  exact e3
 show zL pl en le [some (.tup (xs.map rt)),some (.aM m),none,none,none,none] g=_
 unfold zL
 generalize (keys es).all (eh xs (keys es))=bb at *
 cases bb<;>simp[e1,e2,fo]
noncomputable def Ni:FE:=bh aY (bQ (af 1)) [none,none] (gN 1) (aH (aq oEq (aq ay (aq ay (af 1) (fC (.int 1))) (fC (.int 0))) (fC (.str "put")))) (aq ay (aq ay (af 1) (fC (.int 1))) (fC (.int 2)))
noncomputable def Nj (room:Fn):FE:=ao fu (aa (bh aY (bQ (af 2)) [none,none,some 0,some 1,some 3] (gN 1) aQ (ao room (aa (af 2) (aa (af 3) (aa (af 4) (aa (af 1) ag)))))) ag)
noncomputable def B2 (bits:Fn):FS:=aC (fC (.bl true)) (eU (af 4) (aK aJ (aa (ao bits (aa (aq ay (af 5) (fC (.int 0))) ag)) (aa (aq ay (af 5) (fC (.int 1))) ag))))
noncomputable def Nk (zeros ou:Fn):FS:=aF (dA (aq hJ (aK aJ (aa (fC (.int 0)) (aa (ao zeros (aa (af 0) ag)) ag))) (af 4)) (ao ou (aa (af 1) (aa (af 4) ag))))
noncomputable def wt (bits zeros room ou:Fn):FS:=aw (aC Ni (gN 3)) (aw (bK (gW (cz (bW (iB .tuple (af 2)))) (cz (bW (Nj room)))) (aF (fC (.bl false))) aN) (aw (aC hU (gN 4)) (aw (cS (bQ (af 2)) (gN 5) (B2 bits)) (Nk zeros ou))))
theorem Path.Xp {xs p ks r}(h:Path xs p ks r):r.1<2 ^ xs.length:=acg _ λi hi=>by
 rw[h.bits]
 simp only[aex,decide_eq_false_iff_not]
 intro z
 have:=h.lt i z
 omega
noncomputable def Nl (x:Rt):D:=match x.1.dd with
 |.tup [_,_,v]=>v
 |_=>.aA
theorem Nm {p:Int}{xs:List Rt}{g:G}{c2 c3 c4 c5:Option D}(hx:∀x∈xs,bH p x)(hn:xs.length<=100):∃vs,Ni [some (.int p),some (.tup (xs.map rt)),c2,c3,c4,c5] g=some (.lst vs,g):=by
 have hz:aG xs.length=true:=aL (by omega)
 have c1:=gQ (f:=rt) (t:=gN 1) (c:=aH (aq oEq (aq ay (aq ay (af 1) (fC (.int 1))) (fC (.int 0))) (fC (.str "put")))) (e:=aq ay (aq ay (af 1) (fC (.int 1))) (fC (.int 2))) (cB:=λx=>!(cD x.1.dd)) (h:=Nl) (λσ=>∃a,σ = [none,a]) xs [none,none] g ⟨_,rfl⟩ (by
  rintro x hm σ ⟨a,rfl⟩
  refine⟨[none,some (rt x)],by simp,?_,λhl=>?_,⟨_,rfl⟩⟩
  . rcases (hx x hm).r.dd with e|⟨q,v,e,_⟩
    . simp[rt,gD,e,eW,cD,xY]
    . simp[rt,gD,e,eW,cD,vT]
  . rcases (hx x hm).r.dd with e|⟨q,v,e,_⟩
    . rw[e]at hl;simp[cD]at hl
    . simp[rt,gD,e,rn,Nl])
 refine⟨(xs.filter λx=>!(cD x.1.dd)).map Nl,?_⟩
 have sb:∀σ:Sg,bL [none,none] σ = [none,none]:=λ_=>rfl
 unfold Ni
 simp[hz,sb,c1]
theorem IV (hR:qw p room)(hr:Rm p r)(hn:xs.length<=100):room [.int p,.tup (xs.map rt),vs,aT xs r] g=some (.bl true,g):=
 hR (xs.map rt) vs (cw xs.length r.1) r.2 g (j9 _ _) (λk hk=>by
  rw[Zr]
  exact Zm.mp (Zt.mp hk).1) (by rw[Zr];exact hn) hr
noncomputable def dT (rs:List aO):List (aO×D):=rs.map λr=>(r,D.bl true)
theorem yg (rs:List aO):(dT rs).map (·.1)=rs:=by simp[dT,aar]
theorem wu (hb:nK bits)(hn:xs.length<=100):∀(rest done:List aO) (c5:Option D),(∀r∈done++rest,Rm p r/\r.1<2 ^ xs.length)->(done++rest).Nodup->(done++rest).length<=900000 ->
  ∃Nn,forL (gN 5) (B2 bits) (rest.map (aT xs)) [some (.int p),some (.tup (xs.map rt)),c2,c3,some (.aM g.length),c5] (g ++ [dR (dT done)])=some (.nx,[some (.int p),some (.tup (xs.map rt)),c2,c3,some (.aM g.length),Nn],g ++ [dR (dT (done++rest))])
 | [],done,c5,_,_,_=>⟨c5,by simp[forL]⟩
 |r::rest,done,c5,h,d_,hl=>by
  obtain⟨j8,bD⟩:=h r (by simp)
  have kk:=kX j8
  have e1:=hb (cw xs.length r.1) (g ++ [dR (dT done)]) (λk hk=>by have:=Zm.mp (Zt.mp hk).1;omega) (by
   have:=Z8 (λi=>r.1.testBit i) (Y9 xs.length)
   simp at this
   simp only[cw]
   omega)
  rw[Ee bD]at e1
  have Tp:∀e∈dT done,e.1≠r:=λe he z=>by
   obtain⟨q,hq,rfl⟩:=Zc.mp he
   rw[aaq]at d_
   exact d_.2.2 q hq r (by simp) z
  obtain⟨hg,hp⟩:=kY (p:=p) (es:=dT done) (r:=r) (λe he=>by
   obtain⟨q,hq,rfl⟩:=Zc.mp he
   exact(h q (by simp[hq])).1) j8 Tp
  have hs:lX (dR (dT done))=true:=by
   unfold lX aG
   refine decide_eq_true ?_
   rw[BU]
   simp[dT]at hl ⊢
   omega
  have q1:=hp (.bl true)
  have bd:B2 bits [some (.int p),some (.tup (xs.map rt)),c2,c3,some (.aM g.length),some (aT xs r)] (g ++ [dR (dT done)])=some (.nx,[some (.int p),some (.tup (xs.map rt)),c2,c3,some (.aM g.length),some (aT xs r)],g ++ [dR (dT (done ++ [r]))]):=by
   have rd:rD r = .tup [.int (r.1:Nat),.tup r.2]:=rfl
   have dd:dT done ++ [(r,D.bl true)]=dT (done ++ [r]):=by simp[dT]
   rw[dd]at q1
   rw[rd]at kk hg q1
   simp[B2,aT,eW,gD,e1,kk,hs,q1,ach]
  have ap:done++r::rest=(done ++ [r])++rest:=by simp
  rw[ap]at h d_ hl ⊢
  obtain⟨Nn,ih⟩:=wu hb hn (g:=g) (c2:=c2) (c3:=c3) rest (done ++ [r]) (some (aT xs r)) h d_ hl
  refine⟨Nn,?_⟩
  rw[<- ih,Zw]
  simp only[forL,EO,Zb]
  simp[bd]
noncomputable def fg (xs:List Rt)(p:Int)(rs:List aO):Bool:=inR rs (first p)&&rs.all (eh xs rs)
noncomputable def yh (p:Int)(f:Fn):Prop:=∀xs rs g,(∀x∈xs,bH p x)->xs.length<=100->(∀r∈rs,Rm p r/\r.1<2 ^ xs.length)->rs.Nodup->rs.length<=900000->Clean g->f [.int p,.tup (xs.map rt),.tup (rs.map (aT xs))] g=some (.bl (fg xs p rs),g)
theorem Np {bi z room ou:Fn}{p:Int}(p0:0<=p)(hb:nK bi)(hz:kT p z)(hr:qw p room)(hl:∀xs,(∀x∈xs,bH p x)->xs.length<=100->zM xs p ou):yh p (aD false 6 3 (wt bi z room ou)):=λxs rs g hx hn Nq d_ hle hc=>by
 have key:wp (aD false 6 3 (wt bi z room ou) [.int p,.tup (xs.map rt),.tup (rs.map (aT xs))] g) λq=>q=(.bl (fg xs p rs),g):=by
  refine fO rfl ?_
  show wp (wt bi z room ou [some (.int p),some (.tup (xs.map rt)),some (.tup (rs.map (aT xs))),none,none,none] g) _
  obtain⟨vs,e1⟩:=Nm (p:=p) (g:=g) (c2:=some (.tup (rs.map (aT xs)))) (c3:=none) (c4:=none) (c5:=none) hx hn
  have Xq:aG rs.length=true:=by unfold aG;exact decide_eq_true (by omega)
  have c1:=dW (f:=aT xs) (t:=gN 1) (c:=aQ) (e:=ao room (aa (af 2) (aa (af 3) (aa (af 4) (aa (af 1) ag))))) (h:=λ_=>D.bl true) (λσ=>∃a,σ = [none,a,some (.int p),some (.tup (xs.map rt)),some (.lst vs)]) rs [none,none,some (.int p),some (.tup (xs.map rt)),some (.lst vs)] g ⟨_,rfl⟩ (by
   rintro r hm σ ⟨a,rfl⟩
   refine⟨[none,some (aT xs r),some (.int p),some (.tup (xs.map rt)),some (.lst vs)],by simp,by simp,?_,⟨_,rfl⟩⟩
   have:=IV hr (vs:=.lst vs) (g:=g) (Nq r hm).1 hn
   simp[this])
  have bm:=dC (λ_:aO=>true) rs
  have e2:Nj room [some (.int p),some (.tup (xs.map rt)),some (.tup (rs.map (aT xs))),some (.lst vs),none,none] g=some (.bl true,g):=by
   have sb:bL [none,none,some 0,some 1,some 3] ([some (.int p),some (.tup (xs.map rt)),some (.tup (rs.map (aT xs))),some (.lst vs),none,none]:Sg)= [none,none,some (.int p),some (.tup (xs.map rt)),some (.lst vs)]:=rfl
   unfold Nj
   simp[Xq,sb,c1,bm]
  obtain⟨c5,e3⟩:=wu hb hn (xs:=xs) (p:=p) (g:=g) (c2:=some (.tup (rs.map (aT xs)))) (c3:=some (.lst vs)) rs [] none (λr hm=>Nq r (by simpa using hm)) (by simpa using d_) (by simpa using hle)
  rw[aam]at e3
  have FZ:∀e∈dT rs,Rm p e.1:=λe he=>by
   obtain⟨q,hq,rfl⟩:=Zc.mp he
   exact(Nq q hq).1
  have Xr:keys (dT rs)=rs:=yg _
  have Q7:((dT rs).map (·.1)).Nodup:=by rw[yg];exact d_
  have nr:∀n,aW n (dR (dT rs))=true:=λn=>cH λd hd=>by
   obtain⟨e,he,h⟩:=BZ hd
   rcases h with rfl|rfl
   . exact qu (FZ e he) n
   . obtain⟨q,hq,rfl⟩:=Zc.mp he
     rfl
  have cg:Clean (g ++ [dR (dT rs)]):=λys hy n=>by
   rcases Ze.mp hy with h|h
   . exact hc ys h n
   . simp at h;subst h;exact nr n
  have hm:(g ++ [dR (dT rs)])[g.length]? = some (dR (dT rs)):=by simp
  have e4:=hl xs hx hn (dT rs) (g ++ [dR (dT rs)]) g.length FZ Q7 hm cg
  rw[Xr]at e4
  have e5:=hz (g ++ [dR (dT rs)])
  have fr:Rm p (first p):=St.zs p0
  have kk:=kX fr
  have fd:rD (first p)= .tup [.int 0,.tup (zs p)]:=rfl
  have hg:(bf (dR (dT rs)) (rD (first p))).isSome=inR rs (first p):=by
   by_cases df:first p∈rs
   . rw[ng FZ Q7 (Zc.mpr ⟨_,df,rfl⟩),kZ.mpr df];rfl
   . obtain⟨h1,_⟩:=kY (p:=p) FZ fr (λe he z=>df (by
      obtain⟨q,hq,rfl⟩:=Zc.mp he
      rw[<- z];exact hq))
     rw[h1,B1 df];rfl
  rw[fd]at hg kk
  have e6:Nk z ou [some (.int p),some (.tup (xs.map rt)),some (.tup (rs.map (aT xs))),some (.lst vs),some (.aM g.length),c5] (g ++ [dR (dT rs)])=some (.rt (.bl (fg xs p rs)),[some (.int p),some (.tup (xs.map rt)),some (.tup (rs.map (aT xs))),some (.lst vs),some (.aM g.length),c5],g ++ [dR (dT rs)]):=by
   unfold Nk fg
   generalize rs.all (eh xs rs)=bb at *
   generalize inR rs (first p)=cc at *
   generalize rs.map (aT xs)=yy at *
   cases cc<;>simp[e5,kk,hg,e4]
  have fo:forL (gN 5) (B2 bi) (rs.map (aT xs)) [some (.int p),some (.tup (xs.map rt)),some (.tup (rs.map (aT xs))),some (.lst vs),some (.aM g.length),none] (g ++ [[]])=some (.nx,[some (.int p),some (.tup (xs.map rt)),some (.tup (rs.map (aT xs))),some (.lst vs),some (.aM g.length),c5],g ++ [dR (dT rs)]):=e3
  have all_:wt bi z room ou [some (.int p),some (.tup (xs.map rt)),some (.tup (rs.map (aT xs))),none,none,none] g=some (.rt (.bl (fg xs p rs)),[some (.int p),some (.tup (xs.map rt)),some (.tup (rs.map (aT xs))),some (.lst vs),some (.aM g.length),c5],g ++ [dR (dT rs)]):=by
   unfold wt
   generalize rs.map (aT xs)=yy at *
   simp[e1,e2,fo,e6,gJ]
  rw[all_]
  simp only[ff]
  exact⟨by simp[bB],by simpa using hc.all _,by simp,by simp⟩
 obtain⟨q,e,rfl⟩:=key
 exact e
noncomputable def Tq (p:Int)(f:Fn):Prop:=∀xs es g,(∀x∈xs,bH p x)->xs.length<=100->eK xs p es->es.length<=900000->jT xs p es->Clean g->f [.int p,.tup (xs.map rt),.tup ((keys es).map (aT xs))] g=some (.bl true,g)
theorem yh.ok (h:yh p f):Tq p f:=λxs es g hx hn C hle hC hc=>by
 have cb:fg xs p (keys es)=true:=by
  unfold fg eh
  simp only[Y3,Zi,Zx,kZ]
  exact⟨hC.1,λv hv=>⟨(hC.2 v hv).1,λk hk=>(hC.2 v hv).2 k (Zm.mp (Zt.mp hk).1) (Zt.mp hk).2⟩⟩
 rw[<- cb]
 refine h xs (keys es) g hx hn (λr hm=>⟨C.FW hm,?_⟩) C.nd (by simpa[keys]using hle) hc
 obtain⟨e,he,rfl⟩:=Zc.mp hm
 obtain⟨i,hi⟩:=Z7.mp he
 obtain⟨ks,hp⟩:=C.path i e hi
 exact hp.Xp
theorem B3 (hp:Path xs p ks r)(he:eJ xs r.1=true):fg xs p rs=false:=by
 cases hq:fg xs p rs with
 |false=>rfl
 |true =>
  unfold fg eh at hq
  simp only[Y3,Zi,Zx,kZ]at hq
  have:r∈rs:=by
   clear he
   induction hp with
   |nil=>exact hq.1
   |snoc _ hk hc ih=>exact(hq.2 _ ih).2 _ (Zt.mpr ⟨Zm.mpr hk,hc⟩)
  rw[(hq.2 r this).1]at he
  cases he
noncomputable def iI {α:Type}:List (List α)->List (List α)
 | []=>[[]]
 |l::ls=>l.flatMap λa=>(iI ls).map (a :: ·)
noncomputable def j_ (L:List Nat):Nat:=L.foldr (λn a=>(n+1)*a) 1
theorem oQ {α β:Type}(f:α->List β)(h:∀a,(f a).length=n):∀l:List α,(l.flatMap f).length=l.length*n
 | []=>by simp
 |a::l=>by
  rw[List.flatMap_cons,aav,h,oQ f h l,aa8,Nat.add_mul]
  omega
theorem oR {α:Type}(m:Nat->Nat):∀(ls:List (List α)) (L:List Nat),ls.map aca=L.map (· + 1)->(iI ls).length=j_ L
 | [],[],_=>rfl
 |l::ls,n::L,h=>by
  simp only[Zw,adW]at h
  rw[iI,oQ (n:=j_ L) _ (λa=>by rw[Zr];exact oR m ls L h.2),h.1]
  rfl
theorem oS {α:Type}:∀{ls:List (List α)} {xs:List α},xs.length=ls.length->(∀(i:Nat) a l,xs[i]? = some a->ls[i]? = some l->a∈l)->xs∈iI ls
 | [],[],_,_=>by simp[iI]
 |l::ls,x::xs,hl,h=>by
  simp only[iI,afK,Zc]
  exact⟨x,h 0 x l rfl rfl,xs,oS (by simpa using hl) (λi a l' h1 h2=>h (i+1) a l' (by simpa using h1) (by simpa using h2)),rfl⟩
theorem tan (n:Nat):125*(n+1)*4 ^ n<=256*5 ^ n:=by
 by_cases h:n<3
 . have:n=0\/n=1\/n=2:=by omega
   rcases this with rfl|rfl|rfl<;>decide
 . obtain⟨m,rfl⟩:∃m,n=m+3:=⟨n-3,by omega⟩
   clear h
   induction m with
   |zero=>decide
   |succ m ih =>
    have e1:(4:Nat) ^ (m+1+3)=4*4 ^ (m+3):=by rw[show m+1+3=(m+3)+1 by omega,ae5];omega
    have e2:(5:Nat) ^ (m+1+3)=5*5 ^ (m+3):=by rw[show m+1+3=(m+3)+1 by omega,ae5];omega
    rw[e1,e2]
    generalize (4:Nat) ^ (m+3)=a at *
    generalize (5:Nat) ^ (m+3)=b at *
    have h1:125*(m+1+3+1)*(4*a)=(500*m+2500)*a:=by rw[<- acx];congr 1;omega
    have h2:125*(m+3+1)*a*5=(625*m+2500)*a:=by rw[Nat.mul_right_comm];congr 1;omega
    have h3:(500*m+2500)*a<=(625*m+2500)*a:=aey _ (by omega)
    omega
theorem Nr:∀L:List Nat,125 ^ L.length*j_ L*4 ^ L.sum<=256 ^ L.length*5 ^ L.sum
 | []=>by decide
 |n::L=>by
  have h1:=tan n
  have h2:=Nr L
  have:=aea h1 h2
  simp only[aa8,adm,ae5,afr]
  have e1:125 ^ L.length*125*j_ (n::L)*(4 ^ n*4 ^ L.sum)=125*(n+1)*4 ^ n*(125 ^ L.length*j_ L*4 ^ L.sum):=by
   show 125 ^ L.length*125*((n+1)*j_ L)*(4 ^ n*4 ^ L.sum)=_
   generalize 125 ^ L.length=a
   generalize 4 ^ L.sum=b
   generalize 4 ^ n=c
   generalize j_ L=d
   generalize n+1=m
   simp only[adH,afl,acx]
  have e2:256 ^ L.length*256*(5 ^ n*5 ^ L.sum)=256*5 ^ n*(256 ^ L.length*5 ^ L.sum):=by
   simp only[adH,afl,acx]
  rw[e1,e2]
  exact this
theorem IW (L:List Nat)(k:Nat):j_ (Zo k 0++L)=j_ L:=by
 induction k with
 |zero=>rfl
 |succ k ih=>rw[aaC,aa7];show(0+1)*j_ _=_;rw[ih];omega
theorem B4 (hl:L.length<=5)(hs:L.sum<=14):j_ L<=819:=by
 have h:=Nr (Zo (5-L.length) 0++L)
 rw[IW]at h
 have e1:(Zo (5-L.length) 0++L).length=5:=by simp;omega
 have e2:(Zo (5-L.length) 0++L).sum=L.sum:=by simp
 rw[e1,e2]at h
 generalize j_ L=P at *
 generalize L.sum=s at *
 obtain⟨t,ht⟩:∃t,s+t=14:=⟨14-s,by omega⟩
 have h2:=aey (4 ^ t) h
 have h3:(4:Nat) ^ t<=5 ^ t:=Nat.pow_le_pow_left (by omega) t
 have e1:125 ^ 5*P*4 ^ s*4 ^ t=125 ^ 5*P*4 ^ 14:=by rw[acx,<- afr,ht]
 have e2:256 ^ 5*5 ^ s*4 ^ t<=256 ^ 5*5 ^ 14:=by
  rw[<- ht,afr,<- acx]
  exact Nat.mul_le_mul_left _ h3
 rw[e1]at h2
 have h4:=aaa h2 e2
 clear h2 h3 e1 e2 h
 omega
theorem sum_add (A B:Nat->Nat):∀l:List Nat,(l.map λc=>A c+B c).sum=(l.map A).sum+(l.map B).sum
 | []=>rfl
 |c::l=>by simp only[Zw,adm,sum_add A B l];omega
theorem yi (o:Option Nat):∀l:List Nat,l.Nodup->(l.map λc=>if(o == some c)=true then 1 else 0).sum<=1/\((∀c∈l,o≠some c)->(l.map λc=>if(o == some c)=true then 1 else 0).sum=0)
 | [],_=>⟨by simp,λ_=>rfl⟩
 |c::l,h=>by
  rw[aaD]at h
  obtain⟨h1,h2⟩:=yi o l h.2
  simp only[Zw,adm]
  by_cases e:o=some c
  . have z:=h2 λd hd z=>h.1 (by rw[e]at z;cases z;exact hd)
    rw[z]
    refine⟨by split<;>omega,λq=>absurd e (q c (by simp))⟩
  . have:(o == some c)=false:=by simpa using e
    rw[this]
    refine⟨by simpa using h1,λq=>?_⟩
    simpa using h2 λd hd=>q d (by simp[hd])
theorem Ef {β:Type}(f:β->Option Nat)(p:Nat):∀l:List β,((Y9 p).map λc=>(l.filter λb=>f b == some c).length).sum<=l.length
 | []=>by
  have:∀l:List Nat,(l.map λ_=>0).sum=0:=λl=>by induction l with|nil=>rfl|cons a l ih=>simpa using ih
  simp[this]
 |a::l=>by
  have ih:=Ef f p l
  have e:(λc=>((a::l).filter λb=>f b == some c).length)=λc=>(l.filter λb=>f b == some c).length+(if(f a == some c)=true then 1 else 0):=by
   funext c
   rw[aay]
   split<;>simp
  rw[e,sum_add]
  have:=(yi (f a) (Y9 p) acA).1
  simp only[aa8]
  omega
theorem B5 {l:List Nat}{P:Nat->Prop}(hn:l.Nodup)(hp:l.Pairwise λi j=>P j->P i):∃c,c<=l.length /\ ∀i∈l,P i ↔ i∈l.take c:=by
 induction l with
 |nil=>exact⟨0,Za _,λi hi=>by cases hi⟩
 |cons a l ih =>
  rw[aaD]at hn
  rw[acm]at hp
  obtain⟨c,h1,h2⟩:=ih hn.2 hp.2
  by_cases ha:P a
  . refine⟨c+1,by simp;omega,λi hi=>?_⟩
    rw[acZ]
    rcases Zd.mp hi with rfl|hj
    . simp[ha]
    . rw[h2 i hj,Zd]
      constructor
      . exact .inr
      . rintro(rfl|h)
        . exact absurd hj hn.1
        . exact h
  . refine⟨0,ZM _,λi hi=>?_⟩
    simp only[List.take_zero,acB,iff_false]
    intro z
    rcases Zd.mp hi with rfl|hi
    . exact ha z
    . exact ha (hp.1 i hi z)
noncomputable def d_ (xs:List Rt)(i:Nat):Nat:=(aB xs i).1.h.toNat
noncomputable def idx (xs:List Rt)(h:Nat):List Nat:=(Y9 xs.length).filter λi=>some (d_ xs i)== some h
noncomputable def opts (xs:List Rt)(c:Nat):List D:=.int 0::((Y9 xs.length).filter λk=>fA (aB xs k)== some c).map λk=>BO (aB xs k)
noncomputable def Nt (xs:List Rt)(C:List Nat):Nat:=bF xs.length λi=>decide (i∈(idx xs (d_ xs i)).take (C.getD (d_ xs i) 0))
theorem IX:v9 xs T c∈opts xs c:=by
 unfold v9 opts
 split
 . rename_i k hk
   have h1:=acf hk
   have h2:=List.mem_of_find?_eq_some hk
   simp only[Y3]at h1
   exact Zs _ (Zc.mpr ⟨k,Zt.mpr ⟨h2,h1.2⟩,rfl⟩)
 . simp
theorem Eg:v_ p xs T∈iI ((Y9 p.toNat).map (opts xs)):=by
 refine oS (by simp[v_]) λi a l h1 h2=>?_
 have hi:i<p.toNat:=by
  have:=(Y7.mp h2).1
  simpa using this
 simp[v_,hi]at h1
 simp[hi]at h2
 subst h1 h2
 exact IX
theorem IY {xs:List Rt}{p:Int}{ks:List Nat}{r:aO}(hh:∀x∈xs,x.1.h<=4)(hx:∀x∈xs,bH p x)(pw:xs.Pairwise xZ)(h:Path xs p ks r):r.1∈(iI ((Y9 5).map λh=>Y9 ((idx xs h).length+1))).map (Nt xs):=by
 have hb:=h.bits
 have pre:∀q:Nat,∃c,c<=(idx xs q).length /\ ∀i∈idx xs q,i∈ks ↔ i∈(idx xs q).take c:=λq=>by
   refine B5 ?_ ?_
   . exact acA.filter _
   . have:(Y9 xs.length).Pairwise (· < ·):=ad2
     refine(abh.mp (this.filter λi=>some (d_ xs i)== some q)).imp fun {i j} gF hj=>?_
     obtain⟨hi,uA,bD⟩:=gF
     obtain⟨i1,i2⟩:=Zt.mp hi
     obtain⟨j1,j2⟩:=Zt.mp uA
     have i1:=Zm.mp i1
     have j1:=Zm.mp j1
     have e1:d_ xs i=q:=by simpa using i2
     have e2:d_ xs j=q:=by simpa using j2
     refine h.early j hj i i1 ?_
     have ei:aB xs i=xs[i]:=by simp[aB,i1]
     have ej:aB xs j=xs[j]:=by simp[aB,j1]
     have hA:=aaF.mp pw i j i1 j1 bD
     have YU:=(hx _ (b8 i1)).r.h0
     have YV:=(hx _ (b8 j1)).r.h0
     unfold d_ at e1 e2
     obtain⟨e,h1,h2⟩:=hA.2 (by rw[<- ei,<- ej];omega)
     rw[qh,ei,ej,h1]
     simp[h2]
 refine Zc.mpr ⟨(Y9 5).map λq=>adM (pre q),?_,?_⟩
 . refine oS (by simp) λi a l h1 h2=>?_
   have hi:i<5:=by
     have:=(Y7.mp h2).1
     simpa using this
   simp[hi]at h1
   simp[hi]at h2
   subst h1 h2
   have:=(aem (pre i)).1
   exact Zm.mpr (by omega)
 . refine aaZ λi=>?_
   unfold Nt
   rw[m9,hb]
   by_cases hi:i<xs.length
   . have h4:=hh _ (b8 hi)
     have h5:d_ xs i<5:=by unfold d_;omega
     have e:((Y9 5).map λq=>adM (pre q)).getD (d_ xs i) 0=adM (pre (d_ xs i)):=by simp[ab_,h5]
     rw[e]
     have hm:i∈idx xs (d_ xs i):=Zt.mpr ⟨Zm.mpr hi,by simp⟩
     have:=(aem (pre (d_ xs i))).2 i hm
     simp only[hi,decide_true,ab9,aex]
     exact decide_eq_decide.mpr this.symm
   . have:i ∉ ks:=λz=>hi (h.lt i z)
     simp[hi,this]
theorem B6 (p0:0<=p)(p5:p<=5)(hx:∀x∈xs,bH p x)(hn:xs.length<=14)(hh:∀x∈xs,x.1.h<=4)(pw:xs.Pairwise xZ):wo xs p:=λes C=>by
 have sub:=jQ (V:=keys es) (W:=((iI ((Y9 5).map λh=>Y9 ((idx xs h).length+1))).map (Nt xs)).flatMap λb=>(iI ((Y9 p.toNat).map (opts xs))).map λs=>(b,s)) C.nd λr hr=>by
  obtain⟨e,he,rfl⟩:=Zc.mp hr
  obtain⟨i,hi⟩:=Z7.mp he
  obtain⟨ks,hp⟩:=C.path i e hi
  obtain⟨T,_,_,h3⟩:=hp.tags p0 hx
  refine afK.mpr ⟨e.1.1,IY hh hx pw hp,Zc.mpr ⟨e.1.2,?_,rfl⟩⟩
  rw[h3]
  exact Eg
 have l1:(iI ((Y9 5).map λh=>Y9 ((idx xs h).length+1))).length=j_ ((Y9 5).map λh=>(idx xs h).length):=oR id _ _ (by simp[aar])
 have l2:(iI ((Y9 p.toNat).map (opts xs))).length=j_ ((Y9 p.toNat).map λc=>((Y9 xs.length).filter λk=>fA (aB xs k)== some c).length):=oR id _ _ (by simp[aar,opts])
 have s1:=Ef (λi=>some (d_ xs i)) 5 (Y9 xs.length)
 have s2:=Ef (λk=>fA (aB xs k)) p.toNat (Y9 xs.length)
 rw[acr]at s1 s2
 have b1:=B4 (L:=(Y9 5).map λh=>(idx xs h).length) (by simp) (aaa s1 hn)
 have b2:=B4 (L:=(Y9 p.toNat).map λc=>((Y9 xs.length).filter λk=>fA (aB xs k)== some c).length) (by simp;omega) (aaa s2 hn)
 rw[oQ (n:=(iI ((Y9 p.toNat).map (opts xs))).length) _ (λb=>by rw[Zr]),Zr,l1,l2]at sub
 have:=aea b1 b2
 have kl:(keys es).length=es.length:=by simp[keys]
 rw[kl]at sub
 omega
theorem sT:∀{a b seen:List Nat},cE xs seen (a++o::b)=true->∀i∈seen++a,dJ (aB xs o) (aB xs i)=false
 | [],b,seen,h,i,hi=>by
  rw[abI]at hi
  simp only[aam,cE,Y3,Zx,ads]at h
  simpa using h.1 i hi
 |c::a,b,seen,h,i,hi=>by
  simp only[aa7,cE,Y3]at h
  exact sT (seen:=seen ++ [c]) h.2 i (by simpa using hi)
theorem wx:∀{a b:List Rt} {st:List D},dk st (a++x::b)=true->qg x (a.foldl (λs y=>cJ s y.1.dd) st)=true
 | [],b,st,h=>by
  simp only[aam,dk,Y3]at h
  exact h.1
 |y::a,b,st,h=>by
  simp only[aa7,dk,Y3]at h
  rw[acM]
  exact wx (a:=a) h.2
theorem IZ (hx:∀x∈xs,bH p x)(bD:∀k∈ks,k<xs.length)(h:sQ p xs ks=true):∃r,Path xs p ks r/\eJ xs r.1=true:=by
 simp only[sQ,Y3,decide_eq_true_eq]at h
 obtain⟨h1,h2,h3,h4⟩:=h
 have df:∀o,o<xs.length->(aB xs o).1.e.isSome=true->o∈ks:=λo ho hs=>by
  unfold kr at h2
  rw[Zi]at h2
  have hm:(aB xs o,o)∈xs.zipIdx:=ZY (show xs.zipIdx[o]? = some (aB xs o,o) by simp[aB,ho])
  have:=h2 _ hm
  dsimp only at this
  cases hq:(aB xs o).1.e with
  |none=>rw[hq]at hs;cases hs
  |some e=>rw[hq]at this;simpa using this
 have go:∀(n:Nat) (a b:List Nat),a.length=n->ks=a++b->∃r,Path xs p a r:=λn=>by
  induction n with
  |zero=>exact λa b hl _=>by cases a with|nil=>exact⟨_,Path.nil⟩|cons c a=>simp at hl
  |succ n ih =>
   intro a' b hl e
   rcases acF a' with rfl|⟨a,k,rfl⟩
   . simp at hl
   rw[ael]at *
   obtain⟨r,hp⟩:=ih a (k::b) (by simpa using hl) (by rw[e];simp)
   refine⟨bM xs r k,Path.snoc hp (bD k (by rw[e];simp)) ?_⟩
   have hb:=hp.bits
   simp only[dD,Y3,Zx,Zi]
   refine⟨?_,λo ho=>?_,?_⟩
   . rw[hb]
     have:k ∉ a:=λz=>by
       rw[e,aaI]at h1
       rw[aaq]at h1
       exact h1.2.2 k z k (by simp) rfl
     simp[this]
   . obtain⟨o1,o2⟩:=Zt.mp ho
     have o1:=Zm.mp o1
     have hs:(aB xs o).1.e.isSome=true:=by
       rw[qh]at o2
       cases hq:(aB xs o).1.e with
       |none=>rw[hq]at o2;cases o2
       |some e=>rfl
     have hk:=df o o1 hs
     rw[hb]
     rw[e,aaI]at hk
     rcases Ze.mp hk with hk|hk
     . simpa using hk
     . have hk:o=k\/o∈b:=by simpa using hk
       exfalso
       rcases hk with rfl|hk
       . rw[qh]at o2
         cases hq:(aB xs o).1.e with
         |none=>rw[hq]at o2;cases o2
         |some e =>
          rw[hq]at o2
          have:=(hx _ (b8 o1)).r.eb e hq
          simp at o2
          omega
       . obtain⟨b1,b2,rfl⟩:=ade hk
         have e3:ks=(a ++ [k]++b1)++o::b2:=by rw[e];simp
         rw[e3]at h3
         rw[sT h3 k (by simp)]at o2
         cases o2
   . have e4:ks.map (aB xs)=a.map (aB xs)++aB xs k::b.map (aB xs):=by rw[e];simp
     rw[e4]at h4
     rw[hp.st]
     exact wx h4
 obtain⟨r,hp⟩:=go ks.length ks [] rfl (by simp)
 exact⟨r,hp,by rw[hp.end_];exact h2⟩
theorem wy (hx:∀x∈xs,bH p x)(hC:jT xs p es)(d:D):RB p xs d=false:=by
 cases d with
 |tup ts =>
  cases hq:RB p xs (.tup ts)with
  |false=>rfl
  |true =>
   simp only[RB,Y3]at hq
   obtain⟨_,h2⟩:=zC hq.1
   obtain⟨r,hp,he⟩:=IZ hx h2 hq.2
   rw[(hC.no hp).2]at he
   cases he
 |_=>rfl
theorem yj:∀{l m:List Nat},l.Pairwise (· < ·)->m.Pairwise (· < ·)->(∀x,x∈l ↔ x∈m)->l=m
 | [],[],_,_,_=>rfl
 | [],b::m,_,_,h=>by have:=(h b).mpr (by simp);cases this
 |a::l,[],_,_,h=>by have:=(h a).mp (by simp);cases this
 |a::l,b::m,h1,h2,h=>by
  rw[acm]at h1 h2
  have e:a=b:=by
    have ha:=(h a).mp (by simp)
    have hb:=(h b).mpr (by simp)
    rcases Zd.mp ha with e|ha
    . exact e
    . rcases Zd.mp hb with e|hb
      . exact e.symm
      . have:=h2.1 a ha
        have:=h1.1 b hb
        omega
  subst e
  rw[yj h1.2 h2.2 λx=>?_]
  constructor
  . intro hx
    rcases Zd.mp ((h x).mp (by simp[hx]))with rfl|hm
    . exact absurd (h1.1 x hx) (aaz _)
    . exact hm
  . intro hx
    rcases Zd.mp ((h x).mpr (by simp[hx]))with rfl|hm
    . exact absurd (h2.1 x hx) (aaz _)
    . exact hm
theorem I_ (hn:ks.Nodup)(hl:ks.length<64)(hb:∀i,i∈ks ↔ i<n/\b.testBit i=true)(hg:g[m]? = some (kD ks)):ib [.ref m] g=some (.lst (kD (cw n b)),g):=by
 have mem:∀x,x∈ks ↔ x∈cw n b:=λx=>by rw[hb];unfold cw;simp
 have lo:dS (.ref m) g=some (kD ks):=by simp[dS,hg]
 show(match gp [.ref m] g with|some r=>some r|none=>iC [.ref m] g)=_
 by_cases h2:ks.length<2
 . have e:ks=cw n b:=by
    refine yj ?_ (j9 _ _) mem
    match ks,h2 with
    | [],_=>exact .nil
    | [a],_=>simp
   have so:pY (kD ks)=true:=by
    match ks,h2 with
    | [],_=>rfl
    | [a],_=>simp[pY,kD,aU,flat,bX,dep,ltN]
   have sd:h_ (kD ks)=kD ks:=by
    unfold h_
    rw[if_pos (by simpa[kD]using h2)]
   have:gp [.ref m] g=some (.lst (kD ks),g):=by
    simp only[gp,lo,Zb]
    rw[if_pos so,sd]
   rw[this,<- e]
 . have so:pY (kD ks)=false:=by
    cases hq:pY (kD ks)with
    |false=>rfl
    |true =>
      simp only[pY,Y3,ZR,decide_eq_true_eq,Zi]at hq
      obtain⟨⟨⟨⟨_,_⟩,_⟩,h5⟩,_⟩:=hq
      cases ks with
      |nil=>exact absurd (by decide) h2
      |cons a t =>
       rcases h5 with h5|h5|h5
       . exact absurd (by simpa[kD]using h5) h2
       . exact absurd (h5 (.int a) (by simp[kD])) (by simp[lC])
       . exact absurd (h5 (.int a) (by simp[kD])) (by simp[lC])
   have e1:gp [.ref m] g=none:=by
    simp only[gp,lo,Zb]
    rw[if_neg (by rw[so];simp)]
   have e2:PySem.W.sortI (ks.map λ(i:Nat)=>(i:Int))=(cw n b).map λ(i:Nat)=>(i:Int):=by
    refine(PySem.W.eq_sortI ?_ ?_).symm
    . refine List.Perm.map _ ?_
      exact((List.perm_ext_iff_of_nodup hn ((j9 n b).imp λh=>Zk h)).mpr mem).symm
    . rw[aab]
      exact(j9 n b).imp λh=>by omega
   have id_:dh (kD ks)=some (ks.map λ(i:Nat)=>(i:Int)):=by
    have:=mZ (ks.map λ(i:Nat)=>(i:Int))
    rw[Z2]at this
    exact this
   rw[e1]
   simp only[iC,lo,Zb,id_]
   rw[if_pos (by simpa using hl),e2,Z2]
   rfl
theorem B7 {α β:Type}{f:α->Option β}{h:α->β}:∀{l:List α},(∀x∈l,f x=some (h x))->l.filterMap f=l.map h
 | [],_=>rfl
 |x::l,hh=>by rw[aag,hh x (by simp),Zw,B7 λy hy=>hh y (by simp[hy])]
theorem Nu {rs:List D}{g:G}(hl:rs.length<=1000):qN (.tup rs) none none (some (-1)) g=some (.tup rs.reverse,g):=by
 have e1:(bq rs.length none none (-1)).1=(rs.length:Int)-1:=by
  simp only[bq,aac,aap]
  simp
 have e2:(bq rs.length none none (-1)).2=rs.length:=by
  simp only[bq,aac,aap]
  simp<;>omega
 have z:aG (bq rs.length none none (-1)).2=true:=aL (by omega)
 have e3:fw rs (bq rs.length none none (-1)).1 (bq rs.length none none (-1)).2 (-1)=rs.reverse:=by
  rw[e1,e2]
  unfold fw
  rw[B7 (h:=λk=>rs.reverse.getD k .aA) λk hk=>?_]
  . refine aaO (by simp) λi h1 h2=>?_
    simp at h2
    simp[h2]
  . have hk:=Zm.mp hk
    have e:((rs.length:Int)-1+(k:Int)*(-1)).toNat=rs.length-1-k:=by omega
    rw[e,ab_,aej hk,Y8 (by omega)]
    rfl
 unfold qN
 simp only[z,e3]
 rfl
noncomputable def b_ (xs:List Rt):aO->List Nat->List aO
 |_,[]=>[]
 |r,k::ks=>bM xs r k::b_ xs (bM xs r k) ks
noncomputable def wz (xs:List Rt):aO->List Nat->aO
 |r,[]=>r
 |r,k::ks=>wz xs (bM xs r k) ks
inductive Walk (xs:List Rt):aO->List Nat->Prop
 |nil {r}:Walk xs r []
 |cons {r k ks}:k<xs.length->dD xs r k=true->Walk xs (bM xs r k) ks->Walk xs r (k::ks)
theorem sU:∀{ks:List Nat} {r:aO},wz xs r (ks ++ [k])=bM xs (wz xs r ks) k
 | [],_=>rfl
 |_::ks,_=>sU (ks:=ks)
theorem Walk.snoc (h:Walk xs r ks)(hk:k<xs.length)(hc:dD xs (wz xs r ks) k=true):Walk xs r (ks ++ [k]):=by
 induction h with
 |nil=>exact .cons hk hc .nil
 |cons h1 h2 _ ih=>exact .cons h1 h2 (ih hc)
theorem Path.walk (h:Path xs p ks r):Walk xs (first p) ks/\wz xs (first p) ks=r:=by
 induction h with
 |nil=>exact⟨.nil,rfl⟩
 |snoc _ hk hc ih=>exact⟨ih.1.snoc hk (by rw[ih.2];exact hc),by rw[sU,ih.2]⟩
theorem sV:∀{ks:List Nat} {r v:aO},v∈b_ xs r ks->(∀i,r.1.testBit i=true->v.1.testBit i=true) /\ ∃k,ks.head? = some k/\v.1.testBit k=true
 | [],_,_,h=>by cases h
 |k::ks,r,v,h=>by
  have hn:∀i,r.1.testBit i=true->(bM xs r k).1.testBit i=true:=λi hi=>by rw[jv,hi];rfl
  have hk:(bM xs r k).1.testBit k=true:=by rw[jv];simp
  rcases Zd.mp h with rfl|h
  . exact⟨hn,k,rfl,hk⟩
  . obtain⟨h1,_⟩:=sV h
    exact⟨λi hi=>h1 i (hn i hi),k,rfl,h1 k hk⟩
theorem Ja (h:Walk xs r ks):(r::b_ xs r ks).Nodup:=by
 induction h with
 |nil=>simp[b_]
 | @cons r k ks hk hc h ih =>
  show(r::(bM xs r k::b_ xs (bM xs r k) ks)).Nodup
  rw[aaD]
  refine⟨λhm=>?_,ih⟩
  have mH:r∈b_ xs r (k::ks):=hm
  obtain⟨_,k',e,hb⟩:=sV mH
  cases e
  simp[dD,hb]at hc
theorem yk (hx:∀x∈xs,bH p x)(h:Walk xs r ks)(hr:Rm p r/\r.1<2 ^ xs.length):∀v∈r::b_ xs r ks,Rm p v/\v.1<2 ^ xs.length:=by
 induction h with
 |nil=>intro v hv;simp[b_]at hv;subst hv;exact hr
 | @cons r k ks hk hc h ih =>
  intro v hv
  rcases Zd.mp hv with rfl|hv
  . exact hr
  . refine ih ⟨St.put hr.1 (hx _ (b8 hk)).r.dd,acg _ λi hi=>?_⟩ v hv
    rw[jv]
    have h1:r.1.testBit i=false:=ad1 (ZD hr.2 (aew (by omega) hi))
    have h2:¬i=k:=by omega
    simp[h1,h2]
noncomputable def Nv:FS:=cX (cq isRef b7 (af 4) (aa (af 6) ag))
noncomputable def F0:FS:=bK (aH (aq oEq (aq ay (aq ay (aq ay (af 1) (af 6)) (fC (.int 1))) (fC (.int 0))) (fC (.str "put")))) (aC (aq aV (aq aV (dX (af 3) cN (cC (aq ay (aq ay (aq ay (af 1) (af 6)) (fC (.int 1))) (fC (.int 1))))) (aK aJ (aa (aq ay (aq ay (aq ay (af 1) (af 6)) (fC (.int 1))) (fC (.int 2))) ag))) (dX (af 3) (cC (aq aV (aq ay (aq ay (aq ay (af 1) (af 6)) (fC (.int 1))) (fC (.int 1))) (fC (.int 1)))) cN)) (gN 3)) aN
noncomputable def Nw:FS:=cX (cq isRef b7 (af 5) (aa (aK aJ (aa (ao da (aa (ao ib (aa (af 4) ag)) ag)) (aa (af 3) ag))) ag))
noncomputable def ym:FS:=aw Nv (aw F0 Nw)
noncomputable def nh:FS:=aw (pM 3 4 5 (aa (aq bU (aK aJ (aa (fC (.int 0)) ag)) (af 0)) (aa (aK mkRef ag) (aa (aK mkRef (aa (aK aJ (aa (aK aJ ag) (aa (aq bU (aK aJ (aa (fC (.int 0)) ag)) (af 0)) ag))) ag)) ag)))) (aw (cS (bQ (af 2)) (gN 6) ym) (aF (ao da (aa (af 5) ag))))
noncomputable abbrev P7 (p:Int)(xs:List Rt)(o:D)(st:List D)(n:Nat)(c6:Option D):Sg:=[some (.int p),some (.tup (xs.map rt)),some o,some (.tup st),some (.ref n),some (.ref (n+1)),c6]
theorem Nx (hp:p<=100)(hx:∀x∈xs,bH p x)(hk:k<xs.length)(hs:St p st):F0 (P7 p xs o st n (some (.int (k:Nat)))) g=some (.nx,P7 p xs o (cJ st (aB xs k).1.dd) n (some (.int (k:Nat))),g):=by
 have gk:=eY (kU hk)
 have Mz:=hs.1
 rcases (hx _ (b8 hk)).r.dd with hd|⟨c,v,hd,c0,c1,hv⟩
 . simp[F0,gk,rt,gD,hd,eW,xY,cJ]
 . obtain⟨cn,rfl⟩:∃cn:Nat,c=cn:=⟨c.toNat,by omega⟩
   have dI:cn<st.length:=by omega
   have s1:gC (.tup st) none (some (cn:Int)) g=some (.tup (st.take cn),g):=hG (pL dI)
   have s2:gC (.tup st) (some ((cn:Int)+1)) none g=some (.tup (st.drop (cn+1)),g):=hG (nz dI)
   have y1:aG (min cn st.length+1)=true:=aL (by omega)
   have y2:aG (min cn st.length+1+(st.length-(cn+1)))=true:=aL (by omega)
   simp[F0,gk,rt,gD,eW,rn,hd,cJ,s1,s2,y1,y2]
theorem yn (hp:p<=100)(hx:∀x∈xs,bH p x)(hl:xs.length<=50):∀(ks:List Nat) (r:aO) (done:List Nat) (fd:List aO) (c6:Option D),Walk xs r ks->Rm p r->done.Nodup->(∀i,i∈done ↔ i<xs.length/\r.1.testBit i=true)->fd.length+ks.length<=1000 ->
  ∃cL yo d',forL (gN 6) ym (kD ks) (P7 p xs o r.2 g.length c6) (g ++ [kD done,fd.map (aT xs)])=some (.nx,P7 p xs o cL g.length yo,g ++ [d',(fd++b_ xs r ks).map (aT xs)])
 | [],r,done,fd,c6,_,_,_,_,_=>⟨r.2,c6,kD done,by simp[kD,forL,b_]⟩
 |k::ks,r,done,fd,c6,hw,hr,d_,hb,hsz=>by
  cases hw with
  |cons hk hc hw =>
  have Q8:r.1.testBit k=false:=by
   simp only[dD,Y3,Zx]at hc
   exact hc.1
  have qc:k ∉ done:=λz=>by rw[(hb k).mp z |>.2]at Q8;cases Q8
  have Eh:(done ++ [k]).Nodup:=by
   rw[aaq]
   exact⟨d_,by simp,λa ha b eE z=>by simp at eE;subst eE;subst z;exact qc ha⟩
  have eE:∀i,i∈done ++ [k]↔ i<xs.length/\(bM xs r k).1.testBit i=true:=λi=>by
   rw[jv]
   simp only[Ze,abK,hb,ZR,decide_eq_true_eq]
   constructor
   . rintro(⟨h1,h2⟩|rfl)
     . exact⟨h1,.inl h2⟩
     . exact⟨hk,.inr rfl⟩
   . rintro⟨h1,h2|h2⟩
     . exact .inl ⟨h1,h2⟩
     . exact .inr h2
  have dl:=jQ (W:=Y9 xs.length) Eh λi hi=>Zm.mpr ((eE i).mp hi).1
  rw[acr]at dl
  have YW:done.length+1<=xs.length:=by simpa using dl
  have kd:kD done ++ [.int (k:Nat)]=kD (done ++ [k]):=by simp[kD]
  have z1:aG ((kD done).length+1)=true:=aL (by simp[kD];omega)
  have eD:Nv (P7 p xs o r.2 g.length (some (.int (k:Nat)))) (g ++ [kD done,fd.map (aT xs)])=some (.nx,P7 p xs o r.2 g.length (some (.int (k:Nat))),g ++ [kD (done ++ [k]),fd.map (aT xs)]):=by
   rw[<- kd]
   generalize kD done=dd at *
   simp[Nv,z1,ach]
  have eS:=Nx (o:=o) (n:=g.length) (g:=g ++ [kD (done ++ [k]),fd.map (aT xs)]) hp hx hk hr
  have so:=I_ (n:=xs.length) (b:=(bM xs r k).1) (m:=g.length) (g:=g ++ [kD (done ++ [k]),fd.map (aT xs)]) Eh (by simp;omega) eE (by simp)
  have z2:aG (kD (cw xs.length (bM xs r k).1)).length=true:=aL (by
   have:=Z8 (λi=>(bM xs r k).1.testBit i) (Y9 xs.length)
   simp at this
   simp[kD,cw]
   omega)
  have z3:aG ((fd.map (aT xs)).length+1)=true:=aL (by simp at hsz ⊢;omega)
  have a1:(g ++ [kD (done ++ [k]),fd.map (aT xs)])[g.length+1]? = some (fd.map (aT xs)):=by simp
  have ny:aT xs (bM xs r k)= .tup [.tup (kD (cw xs.length (bM xs r k).1)),.tup (cJ r.2 (aB xs k).1.dd)]:=rfl
  have Xs:∀a b c:List D,(g ++ [a,b]).set (g.length+1) c=g ++ [a,c]:=λa b c=>by simp[ach]
  have eF:Nw (P7 p xs o (cJ r.2 (aB xs k).1.dd) g.length (some (.int (k:Nat)))) (g ++ [kD (done ++ [k]),fd.map (aT xs)])=some (.nx,P7 p xs o (cJ r.2 (aB xs k).1.dd) g.length (some (.int (k:Nat))),g ++ [kD (done ++ [k]),(fd ++ [bM xs r k]).map (aT xs)]):=by
   rw[aat,adf,ny]
   generalize kD (cw xs.length (bM xs r k).1)=BB at *
   generalize fd.map (aT xs)=FF at *
   generalize kD (done ++ [k])=DD at *
   generalize cJ r.2 (aB xs k).1.dd=SS at *
   simp[Nw,so,da,cv,z2,a1,z3,Xs]
  obtain⟨cL,yo,d',ih⟩:=yn (o:=o) (g:=g) hp hx hl ks (bM xs r k) (done ++ [k]) (fd ++ [bM xs r k]) (some (.int (k:Nat))) hw (St.put hr (hx _ (b8 hk)).r.dd) Eh eE (by simp at hsz ⊢;omega)
  refine⟨cL,yo,d',?_⟩
  have e3:fd++b_ xs r (k::ks)=fd ++ [bM xs r k]++b_ xs (bM xs r k) ks:=by simp[b_]
  rw[e3,<- ih]
  show forL (gN 6) ym (.int (k:Nat)::kD ks) _ _=_
  simp only[forL,EO,Zb]
  show(ym (P7 p xs o r.2 g.length (some (.int (k:Nat)))) (g ++ [kD done,fd.map (aT xs)])).bind _=_
  simp only[ym,cP,eD,eS,eF,Zb]
  rfl
noncomputable def qx (p:Int)(f:Fn):Prop:=∀xs ks g,(∀x∈xs,bH p x)->xs.length<=50->Walk xs (first p) ks->ks.length<=100->Clean g->f [.int p,.tup (xs.map rt),.tup (kD ks)] g=some (.tup ((first p::b_ xs (first p) ks).map (aT xs)),g)
theorem Jb (h0:0<=p)(hp:p<=100):qx p (aD false 7 3 nh):=λxs ks g hx hl hw hk hc=>by
 have key:wp (aD false 7 3 nh [.int p,.tup (xs.map rt),.tup (kD ks)] g) λq=>q=(.tup ((first p::b_ xs (first p) ks).map (aT xs)),g):=by
  refine fO rfl ?_
  show wp (nh [some (.int p),some (.tup (xs.map rt)),some (.tup (kD ks)),none,none,none,none] g) _
  have mz:∀g,bU (.tup [.int 0]) (.int p) g=some (.tup (zs p),g):=λg=>by
   rw[yX (by omega) (by omega) (by simp)]
   simp[zs]
  have fr:Rm p (first p):=St.zs h0
  obtain⟨cL,yo,d',e⟩:=yn (o:=.tup (kD ks)) (g:=g) hp hx hl ks (first p) [] [first p] none hw fr .nil (λi=>by simp[first]) (by simp;omega)
  have nf:aT xs (first p)= .tup [.tup [],.tup (zs p)]:=by
   have:cw xs.length (first p).1 = []:=by
    unfold cw first
    rw[ad3]
    intro a _
    simp
   show D.tup [.tup (kD (cw xs.length (first p).1)),.tup (first p).2]=_
   rw[this]
   rfl
  have e':forL (gN 6) ym (kD ks) [some (.int p),some (.tup (xs.map rt)),some (.tup (kD ks)),some (.tup (zs p)),some (.ref g.length),some (.ref (g.length+1)),none] (g ++ [[],[.tup [.tup [],.tup (zs p)]]])=some (.nx,P7 p xs (.tup (kD ks)) cL g.length yo,g ++ [d',([first p]++b_ xs (first p) ks).map (aT xs)]):=by
   rw[<- e,<- nf]
   rfl
  have wl:∀(ks:List Nat) (r:aO),(b_ xs r ks).length=ks.length:=λks=>by
   induction ks with
   |nil=>intro r;rfl
   |cons k ks ih=>intro r;simp[b_,ih]
  have hz:aG ((first p::b_ xs (first p) ks).map (aT xs)).length=true:=aL (by simp[wl];omega)
  have B8:=yk hx hw ⟨fr,Nat.pow_pos (by omega)⟩
  have nr:aW g.length ((first p::b_ xs (first p) ks).map (aT xs))=true:=cH λd hd=>by
   obtain⟨v,hv,rfl⟩:=Zc.mp hd
   exact(ye (B8 v hv).1).2.2 _
  have all_:nh [some (.int p),some (.tup (xs.map rt)),some (.tup (kD ks)),none,none,none,none] g=some (.rt (.tup ((first p::b_ xs (first p) ks).map (aT xs))),P7 p xs (.tup (kD ks)) cL g.length yo,g ++ [d',(first p::b_ xs (first p) ks).map (aT xs)]):=by
   rw[abU]at e'
   unfold nh
   generalize (first p::b_ xs (first p) ks).map (aT xs)=ZZ at *
   generalize kD ks=kk at *
   simp[mz,e',da,cv,hz]
  rw[all_]
  simp only[ff]
  exact⟨by simpa[bB]using nr,by simpa using hc.all _,by simp,by simp⟩
 obtain⟨q,e,rfl⟩:=key
 exact e
noncomputable def F1:FT:=aH (aq kq (af 2) (aK cj ag))
noncomputable def Ny (take:Fn):FS:=cX (cq isRef b7 (af 3) (aa (cq isRef ko (af 2) (aa (ao take (aa (af 0) (aa (ao cx (aa (af 2) ag)) ag))) ag)) ag))
noncomputable def tV (take:Fn):FS:=aw (qL 2 3 (aa (ao jq (aa (af 1) ag)) (aa (aK mkRef ag) ag))) (aw (kG 1000000 F1 (Ny take)) (aF (ao da (aa (af 3) ag))))
noncomputable def k_ (d:D):Prop:=∃i:Int,d = .int i
theorem Ei (h:∀d∈ds,k_ d)(n:Nat):aW n ds=true:=cH λd hd=>by obtain⟨i,rfl⟩:=h d hd;rfl
theorem Tr {gg:G}{m k:Nat}{ys:List D}(h:gg[m]? = some ys)(hk:k<ys.length)(h2:ys.length<=900):∃y,y∈ys/\ko (.ref m) [.int k] gg=some (y,gg.set m (ys.eraseIdx k)):=by
 have h1:(-1000000:Int)<=(k:Int):=by omega
 have h3:(k:Int)<=1000000:=by omega
 have h4:ac9 (k:Int) ys.length=some k:=by
  unfold ac9
  have a1:¬(k:Int)<0:=by omega
  have a2:(k:Int)<(ys.length:Int):=by omega
  simp[a1,hk]
 refine⟨ys[k],aaf hk,?_⟩
 simp[ko,h,h1,h3,h4,hk]
theorem yp {take:Fn}(ht:dU take){n:Nat}{g:G}{d1:D}:∀(m:Nat) (f:Nat) (ls ss:List D) (gg:G) (B:Int),ls.length=m->m<f->ss.length+m<=100->(∀d∈ls,k_ d)->(∀d∈ss,k_ d)->B+(m:Int)+100<2 ^ 40->cO g gg n B [ls,ss] ->
  wp (iQ F1 (Ny take) f [some (.ref n),some d1,some (.ref g.length),some (.ref (g.length+1))] gg) λr=>r.1 = .nx/\r.2.1 = [some (.ref n),some d1,some (.ref g.length),some (.ref (g.length+1))] /\ ∃B9,(∀d∈B9,k_ d)/\B9.length=ss.length+m/\cO g r.2.2 n (B+m) [[],B9]
 |m,0,_,_,_,_,_,h,_,_,_,_,_=>by omega
 |m,f+1,ls,ss,gg,B,hm,hf,hz,hl,hs,hB,M=>by
  have a0:=M.a0
  have a1:=M.a1
  obtain⟨fl,dl⟩:=lH hl
  have nn:=x8 a0 fl (by omega)
  have ec:F1 [some (.ref n),some d1,some (.ref g.length),some (.ref (g.length+1))] gg=some (!ls.isEmpty,gg):=by
   simp[F1,nn]
  simp only[iQ,ec,Zb]
  cases ls with
  |nil =>
   simp at hm
   subst hm
   simp
   exact⟨ss,hs,rfl,by simpa using M⟩
  |cons x ls =>
   simp
   unfold Ny
   simp[a0,cv]
   refine ht.w (by omega) (by omega) (by simp at hm hz;omega) M.hd λr g2 r0 r1 h2 f2=>?_
   have M2:=M.step h2 f2
   have b0:=M2.a0
   obtain⟨k,rfl⟩:∃k:Nat,r=k:=⟨r.toNat,by omega⟩
   have hk:k<(x::ls).length:=by simp;omega
   obtain⟨y,hy,ep⟩:=Tr b0 hk (by simp at hm hz ⊢;omega)
   simp
   refine⟨_,ep,?_⟩
   have M3:=M2.put 0 ((x::ls).eraseIdx k)
   have c1:=M3.a1
   have zz:aG (ss.length+1)=true:=aL (by simp at hm;omega)
   simp at c1
   simp[c1,zz]
   have M4:=M3.put 1 (ss ++ [y])
   have el:((x::ls).eraseIdx k).length=m-1:=by rw[List.length_eraseIdx_of_lt hk,hm]
   have m1:1<=m:=by simp at hm;omega
   have YX:(((m-1:Nat):Int))=(m:Int)-1:=by omega
   have ih:=yp ht (n:=n) (g:=g) (d1:=d1) (m-1) f ((x::ls).eraseIdx k) (ss ++ [y]) _ (B+1) el (by omega) (by simp;omega) (λd hd=>hl d (List.mem_of_mem_eraseIdx hd)) (λd hd=>by
    rcases Ze.mp hd with h|h
    . exact hs d h
    . simp at h;subst h;exact hl _ hy) (by omega) (by simpa using M4)
   refine wp_mono ih λr hr=>?_
   obtain⟨e1,e2,B9,h5,h6,h7⟩:=hr
   refine⟨e1,e2,B9,h5,by simp at h6;omega,?_⟩
   have:B+1+((m-1:Nat):Int)=B+(m:Int):=by omega
   rw[this]at h7
   exact h7
theorem PF (ht:dU take){Q:D×G->Prop}(hB:B+300<2 ^ 40)(hi:∀d∈ds,k_ d)(hl:ds.length<=100)(hd:Hd g n B)(hc:Clean g)
  (q:∀es g',(∀d∈es,k_ d)->es.length=ds.length->Hd g' n (B+100)->Fr n g g'->Q (.tup es,g')):
  wp (aD false 4 2 (tV take) [.ref n,.tup ds] g) Q:=by
 refine fO rfl ?_
 show wp (tV take [some (.ref n),some (.tup ds),none,none] g) _
 have m0:cO g (g ++ [ds,[]]) n B [ds,[]]:=by simpa using ((cO.none hd).push ds).push []
 have hz:aG ds.length=true:=aL (by omega)
 unfold tV
 simp[jq,cv,hz]
 obtain⟨⟨fl,σ,gg⟩,e,h1,h2,ss,h3,h4,h5⟩:=yp ht (n:=n) (g:=g) (d1:=.tup ds) ds.length 1000000 ds [] (g ++ [ds,[]]) B rfl (by omega) (by simpa using hl) hi (by simp) (by omega) m0
 dsimp only at h1 h2 h5
 subst h1 h2
 refine⟨_,e,?_⟩
 have a1:=h5.a1
 have zs:aG ss.length=true:=aL (by simp at h4;omega)
 have fin:=h5.fin
 have cl:=(hc.fr fin.2 fin.1).all g.length
 have hlen:=h5.len
 simp[da,cv,a1,zs]
 refine⟨by simpa[bB]using Ei h3 g.length,λx hx=>Zi.mp cl x hx,by simp at hlen;omega,q ss _ h3 (by simpa using h4) (fin.1.mono (by omega)) fin.2⟩
noncomputable def B_ (ord:Fn):FS:=aC (ao ord (aa (af 1) (aa (af 2) ag))) (gT 2 (au (gN 4) (au (gN 5) aP)))
noncomputable def F2 (pair:Fn):FS:=aC (aK cj (aa (aK aJ (aa (aK aJ (aa (aK aJ ag) (aa (aq bU (aK aJ (aa (fC (.int 0)) ag)) (af 1)) ag))) ag)) (aa (ao pair (aa (af 1) (aa (af 2) (aa (af 5) ag)))) (aa (oG (ao pair (aa (af 1) (aa (af 2) (aa (af 5) ag)))) cN cN (cC (mr jG (fC (.int 1))))) ag)))) (gN 6)
noncomputable def Nz (sn:Fn):FE:=ao eR (aa (bh aY (bQ (af 6)) [none,none,some 1,some 2] (gN 1) aQ (ao sn (aa (af 2) (aa (af 3) (aa (af 1) ag))))) ag)
noncomputable def NA (so sn:Fn):FS:=aF (dA (aq xk (ao so (aa (af 1) (aa (af 2) (aa (af 5) ag)))) (fC (.bl true))) (jn (Nz sn)))
noncomputable def NB (sn:Fn):FS:=bK (gW (aH (aq gZ (af 4) (fC (.str "none")))) (aH (aq cF (ao sn (aa (af 1) (aa (af 2) (aa (af 5) ag)))) (fC (.bl true))))) (aF (fC (.bl false))) aN
noncomputable def F3 (mix:Fn):FS:=aC (aq aV (aK cj (aa (af 3) (aa (oG (af 3) cN cN (cC (mr jG (fC (.int 1))))) (aa (aK aJ ag) ag)))) (bh aY (gI (aa (fC (.int 6)) ag)) [none,none,some 0,some 3] (gN 1) aQ (ao mix (aa (af 2) (aa (af 3) ag))))) (gN 7)
noncomputable def F4 (so:Fn):FS:=aF (jn (ao eR (aa (bh aY (bQ (af 7)) [none,none,some 1,some 2] (gN 1) aQ (ao so (aa (af 2) (aa (af 3) (aa (af 1) ag))))) ag)))
noncomputable def oT (ord so sn pair mix:Fn):FS:=aw (B_ ord) (aw (bK (aH (aq oEq (af 4) (fC (.str "order")))) (aw (F2 pair) (NA so sn)) aN) (aw (NB sn) (aw (F3 mix) (F4 so))))
theorem Xt:oEq (.str "order") (.str "order") g=some (.bl true,g)/\oEq (.str "none") (.str "order") g=some (.bl false,g):=by
 have:¬(Zy "none" = Zy "order"):=by decide
 constructor<;>(unfold oEq;simp[flat,dep,Pd.eq_str,this])
noncomputable abbrev W8 (n:Nat)(p:Int)(xs:List Rt)(sec:List D)(c4 c5 c6 c7:Option D):Sg:=[some (.ref n),some (.int p),some (.tup (xs.map rt)),some (.tup sec),c4,c5,c6,c7]
theorem NC (h:∀k∈ks,k<n):(kD ks).all (jO n)=true/\(kD ks).map toN=ks:=by
 constructor
 . rw[Zi]
   intro d hd
   obtain⟨k,hk,rfl⟩:=Zc.mp hd
   have:=h k hk
   simp only[jO,within,Y3,decide_eq_true_eq]
   omega
 . unfold kD
   rw[Z2]
   conv=>rhs;rw[<- afp ks]
   exact aa5 λk _=>by simp[toN]
theorem Q9 (h:∀d∈ds,k_ d):nf (.tup ds)=true:=by
 have:=BH λx hx=>(by obtain⟨i,rfl⟩:=h x hx;rfl:nf x=true)
 simpa[nf]using this
theorem Ej (h0:0<=p)(hp:p<=100)(hx:∀x∈xs,bH p x)(hl:xs.length<=50)(hc:Clean g)(sP:kW p so)(yq:yh p sn)(BG:qx p pair)(hP:Path xs p ks r)(hE:eJ xs r.1=true):
  ∃σ,aw (F2 pair) (NA so sn) (W8 n p xs sec (some (.str "order")) (some (.tup (kD ks))) c6 c7) g=some (.rt (.bl true),σ,g):=by
 obtain⟨w,_⟩:=hP.walk
 have kl:ks.length<=xs.length:=by
  have:=jQ (W:=Y9 xs.length) hP.nodup λk hk=>Zm.mpr (hP.lt k hk)
  simpa using this
 have e1:=BG xs ks g hx hl w (by omega) hc
 have mz:∀g,bU (.tup [.int 0]) (.int p) g=some (.tup (zs p),g):=λg=>by
  rw[yX (by omega) (by omega) (by simp)]
  simp[zs]
 have fr:Rm p (first p):=St.zs h0
 have wl:∀(ks:List Nat) (r:aO),(b_ xs r ks).length=ks.length:=λks=>by
  induction ks with
  |nil=>intro r;rfl
  |cons k ks ih=>intro r;simp[b_,ih]
 have B8:=yk hx w ⟨fr,Nat.pow_pos (by omega)⟩
 have nd:=Ja w
 have nf:aT xs (first p)= .tup [.tup [],.tup (zs p)]:=by
  have:cw xs.length (first p).1 = []:=by
   unfold cw first
   rw[ad3]
   intro a _
   simp
  show D.tup [.tup (kD (cw xs.length (first p).1)),.tup (first p).2]=_
  rw[this]
  rfl
 have q1:=yq xs [first p] g hx (by omega) (λv hv=>B8 v (by simp at hv;subst hv;simp)) (by simp) (by simp) hc
 have q2:=yq xs (first p::b_ xs (first p) ks) g hx (by omega) B8 nd (by simp[wl];omega) hc
 have q3:=yq xs (first p::b_ xs (first p) ks).reverse g hx (by omega) (λv hv=>B8 v (acy.mp hv)) (by rw[ab4,List.pairwise_reverse];exact nd.imp λh=>aa0 h) (by simp[wl];omega) hc
 rw[B3 hP hE]at q1 q2 q3
 rw[List.map_reverse]at q3
 rw[adf,nf]at q1
 have rv:=Nu (rs:=(first p::b_ xs (first p) ks).map (aT xs)) (g:=g) (by simp[wl];omega)
 obtain⟨i1,i2⟩:=NC hP.lt
 have e2:=sP xs (.tup (kD ks)) g hx (by omega) (Q9 λd hd=>by obtain⟨k,_,rfl⟩:=Zc.mp hd;exact⟨_,rfl⟩)
 have rb:RB p xs (.tup (kD ks))=true:=by simp only[RB,i1,i2,hP.ok hE,Bool.and_self]
 rw[rb]at e2
 refine⟨W8 n p xs sec (some (.str "order")) (some (.tup (kD ks))) (some (.lst [.tup [.tup [.tup [],.tup (zs p)]],.tup ((first p::b_ xs (first p) ks).map (aT xs)),.tup ((first p::b_ xs (first p) ks).map (aT xs)).reverse])) c7,?_⟩
 generalize (first p::b_ xs (first p) ks).map (aT xs)=ZZ at *
 have eP:F2 pair (W8 n p xs sec (some (.str "order")) (some (.tup (kD ks))) c6 c7) g=some (.nx,W8 n p xs sec (some (.str "order")) (some (.tup (kD ks))) (some (.lst [.tup [.tup [.tup [],.tup (zs p)]],.tup ZZ,.tup ZZ.reverse])) c7,g):=by
  generalize kD ks=kk at *
  simp[F2,mz,e1,rv]
 have eN:Nz sn (W8 n p xs sec (some (.str "order")) (some (.tup (kD ks))) (some (.lst [.tup [.tup [.tup [],.tup (zs p)]],.tup ZZ,.tup ZZ.reverse])) c7) g=some (.bl false,g):=by
  have sb:bL [none,none,some 1,some 2] (W8 n p xs sec (some (.str "order")) (some (.tup (kD ks))) (some (.lst [.tup [.tup [.tup [],.tup (zs p)]],.tup ZZ,.tup ZZ.reverse])) c7)= [none,none,some (.int p),some (.tup (xs.map rt))]:=rfl
  have c1:=dB (t:=gN 1) (c:=aQ) (e:=ao sn (aa (af 2) (aa (af 3) (aa (af 1) ag)))) (h:=λ_=>D.bl false) (λσ=>∃o,σ = [none,o,some (.int p),some (.tup (xs.map rt))]) [.tup [.tup [.tup [],.tup (zs p)]],.tup ZZ,.tup ZZ.reverse] [none,none,some (.int p),some (.tup (xs.map rt))] g ⟨_,rfl⟩ (by
   rintro d hm σ ⟨o,rfl⟩
   refine⟨[none,some d,some (.int p),some (.tup (xs.map rt))],by simp,by simp,?_,⟨_,rfl⟩⟩
   simp only[Zd,abz,or_false]at hm
   rcases hm with rfl|rfl|rfl
   . simp[q1]
   . simp[q2]
   . simp[q3])
  unfold Nz
  have z3:aG 3=true:=by decide
  simp[sb,c1,z3,eR,dS,bools]
 simp only[cP,eP,Zb]
 unfold NA
 generalize kD ks=kk at *
 simp[e2,eN,isLit]
noncomputable def tW (f:Fn):Prop:=∀{n:Nat} {g:G} {B:Int} {ds:List D} {Q:D×G->Prop},B+300<2 ^ 40->(∀d∈ds,k_ d)->ds.length<=100->Hd g n B->Clean g->(∀es g',(∀d∈es,k_ d)->es.length=ds.length->Hd g' n (B+100)->Fr n g g'->Q (.tup es,g'))->wp (f [.ref n,.tup ds] g) Q
theorem ND (ht:dU take):tW (aD false 4 2 (tV take)):=fun {n g B ds Q} hB hi hl hd hc q=>PF ht hB hi hl hd hc q
noncomputable def IsT (d:D):Prop:=∃ds,d = .tup ds/\(∀x∈ds,k_ x)/\ds.length<=100
noncomputable def Xu (n:Nat)(B:Int)(g0:G)(sec:List D)(i:Nat)(acc:List D)(σ:Sg)(g:G):Prop:=(∃o,σ = [none,o,some (.ref n),some (.tup sec)])/\(∀d∈acc,IsT d)/\acc.length=i/\Hd g n (B+100*i)/\Fr n g0 g
theorem PH (hm:tW mix){Q:F×Sg×G->Prop}(hB:B+2000<2 ^ 40)(hi:∀d∈sec,k_ d)(hl:sec.length<=100)(hd:Hd g n B)(hc:Clean g)
   (q:∀ys g',(∀d∈ys,IsT d)->ys.length<=100->Hd g' n (B+1000)->Fr n g g'->Q (.nx,W8 n p xs sec c4 c5 c6 (some (.lst ys)),g')):
   wp (F3 mix (W8 n p xs sec c4 c5 c6 c7) g) Q:=by
 have rv:=Nu (rs:=sec) (g:=g) (by omega)
 have ir:∀(σ:Sg) g,gI (aa (fC (.int 6)) ag) σ g=some (cZ 0 6,g):=λσ g=>by
   obtain⟨q,e,h⟩:wp (gI (aa (fC (.int 6)) ag) σ g) λq=>q=(cZ 0 6,g):=by
     refine nH ?_
     simp
   rw[e,h]
 have sb:bL [none,none,some 0,some 3] (W8 n p xs sec c4 c5 c6 c7)= [none,none,some (.ref n),some (.tup sec)]:=rfl
 have z6:aG (cZ 0 6).length=true:=aL (by rw[gO];omega)
 unfold F3
 simp[rv,ir,sb,z6]
 refine uP (Xu n B g sec) (cZ 0 6) 0 _ _ [] ⟨⟨_,rfl⟩,by simp,rfl,by simpa using hd,Fr.refl⟩ ?_ ?_
 . rintro j d acc σ gg hj ⟨⟨o,rfl⟩,h1,h2,h3,h4⟩
   have YY:=(jM hj).1
   rw[abW]at *
   simp
   refine hm (by omega) hi hl h3 (hc.fr h4 h3) λes g' h5 h6 h7 h8=>?_
   refine⟨⟨_,rfl⟩,λx hx=>?_,by simp;omega,h7.mono (by omega),h4.trans h8⟩
   rcases Ze.mp hx with hx|hx
   . exact h1 x hx
   . simp at hx;subst hx;exact⟨es,rfl,h5,by omega⟩
 . rintro ys σ gg ⟨_,h1,h2,h3,h4⟩
   rw[gO]at h2 h3
   rw[aam]at h1 h2
   have ad:aV (.lst [.tup sec,.tup sec.reverse,.tup []]) (.lst ys) gg=some (.lst ([.tup sec,.tup sec.reverse,.tup []]++ys),gg):=by
     have hz:aG (3+ys.length)=true:=aL (by omega)
     show(if aG (3+ys.length)=true then some (D.lst ([.tup sec,.tup sec.reverse,.tup []]++ys),gg)else none)=_
     rw[if_pos hz]
   have Xv:aG (3+ys.length)=true:=aL (by omega)
   simp[Xv]
   refine q (.tup sec :: .tup sec.reverse :: .tup []::ys) gg (λd hd=>?_) (by simp only[aa8];omega) (h3.mono (by omega)) h4
   simp only[Zd]at hd
   rcases hd with rfl|rfl|rfl|hd
   . exact⟨sec,rfl,hi,hl⟩
   . exact⟨_,rfl,λx hx=>hi x (acy.mp hx),by simpa using hl⟩
   . exact⟨[],rfl,by simp,by simp⟩
   . exact h1 d hd
theorem NF (hx:∀x∈xs,bH p x)(hl:xs.length<=100)(sP:kW p so)(hC:jT xs p es)(hy:∀d∈ys,IsT d)(NG:ys.length<=100):
  F4 so (W8 n p xs sec c4 c5 c6 (some (.lst ys))) g=some (.rt (.bl true),W8 n p xs sec c4 c5 c6 (some (.lst ys)),g):=by
 have hz:aG ys.length=true:=aL (by omega)
 have c1:=dB (t:=gN 1) (c:=aQ) (e:=ao so (aa (af 2) (aa (af 3) (aa (af 1) ag)))) (h:=λ_=>D.bl false) (λσ=>∃o,σ = [none,o,some (.int p),some (.tup (xs.map rt))]) ys [none,none,some (.int p),some (.tup (xs.map rt))] g ⟨_,rfl⟩ (by
  rintro d hm σ ⟨o,rfl⟩
  refine⟨[none,some d,some (.int p),some (.tup (xs.map rt))],by simp,by simp,?_,⟨_,rfl⟩⟩
  obtain⟨ds,rfl,h1,_⟩:=hy d hm
  have e:=sP xs (.tup ds) g hx hl (Q9 h1)
  rw[wy hx hC]at e
  simp[e])
 have sb:bL [none,none,some 1,some 2] (W8 n p xs sec c4 c5 c6 (some (.lst ys)))= [none,none,some (.int p),some (.tup (xs.map rt))]:=rfl
 have bm:=dC (λ_:D=>false) ys
 unfold F4
 simp[sb,c1,hz,eR,dS,bm]
theorem NH (h0:0<=p)(hp:p<=100)(Xw:zG p ord)(sP:kW p so)(yq:yh p sn)(BG:qx p pair)(Xx:tW mix){Q:D×G->Prop}(hB:B+2000<2 ^ 40)(hx:∀x∈xs,bH p x)(hl:xs.length<=50)(hb:wo xs p)(hi:∀d∈sec,k_ d)(Qn:sec.length<=100)(hd:Hd g n B)(hc:Clean g)
   (q:∀g',Hd g' n (B+1000)->Fr n g g'->Q (.bl true,g')):wp (aD false 8 4 (oT ord so sn pair mix) [.ref n,.int p,.tup (xs.map rt),.tup sec] g) Q:=by
 refine fO rfl ?_
 show wp (oT ord so sn pair mix (W8 n p xs sec none none none none) g) _
 obtain⟨d,e1,_,hd2⟩:=Xw xs g hx (by omega) hb hc
 have fin:∀(g1:G),Hd g1 n (B+1000)->Fr n g g1->L3.bB g.length (.bl true)=true/\(g1.take g.length).all (aW g.length)=true/\g.length<=g1.length/\Q (.bl true,g1.take g.length):=λg1 h1 f1=>by
   have cl:=(hc.fr f1 h1).all g.length
   have tk:g1.take g.length=g1:=abc (by rw[f1.1];exact Za _)
   refine⟨rfl,by rw[tk];exact cl,by rw[f1.1];exact Za _,?_⟩
   rw[tk]
   exact q g1 h1 f1
 obtain⟨q1,q2⟩:=Xt (g:=g)
 have YZ:(Zy "none" == Zy "order")=false:=by decide
 rcases hd2 with⟨ks,r,rfl,hP,hE⟩|⟨es,rfl,C,hC⟩
 . obtain⟨σ,e2⟩:=Ej (n:=n) (g:=g) (sec:=sec) (c6:=none) (c7:=none) h0 hp hx hl hc sP yq BG hP hE
   have eA:B_ ord (W8 n p xs sec none none none none) g=some (.nx,W8 n p xs sec (some (.str "order")) (some (.tup (kD ks))) none none,g):=by
    generalize kD ks=kk at *
    simp[B_,e1]
   have eT:(aH (aq oEq (af 4) (fC (.str "order")))) (W8 n p xs sec (some (.str "order")) (some (.tup (kD ks))) none none) g=some (true,g):=by
    simp[q1]
   have all_:oT ord so sn pair mix (W8 n p xs sec none none none none) g=some (.rt (.bl true),σ,g):=by
    unfold oT
    rw[cP,eA]
    simp only[Zb]
    rw[cP,iV,eT]
    simp only[Zb,if_true]
    rw[e2]
    rfl
   rw[all_]
   simp only[ff]
   exact fin g (hd.mono (by omega)) Fr.refl
 . have Xy:=yq.ok xs es g hx (by omega) C (hb es C) hC hc
   generalize Q2:(keys es).map (aT xs)=yy at *
   have eA:B_ ord (W8 n p xs sec none none none none) g=some (.nx,W8 n p xs sec (some (.str "none")) (some (.tup yy)) none none,g):=by
    simp[B_,e1]
   have eT:(aH (aq oEq (af 4) (fC (.str "order")))) (W8 n p xs sec (some (.str "none")) (some (.tup yy)) none none) g=some (false,g):=by
    simp[q2]
   have eC:NB sn (W8 n p xs sec (some (.str "none")) (some (.tup yy)) none none) g=some (.nx,W8 n p xs sec (some (.str "none")) (some (.tup yy)) none none,g):=by
    have fs:flat (.str "none")=true:=rfl
    have ds:dep (.str "none")<=60:=ZM _
    have er:=fG _ fs
    simp[NB,fs,ds,er,Xy,isLit]
   have M9:oT ord so sn pair mix (W8 n p xs sec none none none none) g=aw (F3 mix) (F4 so) (W8 n p xs sec (some (.str "none")) (some (.tup yy)) none none) g:=by
    unfold oT
    rw[cP,eA]
    simp only[Zb]
    rw[cP,iV,eT]
    simp only[Zb,Zh,if_false,CZ]
    rw[cP,eC]
    rfl
   rw[M9]
   refine FK ?_
   refine PH Xx hB hi Qn hd hc λys g' h1 h2 h3 h4=>⟨rfl,?_⟩
   refine⟨_,NF hx (by omega) sP hC h1 h2,?_⟩
   exact fin g' h3 h4
end Sd
namespace K51
open PySem PySem.Spec PyProof.Rows L2 L3 RI
noncomputable def top (i:Nat):Stmt:=PySem.Challenge.pw_wholeglance_k51_whole_an_order_or_a_pape.main.body.getD i (.Pass ⟨0,0,0,0⟩)
noncomputable def NI:bw:=⟨"is_whole",["thing"],["thing"],top 1,false,[],false⟩
noncomputable def NJ:bw:=⟨"is_within",["thing","least","most"],["thing","least","most"],top 2,false,[],false⟩
noncomputable def NK:bw:=⟨"is_figured",["thing","most"],["thing","most"],top 3,false,[],false⟩
noncomputable def NL:bw:=⟨"is_tuple_of",["thing","least","most"],["thing","least","most"],top 4,false,[],false⟩
noncomputable def NM:bw:=⟨"zeros",["count"],["count"],top 7,false,[],false⟩
noncomputable def NN:bw:=⟨"is_value",["thing"],["thing"],top 12,false,[],false⟩
noncomputable def NO:bw:=⟨"is_value_within",["thing","deep"],["thing","deep"],top 13,false,[],false⟩
noncomputable def NP:bw:=⟨"is_ahead",["row","other"],["row","other"],top 15,false,[],false⟩
noncomputable def NQ:bw:=⟨"bits_of",["numbers"],["numbers"],top 17,false,[],false⟩
noncomputable def NR:bw:=⟨"ended_bits",["story"],["story"],top 18,false,[],false⟩
noncomputable def F5:bw:=⟨"plan_of",["story"],["story","plan","number","row","ahead"],top 19,false,["plan"],false⟩
noncomputable def F6:bw:=⟨"leads",["plan","done","state"],["plan","done","state","found","number","ahead","row","bit"],top 20,false,["found"],false⟩
noncomputable def F7:bw:=⟨"fits",["row","state"],["row","state"],top 21,false,[],false⟩
noncomputable def F8:bw:=⟨"state_behind",["row","state"],["row","state","deed"],top 22,false,[],false⟩
noncomputable def F9:bw:=⟨"way_to",["came","room"],["came","room","way"],top 24,false,["way"],false⟩
noncomputable def F_:bw:=⟨"ordered",["places","story"],["places","story","plan","ended","first","came","still","room","number","behind"],top 26,false,["still","came","*came"],false⟩
noncomputable def Ga:bw:=⟨"rows_done",["done","rows"],["done","rows"],top 27,false,[],false⟩
noncomputable def Gb:bw:=⟨"shows_order",["places","story","thing"],["places","story","thing"],top 29,false,[],false⟩
noncomputable def Ge:bw:=⟨"are_rows",["story","thing"],["story","thing"],top 30,false,[],false⟩
noncomputable def Gf:bw:=⟨"has_ended",["story","order"],["story","order"],top 31,false,[],false⟩
noncomputable def Gg:bw:=⟨"keeps_turns",["story","order"],["story","order","place","number"],top 32,false,[],false⟩
noncomputable def Gh:bw:=⟨"fits_all",["places","rows"],["places","rows","state","row"],top 33,false,[],false⟩
noncomputable def Gi:bw:=⟨"shows_none",["places","story","thing"],["places","story","thing","values","known","pair"],top 34,false,["known","*known"],false⟩
noncomputable def Gj:bw:=⟨"lead_nowhere_else",["story","known"],["story","known","plan","ended","done","state"],top 35,false,["*known"],false⟩
noncomputable def Gk:bw:=⟨"is_room",["places","story","values","thing"],["places","story","values","thing"],top 36,false,[],false⟩
noncomputable def Gm:bw:=⟨"is_rising",["story","thing"],["story","thing"],top 37,false,[],false⟩
noncomputable def Gn:bw:=⟨"is_state_of",["places","values","thing"],["places","values","thing"],top 38,false,[],false⟩
noncomputable def Gp:bw:=⟨"_law_hand",["_law_script","_law_k"],["_law_script","_law_k","_law_cell"],top 40,true,[],false⟩
noncomputable def Gq:bw:=⟨"_law_take",["_law_hand_here","_law_many"],["_law_hand_here","_law_many","_law_digit","_law_turn","_law_mixed_here","_law_other"],top 41,false,["_law_hand_here"],false⟩
noncomputable def Gr:bw:=⟨"_law_pick",["_law_hand_here","_law_some"],["_law_hand_here","_law_some"],top 42,false,[],false⟩
noncomputable def Gs:bw:=⟨"_law_some_value",["_law_hand_here"],["_law_hand_here"],top 43,false,[],false⟩
noncomputable def Gu:bw:=⟨"_law_rows",["_law_hand_here","_law_places","_law_most"],["_law_hand_here","_law_places","_law_most","_law_rows_here","_law_begin","_law_open_hands","_law_ends","_law_hands","_law_k","_law_some","_law_one","_law_point","_law_deed"],top 44,false,["_law_ends","_law_rows_here","_law_open_hands","*_law_open_hands","*_law_ends"],false⟩
noncomputable def Gv:bw:=⟨"_law_told",["_law_places","_law_rows_here"],["_law_places","_law_rows_here","_law_state","_law_telling","_law_order","_law_point","_law_k","_law_one","_law_deed","_law_begin","_law_end","_law_numbers"],top 45,false,["_law_order","_law_telling","*_law_telling"],false⟩
noncomputable def Gw:bw:=⟨"_law_bent",["_law_hand_here","_law_places","_law_rows_here"],["_law_hand_here","_law_places","_law_rows_here","_law_some","_law_turn","_law_at","_law_hand_own","_law_deed","_law_begin","_law_end","_law_told_here","_law_place","_law_tellings","_law_changed"],top 46,false,["_law_some"],false⟩
noncomputable def Gx:bw:=⟨"_law_pairs",["_law_places","_law_rows_here","_law_order"],["_law_places","_law_rows_here","_law_order","_law_state","_law_done","_law_found","_law_k"],top 47,false,["_law_done","_law_found"],false⟩
noncomputable def Gy:bw:=⟨"_law_mixed",["_law_hand_here","_law_order"],["_law_hand_here","_law_order","_law_left","_law_some"],top 48,false,["_law_some","_law_left"],false⟩
noncomputable def Gz:bw:=⟨"_law_right",["_law_hand_here","_law_places","_law_rows_here","_law_secret"],["_law_hand_here","_law_places","_law_rows_here","_law_secret","_law_word","_law_thing","_law_papers","_law_some"],top 49,false,[],false⟩
noncomputable def GA:bw:=⟨"law",["_law_script"],["_law_script","_law_k","_law_hand_here","_law_places","_law_rows_here","_law_secret"],top 50,false,[],false⟩
noncomputable def ds:List bw:=[NI,NJ,NK,NL,NM,NN,NO,NP,NQ,NR,F5,F6,F7,F8,F9,F_,Ga,Gb,Ge,Gf,Gg,Gh,Gi,Gj,Gk,Gm,Gn,Gp,Gq,Gr,Gs,Gu,Gv,Gw,Gx,Gy,Gz,GA]
noncomputable def pk:Pk:=⟨[Sy,SG,SH,Sz,SA,SD,SE,SF,Mh],[Pj],[Dv,Pl,Il,Pm],[Ij,L_],[SI,Po,Pp,SJ,DL]⟩
noncomputable def mo:Mo:=⟨ds,["len","max","min","int","tuple","list","all","any","sum","sorted","bool","set","range","enumerate","isinstance","reversed"],[("TWELVE_FIGURES",.int 999999999999),("MOST_PARTS",.int 8),("MOST_DEEP",.int 3)],[],pk,1000000⟩
noncomputable def Xz (T:Nat->Fn):FS:=aF (dA (iB .int (af 0)) (jn (iB .bool (af 0))))
noncomputable def XA (T:Nat->Fn):FS:=aF (dA (ao (T 0) (aa (af 0) ag)) (gU oLe oLe (af 1) (af 0) (af 2)))
noncomputable def XB (T:Nat->Fn):FS:=aF (ao (T 1) (aa (af 0) (aa (mr jG (af 1)) (aa (af 1) ag))))
noncomputable def XC (T:Nat->Fn):FS:=aF (dA (iB .tuple (af 0)) (gU oLe oLe (af 1) (ao cx (aa (af 0) ag)) (af 2)))
noncomputable def XD (T:Nat->Fn):FS:=aF (aq bU (aK aJ (aa (fC (.int 0)) ag)) (af 0))
noncomputable def XE (T:Nat->Fn):FS:=aF (ao (T 6) (aa (af 0) (aa (fC (.int 3)) ag)))
noncomputable def XF (T:Nat->Fn):FS:=aw (bK (gW (aH (aq oEq (af 1) (fC (.int 0)))) (cz (bW (iB .tuple (af 0))))) (aF (ao (T 2) (aa (af 0) (aa (fC (.int 999999999999)) ag)))) aN) (aw (bK (cz (bW (ao (T 3) (aa (af 0) (aa (fC (.int 0)) (aa (fC (.int 8)) ag)))))) (aF (fC (.bl false))) aN) (aF (ao fu (aa (bh aY (bQ (af 0)) [none,none,some 1] (gN 1) aQ (ao (T 6) (aa (af 1) (aa (aq (aR bp (· - ·)) (af 2) (fC (.int 1))) ag)))) ag))))
noncomputable def XG (T:Nat->Fn):FS:=aF (dA (aq cF (aq ay (af 0) (fC (.int 3))) (fC .aA)) (aq oLe (aq ay (af 0) (fC (.int 3))) (aq ay (af 1) (fC (.int 2)))))
noncomputable def XH (T:Nat->Fn):FS:=aF (ao ly (aa (bh aY (bQ (af 0)) [none,none] (gN 1) aQ (aq (aR cM (λi j=>i*2 ^ j.toNat)) (fC (.int 1)) (af 1))) ag))
noncomputable def XI (T:Nat->Fn):FS:=aF (ao (T 8) (aa (bh aY (fP (af 0)) [none,none,none] (gT 2 (au (gN 1) (au (gN 2) aP))) (aH (aq cF (aq ay (af 2) (fC (.int 3))) (fC .aA))) (af 1)) ag))
noncomputable def Ts (T:Nat->Fn):FS:=aw (aC (aK mkRef ag) (gN 1)) (aw (cS (fP (af 0)) (gT 2 (au (gN 2) (au (gN 3) aP))) (aw (aC (bh aY (fP (af 0)) [none,none,none,some 3] (gT 2 (au (gN 1) (au (gN 2) aP))) (bW (ao (T 7) (aa (af 2) (aa (af 3) ag)))) (af 1)) (gN 4)) (cX (cq isRef b7 (af 1) (aa (aK aJ (aa (af 2) (aa (ao (T 8) (aa (af 4) ag)) (aa (af 3) ag)))) ag))))) (aF (af 1)))
noncomputable def Tt (T:Nat->Fn):FS:=aw (aC (aK mkRef ag) (gN 3)) (aw (cS (bQ (af 0)) (gT 3 (au (gN 4) (au (gN 5) (au (gN 6) aP)))) (aw (aC (aq (aR cM (λi j=>i*2 ^ j.toNat)) (fC (.int 1)) (af 4)) (gN 7)) (bK (i4 (aH (aq oEq (aq (aR bp ZJ) (af 1) (af 7)) (fC (.int 0)))) (i4 (aH (aq oEq (aq (aR bp ZJ) (af 1) (af 5)) (af 5))) (bW (ao (T 12) (aa (af 6) (aa (af 2) ag)))))) (cX (cq isRef b7 (af 3) (aa (aK aJ (aa (af 4) (aa (aK aJ (aa (aq (aR bp abC) (af 1) (af 7)) (aa (ao (T 13) (aa (af 6) (aa (af 2) ag))) ag))) ag))) ag))) aN))) (aF (af 3)))
noncomputable def Tu (T:Nat->Fn):FS:=aF (mv (aq oEq (aq ay (aq ay (af 0) (fC (.int 1))) (fC (.int 0))) (fC (.str "put"))) (aq oEq (aq ay (af 0) (fC (.int 4))) (af 1)))
noncomputable def Tv (T:Nat->Fn):FS:=aw (aC (aq ay (af 0) (fC (.int 1))) (gN 2)) (aw (bK (aH (aq oEq (aq ay (af 2) (fC (.int 0))) (fC (.str "look")))) (aF (af 1)) aN) (aF (aq aV (aq aV (dX (af 1) cN (cC (aq ay (af 2) (fC (.int 1))))) (aK aJ (aa (aq ay (af 2) (fC (.int 2))) ag))) (dX (af 1) (cC (aq aV (aq ay (af 2) (fC (.int 1))) (fC (.int 1)))) cN))))
noncomputable def Tw (T:Nat->Fn):FS:=aw (aC (aK mkRef ag) (gN 2)) (aw (kG 1000000 (aH (aq cF (aq ay (af 0) (af 1)) (fC .aA))) (aw (cX (cq isRef b7 (af 2) (aa (aq ay (aq ay (af 0) (af 1)) (fC (.int 0))) ag))) (aC (aq ay (aq ay (af 0) (af 1)) (fC (.int 1))) (gN 1)))) (aF (p6 (af 2))))
noncomputable def Tx (T:Nat->Fn):FS:=aw (aC (ao (T 10) (aa (af 1) ag)) (gN 2)) (aw (aC (ao (T 9) (aa (af 1) ag)) (gN 3)) (aw (aC (aK aJ (aa (fC (.int 0)) (aa (ao (T 4) (aa (af 0) ag)) ag))) (gN 4)) (aw (aC (kO [(af 4,fC .aA)]) (gN 5)) (aw (aC (aK mkRef (aa (af 4) ag)) (gN 6)) (aw (kG 1000000 (aH (aq xf (ao cx (aa (af 6) ag)) (fC (.int 0)))) (aw (aC (cq isRef ko (af 6) ag) (gN 7)) (aw (bK (aH (aq oEq (aq (aR bp ZJ) (aq ay (af 7) (fC (.int 0))) (af 3)) (af 3))) (aF (aK aJ (aa (fC (.str "order")) (aa (ao (T 14) (aa (af 5) (aa (af 7) ag))) ag)))) aN) (cS (bQ (ao (T 11) (aa (af 2) (aa (aq ay (af 7) (fC (.int 0))) (aa (aq ay (af 7) (fC (.int 1))) ag))))) (gT 2 (au (gN 8) (au (gN 9) aP))) (bK (aH (aq gK (af 9) (af 5))) (aw (aC (aK aJ (aa (af 8) (aa (af 7) ag))) (eU (af 5) (af 9))) (cX (cq isRef b7 (af 6) (aa (af 9) ag)))) aN))))) (aF (aK aJ (aa (fC (.str "none")) (aa (ao da (aa (iX aY (i6 (af 5)) [none,none,none,some 1] (gT 2 (au (gN 1) (au (gN 2) aP))) aQ (aK aJ (aa (ao (T 16) (aa (af 1) (aa (ao cx (aa (af 3) ag)) ag))) (aa (af 2) ag)))) ag)) ag)))))))))
noncomputable def Tz (T:Nat->Fn):FS:=aF (ao da (aa (bh aY (gI (aa (af 1) ag)) [none,none,some 0] (gN 1) (aH (aq gZ (aq (aR bp ZJ) (af 2) (aq (aR cM (λi j=>i*2 ^ j.toNat)) (fC (.int 1)) (af 1))) (fC (.int 0)))) (af 1)) ag))
noncomputable def TB (T:Nat->Fn):FS:=aw (bK (gW (cz (bW (ao (T 3) (aa (af 2) (aa (fC (.int 0)) (aa (ao cx (aa (af 1) ag)) ag)))))) (cz (bW (ao (T 18) (aa (af 1) (aa (af 2) ag)))))) (aF (fC (.bl false))) aN) (aw (bK (gW (aH (aq oLt (iE (af 2)) (ao cx (aa (af 2) ag)))) (cz (bW (ao (T 19) (aa (af 1) (aa (af 2) ag)))))) (aF (fC (.bl false))) aN) (aF (dA (ao (T 20) (aa (af 1) (aa (af 2) ag))) (ao (T 21) (aa (af 0) (aa (bh aY (bQ (af 2)) [none,none,some 1] (gN 1) aQ (aq ay (af 2) (af 1))) ag))))))
noncomputable def TC (T:Nat->Fn):FS:=aF (ao fu (aa (bh aY (bQ (af 1)) [none,none,some 0] (gN 1) aQ (ao (T 1) (aa (af 1) (aa (fC (.int 0)) (aa (aq (aR bp (· - ·)) (ao cx (aa (af 2) ag)) (fC (.int 1))) ag))))) ag))
noncomputable def TF (T:Nat->Fn):FS:=aF (ao fu (aa (bh aY (fP (af 0)) [none,none,none,some 1] (gT 2 (au (gN 1) (au (gN 2) aP))) (aH (aq cF (aq ay (af 2) (fC (.int 3))) (fC .aA))) (aq hJ (af 1) (af 3))) ag))
noncomputable def TH (T:Nat->Fn):FS:=aw (cS (fP (af 1)) (gT 2 (au (gN 2) (au (gN 3) aP))) (bK (bW (ao eR (aa (bh aY (bQ (dX (af 1) cN (cC (af 2)))) [none,none,some 3,some 0] (gN 1) aQ (ao (T 7) (aa (aq ay (af 3) (af 2)) (aa (aq ay (af 3) (af 1)) ag)))) ag))) (aF (fC (.bl false))) aN)) (aF (fC (.bl true)))
noncomputable def TJ (T:Nat->Fn):FS:=aw (aC (ao (T 4) (aa (af 0) ag)) (gN 2)) (aw (cS (bQ (af 1)) (gN 3) (aw (bK (cz (bW (ao (T 12) (aa (af 3) (aa (af 2) ag))))) (aF (fC (.bl false))) aN) (aC (ao (T 13) (aa (af 3) (aa (af 2) ag))) (gN 2)))) (aF (fC (.bl true))))
noncomputable def TK (T:Nat->Fn):FS:=aw (aC (bh aY (bQ (af 1)) [none,none] (gN 1) (aH (aq oEq (aq ay (aq ay (af 1) (fC (.int 1))) (fC (.int 0))) (fC (.str "put")))) (aq ay (aq ay (af 1) (fC (.int 1))) (fC (.int 2)))) (gN 3)) (aw (bK (gW (cz (bW (iB .tuple (af 2)))) (cz (bW (ao fu (aa (bh aY (bQ (af 2)) [none,none,some 0,some 1,some 3] (gN 1) aQ (ao (T 24) (aa (af 2) (aa (af 3) (aa (af 4) (aa (af 1) ag)))))) ag))))) (aF (fC (.bl false))) aN) (aw (aC hU (gN 4)) (aw (cS (bQ (af 2)) (gN 5) (aC (fC (.bl true)) (eU (af 4) (aK aJ (aa (ao (T 8) (aa (aq ay (af 5) (fC (.int 0))) ag)) (aa (aq ay (af 5) (fC (.int 1))) ag)))))) (aF (dA (aq hJ (aK aJ (aa (fC (.int 0)) (aa (ao (T 4) (aa (af 0) ag)) ag))) (af 4)) (ao (T 23) (aa (af 1) (aa (af 4) ag))))))))
noncomputable def TM (T:Nat->Fn):FS:=aw (aC (ao (T 10) (aa (af 0) ag)) (gN 2)) (aw (aC (ao (T 9) (aa (af 0) ag)) (gN 3)) (aw (j5 (i6 (af 1)) (gT 2 (au (gN 4) (au (gN 5) aP))) (aw (bK (aH (aq oEq (aq (aR bp ZJ) (af 4) (af 3)) (af 3))) (aF (fC (.bl false))) aN) (bK (cz (bW (ao fu (aa (bh aY (bQ (ao (T 11) (aa (af 2) (aa (af 4) (aa (af 5) ag))))) [none,none,none,some 1] (gT 2 (au (gN 1) (au (gN 2) aP))) aQ (aq hJ (af 2) (af 3))) ag)))) (aF (fC (.bl false))) aN))) (aF (fC (.bl true)))))
noncomputable def TN (T:Nat->Fn):FS:=aw (bK (cz (bW (ao (T 3) (aa (af 3) (aa (fC (.int 2)) (aa (fC (.int 2)) ag)))))) (aF (fC (.bl false))) aN) (aF (dA (ao (T 25) (aa (af 1) (aa (aq ay (af 3) (fC (.int 0))) ag))) (ao (T 26) (aa (af 0) (aa (af 2) (aa (aq ay (af 3) (fC (.int 1))) ag))))))
noncomputable def TQ (T:Nat->Fn):FS:=aw (bK (gW (cz (bW (ao (T 3) (aa (af 1) (aa (fC (.int 0)) (aa (ao cx (aa (af 0) ag)) ag)))))) (cz (bW (ao (T 18) (aa (af 0) (aa (af 1) ag)))))) (aF (fC (.bl false))) aN) (aF (ao fu (aa (bh aY (sf (aa (fC (.int 1)) (aa (ao cx (aa (af 1) ag)) ag))) [none,none,some 1] (gN 1) aQ (aq oLt (aq ay (af 2) (aq (aR bp (· - ·)) (af 1) (fC (.int 1)))) (aq ay (af 2) (af 1)))) ag)))
noncomputable def TR (T:Nat->Fn):FS:=aw (bK (cz (bW (ao (T 3) (aa (af 2) (aa (af 0) (aa (af 0) ag)))))) (aF (fC (.bl false))) aN) (aF (ao fu (aa (bh aY (bQ (af 2)) [none,none,some 1] (gN 1) aQ (mv (ao (T 5) (aa (af 1) ag)) (ao eR (aa (bh aY (bQ (af 2)) [none,none,some 1] (gN 1) aQ ck) ag)))) ag)))
noncomputable def TU (T:Nat->Fn):FS:=aw (aC (fC (.int 0)) (gN 2)) (aw (bK (aH (aq oLt (af 1) (ao cx (aa (af 0) ag)))) (aC (aq ay (af 0) (af 1)) (gN 2)) aN) (aF (aK mkRef (aa (aq bU (af 2) (ao ki (aa (aq AH (af 2) (aq (aR cM (λi j=>i ^ j.toNat)) (fC (.int 10)) (fC (.int 18)))) ag))) (aa (aq aV (aq aV (aq (aR cY (· % ·)) (af 2) (fC (.int 2305843009213693951))) (aq bU (fC (.int 7919)) (af 1))) (fC (.int 3))) (aa (fC (.int 0)) ag))))))
noncomputable def TV (T:Nat->Fn):FS:=aw (bK (aH (aq xf (aq ay (af 0) (fC (.int 0))) (fC (.int 0)))) (aw (aC (aq (aR cY (· % ·)) (aq ay (af 0) (fC (.int 0))) (af 1)) (gN 2)) (aw (aC (aq (aR fN (· / ·)) (aq ay (af 0) (fC (.int 0))) (af 1)) (eU (af 0) (fC (.int 0)))) (aF (af 2)))) aN) (aw (aC (aq aV (aq ay (af 0) (fC (.int 2))) (fC (.int 1))) (eU (af 0) (fC (.int 2)))) (aw (aC (aq ay (af 0) (fC (.int 2))) (gN 3)) (aw (aC (aq (aR cY (· % ·)) (aq bU (aq ay (af 0) (fC (.int 1))) (aq aV (aq aV (fC (.int 48271)) (aq bU (aq bU (fC (.int 2)) (af 3)) (af 3))) (aq bU (fC (.int 65537)) (af 3)))) (fC (.int 2305843009213693921))) (gN 4)) (aw (aC (aq aV (aq aV (aq (aR cY (· % ·)) (af 4) (fC (.int 1000003))) (aq bU (af 3) (fC (.int 99991)))) (fC (.int 11))) (gN 5)) (aw (aC (aq (aR cY (· % ·)) (aq bU (af 4) (af 5)) (fC (.int 2305843009213693907))) (gN 4)) (aF (aq (aR cY (· % ·)) (aq aV (aq (aR fN (· / ·)) (af 4) (fC (.int 97))) (aq (aR fN (· / ·)) (af 4) (fC (.int 1000033)))) (af 1))))))))
noncomputable def TX (T:Nat->Fn):FS:=aF (aq ay (af 1) (ao (T 28) (aa (af 0) (aa (ao cx (aa (af 1) ag)) ag))))
noncomputable def TY (T:Nat->Fn):FS:=aF (ao (T 29) (aa (af 0) (aa (aK cj (aa (fC (.int 1)) (aa (fC (.int 1)) (aa (fC (.int 2)) (aa (fC (.int 3)) (aa (fC (.int 0)) (aa (aK aJ ag) (aa (aK aJ (aa (fC (.int 1)) (aa (fC (.int 2)) ag))) (aa (mr jG (fC (.int 5))) ag))))))))) ag)))
noncomputable def TZ (T:Nat->Fn):FS:=aw (aC (aK aJ (aa (aK mkRef ag) (aa (fC (.int 0)) (aa hU (aa hU ag))))) (gT 4 (au (gN 3) (au (gN 4) (au (gN 5) (au (gN 6) aP)))))) (aw (aC (ao (T 29) (aa (af 0) (aa (aK cj (aa (fC (.int 1)) (aa (fC (.int 2)) (aa (fC (.int 3)) (aa (fC (.int 3)) (aa (fC (.int 4)) (aa (fC (.int 5)) ag))))))) ag))) (gN 7)) (aw (cS (gI (aa (ao (T 28) (aa (af 0) (aa (aq aV (af 2) (fC (.int 1))) ag))) ag)) (gN 8) (aw (aC (aq aV (af 4) (ao (T 29) (aa (af 0) (aa (aK cj (aa (fC (.int 0)) (aa (fC (.int 1)) (aa (fC (.int 1)) (aa (fC (.int 2)) (aa (fC (.int 5)) ag)))))) ag)))) (gN 4)) (aw (aC (bh aY (gI (aa (af 7) ag)) [none,none,some 4,some 6,some 5] (gN 1) (i4 (aH (aq gK (af 1) (af 4))) (aH (aq oLe (cq iL i5 (af 3) (aa (af 1) (aa (fC (.int 0)) ag))) (af 2)))) (af 1)) (gN 9)) (bK (aH (aq gZ (af 9) (aK cj ag))) (aw (aC (ao (T 29) (aa (af 0) (aa (af 9) ag))) (gN 10)) (aw (aC (aq aV (aq aV (af 4) (fC (.int 1))) (ao (T 29) (aa (af 0) (aa (aK cj (aa (fC (.int 0)) (aa (fC (.int 1)) (aa (fC (.int 2)) (aa (fC (.int 4)) (aa (fC (.int 9)) ag)))))) ag)))) (eU (af 6) (af 10))) (aw (aC (aq aV (aq aV (aq bU (fC (.int 4)) (af 4)) (fC (.int 1))) (ao (T 28) (aa (af 0) (aa (aq (aR bp (· - ·)) (aq bU (fC (.int 4)) (aq (aR bp (· - ·)) (aq ay (af 6) (af 10)) (af 4))) (fC (.int 1))) ag)))) (gN 11)) (aw (aC (aK aJ (aa (fC (.str "look")) ag)) (gN 12)) (aw (bK (aH (aq oLt (ao (T 28) (aa (af 0) (aa (fC (.int 5)) ag))) (fC (.int 3)))) (aC (aK aJ (aa (fC (.str "put")) (aa (ao (T 28) (aa (af 0) (aa (af 1) ag))) (aa (ao (T 30) (aa (af 0) ag)) ag)))) (gN 12)) aN) (aw (bK (aH (aq oEq (ao (T 28) (aa (af 0) (aa (fC (.int 8)) ag))) (fC (.int 0)))) (aC (fC (.bl true)) (eU (af 5) (af 10))) aN) (cX (cq isRef b7 (af 3) (aa (aK aJ (aa (af 11) (aa (af 8) (aa (aK aJ (aa (af 10) (aa (af 12) (aa (af 4) (aa (ux (aH (aq hJ (af 10) (af 5))) (fC .aA) (aq ay (af 6) (af 10))) ag))))) ag)))) ag))))))))) aN)))) (aF (af 3))))
noncomputable def T1 (T:Nat->Fn):FS:=aw (aC (aK aJ (aa (aq bU (aK aJ (aa (fC (.int 0)) ag)) (af 0)) (aa hU (aa (aK mkRef ag) ag)))) (gT 3 (au (gN 2) (au (gN 3) (au (gN 4) aP))))) (aw (cS (bQ (ao ib (aa (af 1) ag))) (gT 3 (au (gN 5) (au (gN 6) (au (gT 4 (au (gN 7) (au (gN 8) (au (gN 9) (au (gN 10) aP))))) aP)))) (aw (bK (aH (aq oEq (aq ay (af 8) (fC (.int 0))) (fC (.str "put")))) (aC (aq aV (aq aV (dX (af 2) cN (cC (aq ay (af 8) (fC (.int 1))))) (aK aJ (aa (aq ay (af 8) (fC (.int 2))) ag))) (dX (af 2) (cC (aq aV (aq ay (af 8) (fC (.int 1))) (fC (.int 1)))) cN)) (gN 2)) aN) (aw (bK (gW (aH (aq oEq (aq ay (af 8) (fC (.int 0))) (fC (.str "put")))) (aH (aq cF (af 10) (fC .aA)))) (cX (cq isRef b7 (af 4) (aa (af 6) ag))) aN) (bK (i4 (aH (aq oEq (aq ay (af 8) (fC (.int 0))) (fC (.str "look")))) (aH (aq cF (af 10) (fC .aA)))) (aC (af 2) (eU (af 3) (af 6))) aN)))) (aw (aC (bh aY (bQ (af 1)) [none,none,none,none] (gT 3 (au (gN 1) (au (gN 2) (au (gN 3) aP)))) aQ (af 2)) (gN 11)) (aF (aK aJ (aa (ao da (aa (bh aY (bQ (af 1)) [none,none,none,none,some 3] (gT 3 (au (gN 1) (au (gN 2) (au (gN 3) aP)))) aQ (aq aV (af 3) (aK aJ (aa (cq iL i5 (af 4) (aa (af 2) ag)) ag)))) ag)) (aa (ao da (aa (fJ aY (mI (af 4)) [none,none,some 11] (gN 1) aQ (cq iY ia (af 2) (aa (af 1) ag))) ag)) ag))))))
noncomputable def T2 (T:Nat->Fn):FS:=aw (aC (ao jq (aa (af 2) ag)) (gN 3)) (aw (cS (gI (aa (aq bU (ao (T 29) (aa (af 0) (aa (aK cj (aa (fC (.int 0)) (aa (fC (.int 1)) (aa (fC (.int 1)) (aa (fC (.int 2)) (aa (fC (.int 3)) ag)))))) ag))) (ao ki (aa (aq kq (af 3) (aK cj ag)) ag))) ag)) (gN 4) (aw (aC (ao (T 28) (aa (af 0) (aa (ao cx (aa (af 3) ag)) ag))) (gN 5)) (aw (aC (aq ay (af 3) (af 5)) (gT 5 (au (gN 6) (au (gN 7) (au (gN 8) (au (gN 9) (au (gN 10) aP))))))) (bK (aH (aq cF (af 10) (fC .aA))) (aw (aC (ao (T 28) (aa (af 0) (aa (af 1) ag))) (gN 11)) (aw (aC (fJ aY (mI (af 3)) [none,none] (gN 1) (aH (aq cF (aq ay (af 1) (fC (.int 4))) (fC .aA))) (aq ay (af 1) (fC (.int 4)))) (gN 12)) (aw (aC (aq aV (aq aV (dX (af 10) cN (cC (af 11))) (aK aJ (aa (ao (T 30) (aa (af 0) ag)) ag))) (dX (af 10) (cC (aq aV (af 11) (fC (.int 1)))) cN)) (gN 13)) (aC (aK aJ (aa (af 6) (aa (af 7) (aa (af 8) (aa (af 9) (aa (ao (T 29) (aa (af 0) (aa (aK cj (aa (af 13) (aa (ao (T 29) (aa (af 0) (aa (af 12) ag))) ag))) ag))) ag)))))) (eU (af 3) (af 5)))))) aN)))) (aF (ao da (aa (af 3) ag))))
noncomputable def T3 (T:Nat->Fn):FS:=aw (pM 3 4 5 (aa (aq bU (aK aJ (aa (fC (.int 0)) ag)) (af 0)) (aa (aK mkRef ag) (aa (aK mkRef (aa (aK aJ (aa (aK aJ ag) (aa (aq bU (aK aJ (aa (fC (.int 0)) ag)) (af 0)) ag))) ag)) ag)))) (aw (cS (bQ (af 2)) (gN 6) (aw (cX (cq isRef b7 (af 4) (aa (af 6) ag))) (aw (bK (aH (aq oEq (aq ay (aq ay (aq ay (af 1) (af 6)) (fC (.int 1))) (fC (.int 0))) (fC (.str "put")))) (aC (aq aV (aq aV (dX (af 3) cN (cC (aq ay (aq ay (aq ay (af 1) (af 6)) (fC (.int 1))) (fC (.int 1))))) (aK aJ (aa (aq ay (aq ay (aq ay (af 1) (af 6)) (fC (.int 1))) (fC (.int 2))) ag))) (dX (af 3) (cC (aq aV (aq ay (aq ay (aq ay (af 1) (af 6)) (fC (.int 1))) (fC (.int 1))) (fC (.int 1)))) cN)) (gN 3)) aN) (cX (cq isRef b7 (af 5) (aa (aK aJ (aa (ao da (aa (ao ib (aa (af 4) ag)) ag)) (aa (af 3) ag))) ag)))))) (aF (ao da (aa (af 5) ag))))
noncomputable def T4 (T:Nat->Fn):FS:=aw (qL 2 3 (aa (ao jq (aa (af 1) ag)) (aa (aK mkRef ag) ag))) (aw (kG 1000000 (aH (aq kq (af 2) (aK cj ag))) (cX (cq isRef b7 (af 3) (aa (cq isRef ko (af 2) (aa (ao (T 28) (aa (af 0) (aa (ao cx (aa (af 2) ag)) ag))) ag)) ag)))) (aF (ao da (aa (af 3) ag))))
noncomputable def T5 (T:Nat->Fn):FS:=aw (aC (ao (T 15) (aa (af 1) (aa (af 2) ag))) (gT 2 (au (gN 4) (au (gN 5) aP)))) (aw (bK (aH (aq oEq (af 4) (fC (.str "order")))) (aw (aC (aK cj (aa (aK aJ (aa (aK aJ (aa (aK aJ ag) (aa (aq bU (aK aJ (aa (fC (.int 0)) ag)) (af 1)) ag))) ag)) (aa (ao (T 34) (aa (af 1) (aa (af 2) (aa (af 5) ag)))) (aa (oG (ao (T 34) (aa (af 1) (aa (af 2) (aa (af 5) ag)))) cN cN (cC (mr jG (fC (.int 1))))) ag)))) (gN 6)) (aF (dA (aq xk (ao (T 17) (aa (af 1) (aa (af 2) (aa (af 5) ag)))) (fC (.bl true))) (jn (ao eR (aa (bh aY (bQ (af 6)) [none,none,some 1,some 2] (gN 1) aQ (ao (T 22) (aa (af 2) (aa (af 3) (aa (af 1) ag))))) ag)))))) aN) (aw (bK (gW (aH (aq gZ (af 4) (fC (.str "none")))) (aH (aq cF (ao (T 22) (aa (af 1) (aa (af 2) (aa (af 5) ag)))) (fC (.bl true))))) (aF (fC (.bl false))) aN) (aw (aC (aq aV (aK cj (aa (af 3) (aa (oG (af 3) cN cN (cC (mr jG (fC (.int 1))))) (aa (aK aJ ag) ag)))) (bh aY (gI (aa (fC (.int 6)) ag)) [none,none,some 0,some 3] (gN 1) aQ (ao (T 35) (aa (af 2) (aa (af 3) ag))))) (gN 7)) (aF (jn (ao eR (aa (bh aY (bQ (af 7)) [none,none,some 1,some 2] (gN 1) aQ (ao (T 17) (aa (af 2) (aa (af 3) (aa (af 1) ag))))) ag)))))))
noncomputable def NS (T:Nat->Fn):FS:=aw (cS (gI (aa (ao qE (aa (fC (.int 1)) (aa (ao qF (aa (fC (.int 4)) (aa (ao cx (aa (af 0) ag)) ag))) ag))) ag)) (gN 1) (aw (aC (ao (T 27) (aa (af 0) (aa (af 1) ag))) (gN 2)) (aw (aC (aq aV (fC (.int 1)) (ao (T 28) (aa (af 2) (aa (fC (.int 5)) ag)))) (gN 3)) (aw (aC (ao (T 32) (aa (af 3) (aa (ao (T 31) (aa (af 2) (aa (af 3) (aa (aq ay (aK cj (aa (fC (.int 9)) (aa (fC (.int 9)) (aa (fC (.int 9)) (aa (fC (.int 14)) ag))))) (ao (T 28) (aa (af 2) (aa (fC (.int 4)) ag)))) ag)))) ag))) (gT 2 (au (gN 4) (au (gN 5) aP)))) (aw (bK (gW (aH (aq gZ (aq ay (ao (T 15) (aa (af 3) (aa (af 4) ag))) (fC (.int 0))) (fC (.str "order")))) (cz (bW (ao (T 36) (aa (af 2) (aa (af 3) (aa (af 4) (aa (af 5) ag)))))))) (aF (fC (.bl false))) aN) (bK (cz (bW (ao (T 36) (aa (af 2) (aa (af 3) (aa (ao (T 33) (aa (af 2) (aa (af 3) (aa (af 4) ag)))) (aa (af 5) ag))))))) (aF (fC (.bl false))) aN)))))) (aF (fC (.bl true)))
noncomputable def tab:Nat->Nat->Fn
 | 0,_=>λ_ _=>none
 |k+1,0=>(aD false 1 1 (Xz (tab k)))
 |k+1,1=>(aD false 3 3 (XA (tab k)))
 |k+1,2=>(aD false 2 2 (XB (tab k)))
 |k+1,3=>(aD false 3 3 (XC (tab k)))
 |k+1,4=>(aD false 1 1 (XD (tab k)))
 |k+1,5=>(aD false 1 1 (XE (tab k)))
 |k+1,6=>(aD false 2 2 (XF (tab k)))
 |k+1,7=>(aD false 2 2 (XG (tab k)))
 |k+1,8=>(aD false 1 1 (XH (tab k)))
 |k+1,9=>(aD false 1 1 (XI (tab k)))
 |k+1,10=>(aD false 5 1 (Ts (tab k)))
 |k+1,11=>(aD false 8 3 (Tt (tab k)))
 |k+1,12=>(aD false 2 2 (Tu (tab k)))
 |k+1,13=>(aD false 3 2 (Tv (tab k)))
 |k+1,14=>(aD false 3 2 (Tw (tab k)))
 |k+1,15=>(aD false 10 2 (Tx (tab k)))
 |k+1,16=>(aD false 2 2 (Tz (tab k)))
 |k+1,17=>(aD false 3 3 (TB (tab k)))
 |k+1,18=>(aD false 2 2 (TC (tab k)))
 |k+1,19=>(aD false 2 2 (TF (tab k)))
 |k+1,20=>(aD false 4 2 (TH (tab k)))
 |k+1,21=>(aD false 4 2 (TJ (tab k)))
 |k+1,22=>(aD false 6 3 (TK (tab k)))
 |k+1,23=>(aD false 6 2 (TM (tab k)))
 |k+1,24=>(aD false 4 4 (TN (tab k)))
 |k+1,25=>(aD false 2 2 (TQ (tab k)))
 |k+1,26=>(aD false 3 3 (TR (tab k)))
 |k+1,27=>(aD true 3 2 (TU (tab k)))
 |k+1,28=>(aD false 6 2 (TV (tab k)))
 |k+1,29=>(aD false 2 2 (TX (tab k)))
 |k+1,30=>(aD false 1 1 (TY (tab k)))
 |k+1,31=>(aD false 13 3 (TZ (tab k)))
 |k+1,32=>(aD false 12 2 (T1 (tab k)))
 |k+1,33=>(aD false 14 3 (T2 (tab k)))
 |k+1,34=>(aD false 7 3 (T3 (tab k)))
 |k+1,35=>(aD false 4 2 (T4 (tab k)))
 |k+1,36=>(aD false 8 4 (T5 (tab k)))
 |k+1,37=>(aD false 6 1 (NS (tab k)))
 |_+1,_=>λ_ _=>none
theorem XJ (k:Nat):tab (k+1) 0=NI.run mo (tab k) k:=by kernel_rfl
theorem XM (k:Nat):tab (k+1) 1=NJ.run mo (tab k) k:=by kernel_rfl
theorem XO (k:Nat):tab (k+1) 2=NK.run mo (tab k) k:=by kernel_rfl
theorem XQ (k:Nat):tab (k+1) 3=NL.run mo (tab k) k:=by kernel_rfl
theorem XR (k:Nat):tab (k+1) 4=NM.run mo (tab k) k:=by kernel_rfl
theorem XS (k:Nat):tab (k+1) 5=NN.run mo (tab k) k:=by kernel_rfl
theorem XT (k:Nat):tab (k+1) 6=NO.run mo (tab k) k:=by kernel_rfl
theorem XU (k:Nat):tab (k+1) 7=NP.run mo (tab k) k:=by kernel_rfl
theorem XW (k:Nat):tab (k+1) 8=NQ.run mo (tab k) k:=by kernel_rfl
theorem XX (k:Nat):tab (k+1) 9=NR.run mo (tab k) k:=by kernel_rfl
theorem T6 (k:Nat):tab (k+1) 10=F5.run mo (tab k) k:=by kernel_rfl
theorem T7 (k:Nat):tab (k+1) 11=F6.run mo (tab k) k:=by kernel_rfl
theorem T8 (k:Nat):tab (k+1) 12=F7.run mo (tab k) k:=by kernel_rfl
theorem T9 (k:Nat):tab (k+1) 13=F8.run mo (tab k) k:=by kernel_rfl
theorem T_ (k:Nat):tab (k+1) 14=F9.run mo (tab k) k:=by kernel_rfl
theorem Ua (k:Nat):tab (k+1) 15=F_.run mo (tab k) k:=by kernel_rfl
theorem Ub (k:Nat):tab (k+1) 16=Ga.run mo (tab k) k:=by kernel_rfl
theorem Uc (k:Nat):tab (k+1) 17=Gb.run mo (tab k) k:=by kernel_rfl
theorem Ud (k:Nat):tab (k+1) 18=Ge.run mo (tab k) k:=by kernel_rfl
theorem Ue (k:Nat):tab (k+1) 19=Gf.run mo (tab k) k:=by kernel_rfl
theorem Ug (k:Nat):tab (k+1) 20=Gg.run mo (tab k) k:=by kernel_rfl
theorem Uh (k:Nat):tab (k+1) 21=Gh.run mo (tab k) k:=by kernel_rfl
theorem Ui (k:Nat):tab (k+1) 22=Gi.run mo (tab k) k:=by kernel_rfl
theorem Uj (k:Nat):tab (k+1) 23=Gj.run mo (tab k) k:=by kernel_rfl
theorem Uk (k:Nat):tab (k+1) 24=Gk.run mo (tab k) k:=by kernel_rfl
theorem Ul (k:Nat):tab (k+1) 25=Gm.run mo (tab k) k:=by kernel_rfl
theorem Um (k:Nat):tab (k+1) 26=Gn.run mo (tab k) k:=by kernel_rfl
theorem Uo (k:Nat):tab (k+1) 27=Gp.run mo (tab k) k:=by kernel_rfl
theorem Up (k:Nat):tab (k+1) 28=Gq.run mo (tab k) k:=by kernel_rfl
theorem Uq (k:Nat):tab (k+1) 29=Gr.run mo (tab k) k:=by kernel_rfl
theorem Ur (k:Nat):tab (k+1) 30=Gs.run mo (tab k) k:=by kernel_rfl
theorem Us (k:Nat):tab (k+1) 31=Gu.run mo (tab k) k:=by kernel_rfl
theorem Ut (k:Nat):tab (k+1) 32=Gv.run mo (tab k) k:=by kernel_rfl
theorem Uu (k:Nat):tab (k+1) 33=Gw.run mo (tab k) k:=by kernel_rfl
theorem Uv (k:Nat):tab (k+1) 34=Gx.run mo (tab k) k:=by kernel_rfl
theorem Uw (k:Nat):tab (k+1) 35=Gy.run mo (tab k) k:=by kernel_rfl
theorem Ux (k:Nat):tab (k+1) 36=Gz.run mo (tab k) k:=by kernel_rfl
theorem Uy (k:Nat):tab (k+1) 37=GA.run mo (tab k) k:=by kernel_rfl
theorem good:Good mo tab:=⟨λ_ _ _=>rfl,λk j d h=>by
 match j,h with
 | 0,h=>cases h;exact XJ k
 | 1,h=>cases h;exact XM k
 | 2,h=>cases h;exact XO k
 | 3,h=>cases h;exact XQ k
 | 4,h=>cases h;exact XR k
 | 5,h=>cases h;exact XS k
 | 6,h=>cases h;exact XT k
 | 7,h=>cases h;exact XU k
 | 8,h=>cases h;exact XW k
 | 9,h=>cases h;exact XX k
 | 10,h=>cases h;exact T6 k
 | 11,h=>cases h;exact T7 k
 | 12,h=>cases h;exact T8 k
 | 13,h=>cases h;exact T9 k
 | 14,h=>cases h;exact T_ k
 | 15,h=>cases h;exact Ua k
 | 16,h=>cases h;exact Ub k
 | 17,h=>cases h;exact Uc k
 | 18,h=>cases h;exact Ud k
 | 19,h=>cases h;exact Ue k
 | 20,h=>cases h;exact Ug k
 | 21,h=>cases h;exact Uh k
 | 22,h=>cases h;exact Ui k
 | 23,h=>cases h;exact Uj k
 | 24,h=>cases h;exact Uk k
 | 25,h=>cases h;exact Ul k
 | 26,h=>cases h;exact Um k
 | 27,h=>cases h;exact Uo k
 | 28,h=>cases h;exact Up k
 | 29,h=>cases h;exact Uq k
 | 30,h=>cases h;exact Ur k
 | 31,h=>cases h;exact Us k
 | 32,h=>cases h;exact Ut k
 | 33,h=>cases h;exact Uu k
 | 34,h=>cases h;exact Uv k
 | 35,h=>cases h;exact Uw k
 | 36,h=>cases h;exact Ux k
 | 37,h=>cases h;exact Uy k
 |j+38,h=>exact absurd h (by simp[mo,ds]),λd hd=>Bp (show xQ ds=true by decide +kernel) d hd⟩
end K51
namespace K51
open PySem L3 L2 Pd Od Sd RI
theorem XY (k:Nat):q_ (tab (k+1) 0):=DM
theorem NT (k:Nat):lF (tab (k+2) 1):=BD (XY k)
theorem Q_ (k:Nat):iZ (tab (k+3) 2):=zv (NT k)
theorem wA (k:Nat):eM (tab (k+1) 3):=zw
theorem NU (k:Nat):∀n,vK (tab (k+4+n) 6) n
 | 0=>Mj (Q_ k)
 |n+1=>Ml (show iZ (tab (k+4+n) 2) by rw[show k+4+n=(k+1+n)+3 by omega];exact Q_ _) (show eM (tab (k+4+n) 3) by rw[show k+4+n=(k+3+n)+1 by omega];exact wA _) (NU k n)
theorem XZ (k:Nat):zu (tab (k+8) 5):=Mm (NU k 3)
theorem NV (k:Nat)(h0:0<=p)(h1:p<=100):kT p (tab (k+1) 4):=D2 h0 h1
theorem NW (k:Nat)(p:Int):iG p (tab (k+1) 7):=DP
theorem NX (k:Nat):m_ (tab (k+1) 8):=IP
theorem Uz (k:Nat):nK (tab (k+1) 8):=Ed
theorem NY (k:Nat):tS (tab (k+2) 9):=MQ (NX k)
theorem NZ (k:Nat)(p:Int):qs p (tab (k+2) 10):=IQ (NW k p) (NX k)
theorem N0 (k:Nat)(p:Int):jN p (tab (k+1) 12):=IH
theorem N1 (k:Nat)(h1:p<=100):iH p (tab (k+1) 13):=BJ h1
theorem N2 (k:Nat)(h1:p<=100):jw p (tab (k+2) 11):=Ea (N0 k p) (N1 k h1)
theorem UA (k:Nat)(xs:List Rt)(p:Int):tU xs p (tab (k+1) 14):=M0
theorem UB (k:Nat):js (tab (k+1) 16):=PD
theorem Ek (k:Nat)(h0:0<=p)(h1:p<=100):zG p (tab (k+3) 15):=Nb h0 (NV (k+1) h0 h1) (NZ k p) (NY k) (N2 k h1) (λxs=>UA (k+1) xs p) (UB (k+1))
theorem N3 (k:Nat):tR (tab (k+3) 18):=MC (NT k)
theorem UC (k:Nat)(p:Int):rE p (tab (k+1) 19):=D3
theorem UD (k:Nat)(p:Int):rF p (tab (k+2) 20):=D4 (NW k p)
theorem UE (k:Nat)(h0:0<=p)(h1:p<=100):mY p (tab (k+2) 21):=zB h0 (NV k h0 h1) (N0 k p) (N1 k h1)
theorem N4 (k:Nat)(h0:0<=p)(h1:p<=100):kW p (tab (k+4) 17):=D6 (wA (k+2)) (N3 k) (UC (k+2) p) (UD (k+1) p) (UE (k+1) h0 h1)
theorem UG (k:Nat):zI (tab (k+4) 25):=Nc (wA (k+2)) (N3 k)
theorem UH (k:Nat)(h1:p<=100):zK p (tab (k+9) 26):=Nd h1 (wA (k+7)) (XZ k)
theorem UI (k:Nat)(h1:p<=100):qw p (tab (k+10) 24):=IU (wA (k+8)) (UG (k+5)) (UH k h1)
theorem UJ (k:Nat)(h1:p<=100)(xs:List Rt)(hx:∀x∈xs,bH p x)(hn:xs.length<=100):zM xs p (tab (k+3) 23):=Nh hx hn (NZ k p) (NY k) (N2 k h1)
theorem N5 (k:Nat)(h0:0<=p)(h1:p<=100):yh p (tab (k+11) 22):=Np h0 (Uz (k+9)) (NV (k+9) h0 h1) (UI k h1) (λxs hx hn=>UJ (k+7) h1 xs hx hn)
theorem X0 (k:Nat):p8 (tab (k+1) 27):=Iw
theorem yr (k:Nat):dU (tab (k+1) 28):=Iu
theorem N6 (k:Nat):gq (tab (k+2) 29):=Iv (yr k)
theorem N7 (k:Nat):gr (tab (k+3) 30):=IA (N6 k)
theorem Ra (k:Nat):tab (k+4) 31=aD false 13 3 (vQ (tab (k+3) 28) (tab (k+3) 29) (tab (k+3) 30)):=rfl
theorem Rb (k:Nat):tab (k+1) 32=aD false 12 2 vR:=rfl
theorem Rc (k:Nat):tab (k+4) 33=aD false 14 3 (v7 (tab (k+3) 28) (tab (k+3) 29) (tab (k+3) 30)):=rfl
theorem N8 (k:Nat)(h0:0<=p)(h1:p<=100):qx p (tab (k+1) 34):=Jb h0 h1
theorem N9 (k:Nat):tW (tab (k+2) 35):=ND (yr k)
theorem N_ (k:Nat):tab (k+1) 36=aD false 8 4 (oT (tab k 15) (tab k 17) (tab k 22) (tab k 34) (tab k 35)):=rfl
noncomputable def Rf (T:Nat->Fn):FS:=bK (gW (aH (aq gZ (aq ay (ao (T 15) (aa (af 3) (aa (af 4) ag))) (fC (.int 0))) (fC (.str "order")))) (cz (bW (ao (T 36) (aa (af 2) (aa (af 3) (aa (af 4) (aa (af 5) ag)))))))) (aF (fC (.bl false))) aN
noncomputable def Rg (T:Nat->Fn):FS:=bK (cz (bW (ao (T 36) (aa (af 2) (aa (af 3) (aa (ao (T 33) (aa (af 2) (aa (af 3) (aa (af 4) ag)))) (aa (af 5) ag))))))) (aF (fC (.bl false))) aN
noncomputable def iter (T:Nat->Fn):FS:=aw (aC (ao (T 27) (aa (af 0) (aa (af 1) ag))) (gN 2)) (aw (aC (aq aV (fC (.int 1)) (ao (T 28) (aa (af 2) (aa (fC (.int 5)) ag)))) (gN 3)) (aw (aC (ao (T 32) (aa (af 3) (aa (ao (T 31) (aa (af 2) (aa (af 3) (aa (aq ay (aK cj (aa (fC (.int 9)) (aa (fC (.int 9)) (aa (fC (.int 9)) (aa (fC (.int 14)) ag))))) (ao (T 28) (aa (af 2) (aa (fC (.int 4)) ag)))) ag)))) ag))) (gT 2 (au (gN 4) (au (gN 5) aP)))) (aw (Rf T) (Rg T))))
noncomputable def GB (T:Nat->Fn):FS:=aw (cS (gI (aa (ao qE (aa (fC (.int 1)) (aa (ao qF (aa (fC (.int 4)) (aa (ao cx (aa (af 0) ag)) ag))) ag))) ag)) (gN 1) (iter T)) (aF (fC (.bl true)))
theorem Oa (T:Nat->Fn):NS T=GB T:=rfl
theorem Ca {xs ys:List Rt}{p:Int}(p0:0<=p)(p5:p<=5)(hy:∀y∈ys,bH p y)(hn:xs.length<=14)(hh:∀x∈xs,x.1.h<=4)(pw:xs.Pairwise xZ)(em:ys.map (·.1)=xs.map (·.1)):wo ys p:=by
 have el:ys.length=xs.length:=by simpa using congrArg aca em
 have pm:∀zs:List Rt,zs.Pairwise xZ ↔ (zs.map (·.1)).Pairwise λr s=>r.b<=s.b/\(r.h=s.h->∃e,r.e=some e/\e<=s.b):=λzs=>by
  rw[aab]
  exact Iff.rfl
 refine B6 p0 p5 hy (by omega) (λy hm=>?_) (by rw[pm,em,<- pm];exact pw)
 have:y.1∈ys.map (·.1):=Zc.mpr ⟨y,hm,rfl⟩
 rw[em]at this
 obtain⟨x,hx,e⟩:=Zc.mp this
 rw[<- e]
 exact hh x hx
noncomputable def X1 (ns:List Int)(i:Nat)(σ:Sg)(g:G):Prop:=(∃o1 o2 o3 o4 o5,σ = [some (.lst (ns.map .int)),o1,o2,o3,o4,o5])/\Clean g
set_option maxHeartbeats 4000000 in
theorem El (ns:List Int)(hl:ns.length<=63):∃g',tab 60 37 [.lst (ns.map .int)] []=some (.bl true,g'):=by
 have main:wp (tab 60 37 [.lst (ns.map .int)] []) λr=>r.1 = .bl true:=by
  refine fO rfl ?_
  simp only[Oa,GB,cP,wp_bind,xg]
  refine nH ?_
  simp
  refine⟨by split<;>omega,by split<;>omega,?_⟩
  refine kM (X1 ns) _ 0 _ _ ⟨⟨_,_,_,_,_,rfl⟩,λx hx=>by simp at hx⟩ ?_ ?_
  . rintro j d σ g hd ⟨⟨o1,o2,o3,o4,o5,rfl⟩,hc⟩
    obtain⟨hj,rfl⟩:=jM hd
    have Y0:j<10:=by
     revert hj;split<;>omega
    simp[iter]
    refine(X0 58).w (by omega) λcs hh=>?_
    have vW:=hc.app hh
    simp
    generalize g.length=n at *
    refine(yr 58).w (by decide) (by decide) (by decide) hh λr g1 r0 r1 h1 f1=>?_
    have jA:=vW.fr f1 h1
    have q0:(0:Int)<=1+r:=by omega
    have q1:1+r<=100:=by omega
    have q5:1+r<=5:=by omega
    simp
    refine(yr 58).w (by decide) (by decide) (by decide) h1 λr' Rh Y1 Y2 pB X2=>?_
    have Ob:=jA.fr X2 pB
    obtain⟨most,hm,em⟩:∃most:Nat,most<=14/\pI (.lst [.int 9,.int 9,.int 9,.int 14]) (.int r') Rh=some (.int most,Rh):=by
     have h4:r'=0\/r'=1\/r'=2\/r'=3:=by omega
     rcases h4 with rfl|rfl|rfl|rfl
     . exact⟨9,by omega,by simp[eW]⟩
     . exact⟨9,by omega,by simp[gD]⟩
     . exact⟨9,by omega,by simp[rn]⟩
     . exact⟨14,by omega,by simp[zy]⟩
    refine⟨_,em,?_⟩
    rw[Ra 55]
    refine Mu (most:=most) (yr 57) (N6 56) (N7 55) (by decide) (by omega) (by omega) (by omega) pB Ob λrws g3 R h3 f3=>?_
    have GC:=Ob.fr f3 h3
    simp only
    rw[Rb 58]
    refine MA (by omega) (by omega) (by omega) R GC λcy ss T S=>?_
    obtain⟨w1,w2,w3⟩:=IF R T
    have hlen:=R.len
    have tt:=BM R T S
    rw[Py]
    have X3:rws.map (oN cy)=(fv cy rws).map rt:=w1
    have Cb:∀x∈fv cy rws,bH (1+r) x:=w2
    have Ri:(fv cy rws).Pairwise xZ:=w3
    have xl:(fv cy rws).length=rws.length:=by simp[fv]
    have Rj:∀x∈fv cy rws,x.1.h<=4:=λx hx=>by
     obtain⟨q,hq,rfl⟩:=Zc.mp hx
     exact R.h5 q hq
    rw[X3]
    have sl:(fY rws ss).length<=100:=by
     have h1:=S.pm.length_eq
     have h2:=Z8 fz ss
     simp[fY]
     omega
    generalize Yl:fY rws ss=sec at *
    generalize fv cy rws=xs at *
    have bx:wo xs (1+r):=Ca q0 q5 Cb (by omega) Rj Ri rfl
    have si:∀d∈kD sec,k_ d:=λd hd=>by obtain⟨k,_,rfl⟩:=Zc.mp hd;exact⟨_,rfl⟩
    have sk:(kD sec).length<=100:=by simpa[kD]using sl
    obtain⟨d,eo,_,ho⟩:=Ek 56 (p:=1+r) q0 q1 xs g3 Cb (by omega) bx GC
    have UK:∃t,d = .tup [.str "order",t]:=by
     rcases ho with⟨ks,v,e,_,_⟩|⟨es,_,_,hC⟩
     . exact⟨_,e⟩
     . rw[wy Cb hC]at tt
       cases tt
    obtain⟨t,rfl⟩:=UK
    have fs:flat (.str "order")=true:=rfl
    have ds:dep (.str "order")<=60:=ZM _
    have er:=fG _ fs
    simp
    unfold Rf
    simp[eo,eW,fs,ds,er]
    rw[N_ 58]
    refine NH q0 q1 (Ek 55 q0 q1) (N4 54 q0 q1) (N5 47 q0 q1) (N8 57 q0 q1) (N9 56) (by decide) Cb (by omega) bx si sk h3 GC λg5 h5 f5=>?_
    have Rk:=GC.fr f5 h5
    simp
    unfold Rg
    simp
    rw[Rc 55]
    refine MP (yr 57) (N6 56) (N7 55) (by decide) (by omega) (by omega) Cb (by omega) h5 Rk λys g6 hy NG h6 f6=>?_
    have Rl:=Rk.fr f6 h6
    have yl:ys.length=xs.length:=by simpa using congrArg aca NG
    simp
    rw[N_ 58]
    refine NH q0 q1 (Ek 55 q0 q1) (N4 54 q0 q1) (N5 47 q0 q1) (N8 57 q0 q1) (N9 56) (by decide) hy (by omega) (Ca q0 q5 hy (by omega) Rj Ri NG) si sk h6 Rl λg7 h7 f7=>?_
    simp
    exact⟨⟨_,_,_,_,_,rfl⟩,Rl.fr f7 h7⟩
  . rintro σ g ⟨⟨o1,o2,o3,o4,o5,rfl⟩,hc⟩
    simp
    rfl
 obtain⟨⟨d,g'⟩,e,h⟩:=main
 cases h
 exact⟨g',e⟩
end K51
namespace K51
open PySem PySem.Spec PyProof.Rows L2 L3 RI
theorem walk {l:PySem.W.OpenLaw}{q:ZC}{loose:List Str}{XP:(Str->Option Value)->Heap->Prop}{YP:World->Heap->Prop}{d:DefRec}{K:Params->PySem.W.Frag}(hn:l.most=some 63)(uv:d.params.defaults = [])(Ma:d.name = "law")
  (hY:∀(w:World) (h:Heap),YP w h->(K w.params).In h)
  (F:∀(w:World) (mg:Str->Option Value) (h:Heap),(K w.params).In h->h.Ns ZX mg->At (K w.params) w mg mo):
  PySem.W.WalkO q loose XP YP l.row.toRowW d [] (λf vs=>PySem.call f vs):=
 RI.Im (i:=37) (R:=60) (x:="_law_script") hn ⟨rfl,by decide,by decide,rfl⟩ uv Ma hY F rfl rfl rfl good El
end K51
open PySem PySem.W PyProof.Rows
theorem PySem.W.Fast.te1235858130420356093:True:=trivial
theorem PySem.W.Fast.tw14979126067725964898:True:=trivial
theorem PySem.W.Fast.tw690266722618813784:True:=trivial
theorem PySem.W.Fast.tw14709692431144457917:True:=trivial
theorem PySem.W.Fast.tw2342418140057177589:True:=trivial
theorem PySem.W.Fast.tw2624534153609558155:True:=trivial
theorem PySem.W.Fast.tw13329988160044656250:True:=trivial
theorem PySem.W.Fast.tw17999666141776080060:True:=trivial
theorem PySem.W.Fast.tw4905828597302902477:True:=trivial
theorem PySem.W.Fast.tw3006119658442766780:True:=trivial
theorem PySem.W.Fast.tw2988885345310441458:True:=trivial
theorem PySem.W.Fast.tw2257325234735338041:True:=trivial
theorem PySem.W.Fast.tw4487389041435999013:True:=trivial
theorem PySem.W.Fast.tw4868193518526459835:True:=trivial
theorem PySem.W.Fast.tw13926164937902109465:True:=trivial
theorem PySem.W.Fast.tw14260023783290522695:True:=trivial
theorem PySem.W.Fast.tw17565219820387179144:True:=trivial
theorem PySem.W.Fast.tw7029140126256788208:True:=trivial
theorem PySem.W.Fast.tw5932353632426010728:True:=trivial
theorem PySem.W.Fast.tw8673873441635796833:True:=trivial
theorem PySem.W.Fast.tw6550128450417062164:True:=trivial
theorem PySem.W.Fast.tw13868584749702260379:True:=trivial
theorem PySem.W.Fast.tw7043640628768090646:True:=trivial
theorem PySem.W.Fast.tw5590281667480575996:True:=trivial
theorem PySem.W.Fast.tw4839087673145002473:True:=trivial
theorem PySem.W.Fast.tw5017200793181948324:True:=trivial
theorem PySem.W.Fast.tw2184647052797237981:True:=trivial
theorem PySem.W.Fast.tw14517328778611265670:True:=trivial
theorem PySem.W.Fast.tw8768966061085006237:True:=trivial
theorem PySem.W.Fast.tw11379464332926173297:True:=trivial
theorem PySem.W.Fast.tw9248344798615430130:True:=trivial
theorem PySem.W.Fast.tw16995998449683587514:True:=trivial
theorem PySem.W.Fast.tw14176282716565731873:True:=trivial
theorem PySem.W.Fast.tw8038471341809777424:True:=trivial
theorem PySem.W.Fast.tw17255135298632961015:True:=trivial
theorem PySem.W.Fast.tw13758187726259674366:True:=trivial
theorem PySem.W.Fast.tw7694190320112420011:True:=trivial
theorem PySem.W.Fast.tw17943993541203221494:True:=trivial
theorem PySem.W.Fast.tw16529956360523722707:True:=trivial
theorem PySem.W.Fast.tw5126657808785908516:True:=trivial
theorem PySem.W.Fast.tw14192193493930399177:True:=trivial
theorem PySem.W.Fast.tw16437263996727617018:True:=trivial
theorem PySem.W.Fast.tw9086081551391958544:True:=trivial
theorem PySem.W.Fast.tw14701534288175536796:True:=trivial
theorem PySem.W.Fast.tw5872856730627432778:True:=trivial
theorem PySem.W.Fast.tw1085060315036942232:True:=trivial
theorem PySem.W.Fast.tw10895147859889355855:True:=trivial
theorem PySem.W.Fast.tw15065037913854068019:True:=trivial
theorem PySem.W.Fast.tw12914990998428496956:True:=trivial
theorem PySem.W.Fast.tw9816975997762056200:True:=trivial
theorem PySem.W.Fast.tw4439114697306411658:True:=trivial
theorem PySem.W.Fast.tw9953797671819399311:True:=trivial
theorem PySem.W.Fast.tw9520125177706986529:True:=trivial
theorem PySem.W.Fast.tw6753341135742826185:True:=trivial
theorem PySem.W.Fast.tw5127999496673098844:True:=trivial
theorem PySem.W.Fast.tw16646236075219967776:True:=trivial
theorem PySem.W.Fast.tw14145587282568843298:True:=trivial
theorem PySem.W.Fast.tw15682822954127329826:True:=trivial
theorem PySem.W.Fast.tw13584727615827976507:True:=trivial
theorem PySem.W.Fast.tw9932159818604401517:True:=trivial
theorem PySem.W.Fast.tw9193092880540671572:True:=trivial
theorem PySem.W.Fast.tw16363553381909650495:True:=trivial
theorem PySem.W.Fast.tw5190223585359567200:True:=trivial
theorem PySem.W.Fast.tw9478370818747206099:True:=trivial
theorem PySem.W.Fast.tw16441162213599331614:True:=trivial
theorem PySem.W.Fast.tw5346658662519788934:True:=trivial
theorem PySem.W.Fast.tw5599914813652594694:True:=trivial
theorem PySem.W.Fast.tw2519293005962841981:True:=trivial
theorem PySem.W.Fast.tw10299781498793124679:True:=trivial
theorem PySem.W.Fast.tw17289358279470973107:True:=trivial
theorem PySem.W.Fast.tw18281344562822596581:True:=trivial
theorem PySem.W.Fast.tw16205827601704988357:True:=trivial
theorem PySem.W.Fast.tw11586521529378394380:True:=trivial
theorem PySem.W.Fast.tw2470881394360078701:True:=trivial
theorem PySem.W.Fast.tw17954726729927843905:True:=trivial
theorem PySem.W.Fast.tw5521805082996553497:True:=trivial
theorem PySem.W.Fast.tw604398220279872118:True:=trivial
theorem PySem.W.Fast.tw17550030205521305424:True:=trivial
theorem PySem.W.Fast.tw5830650443639365280:True:=trivial
theorem PySem.W.Fast.tw15975948064754623336:True:=trivial
theorem PySem.W.Fast.tw4268666099863313022:True:=trivial
theorem PySem.W.Fast.tw15850151581995068264:True:=trivial
theorem PySem.W.Fast.tw17903251389275062586:True:=trivial
theorem PySem.W.Fast.tw15441594538444908511:True:=trivial
theorem PySem.W.Fast.tw1794920769539256264:True:=trivial
theorem PySem.W.Fast.tw12773038749791549392:True:=trivial
theorem PySem.W.Fast.tw18224411444231520021:True:=trivial
theorem PySem.W.Fast.tw13749540817212604143:True:=trivial
theorem PySem.W.Fast.tw17816187772916156809:True:=trivial
theorem PySem.W.Fast.tw10850004479964448227:True:=trivial
theorem PySem.W.Fast.tw8925676459318883771:True:=trivial
theorem PySem.W.Fast.tw7422673030459775123:True:=trivial
theorem PySem.W.Fast.tw7248444405413178678:True:=trivial
theorem PySem.W.Fast.tw14212398229358736665:True:=trivial
theorem PySem.W.Fast.tw5577578602339814765:True:=trivial
theorem PySem.W.Fast.tw16769796298982715836:True:=trivial
theorem PySem.W.Fast.tw15386709063133185321:True:=trivial
theorem PySem.W.Fast.tw1534947675054002313:True:=trivial
theorem PySem.W.Fast.tw12372826138649568668:True:=trivial
theorem PySem.W.Fast.tw3015387547342294703:True:=trivial
theorem PySem.W.Fast.tw14949865773857598965:True:=trivial
theorem PySem.W.Fast.tw15680215031584731513:True:=trivial
theorem PySem.W.Fast.tw6797830191951307155:True:=trivial
theorem PySem.W.Fast.tw3297404284624420682:True:=trivial
theorem PySem.W.Fast.tw611569065116283482:True:=trivial
theorem PySem.W.Fast.tw7407136452665756171:True:=trivial
theorem PySem.W.Fast.tw367866967519414908:True:=trivial
theorem PySem.W.Fast.tw2605516212369377416:True:=trivial
theorem PySem.W.Fast.tw8076685527460086116:True:=trivial
theorem PySem.W.Fast.tw11464031802822258603:True:=trivial
theorem PySem.W.Fast.tw4327244405688991778:True:=trivial
theorem PySem.W.Fast.tw3404386522237061139:True:=trivial
theorem PySem.W.Fast.tw4324273477208057516:True:=trivial
theorem PySem.W.Fast.tw11378378861236612500:True:=trivial
theorem PySem.W.Fast.tw12215281019986156821:True:=trivial
theorem PySem.W.Fast.tw15687142549002453687:True:=trivial
theorem PySem.W.Fast.tw936297459967484590:True:=trivial
theorem PySem.W.Fast.tw443581439051239094:True:=trivial
theorem PySem.W.Fast.tw7697581917489712929:True:=trivial
theorem PySem.W.Fast.tw5160506149466477423:True:=trivial
theorem PySem.W.Fast.tw15143879514566077497:True:=trivial
theorem PySem.W.Fast.tw15216390299034039298:True:=trivial
theorem PySem.W.Fast.tw3331813499106493582:True:=trivial
theorem PySem.W.Fast.tw3220997248960034194:True:=trivial
theorem PySem.W.Fast.tw12266512696048498742:True:=trivial
theorem PySem.W.Fast.tw943075304602592070:True:=trivial
theorem PySem.W.Fast.tw16551977317806460006:True:=trivial
theorem PySem.W.Fast.tw13099766332941771857:True:=trivial
theorem PySem.W.Fast.tw5202984362623704320:True:=trivial
theorem PySem.W.Fast.tw9062338579423084124:True:=trivial
theorem PySem.W.Fast.tw862642645606798979:True:=trivial
theorem PySem.W.Fast.tw11375788742312514083:True:=trivial
theorem PySem.W.Fast.tw10309099581298220485:True:=trivial
theorem PySem.W.Fast.tw12349278001132259147:True:=trivial
theorem PySem.W.Fast.tw15316330528175566925:True:=trivial
theorem PySem.W.Fast.tw6251753243731851654:True:=trivial
theorem PySem.W.Fast.tw8942186167529449439:True:=trivial
theorem PySem.W.Fast.tw2022000263978855915:True:=trivial
theorem PySem.W.Fast.tw557819166927027836:True:=trivial
theorem PySem.W.Fast.tw17593655824344843866:True:=trivial
theorem PySem.W.Fast.tw15165423589689712680:True:=trivial
theorem PySem.W.Fast.tw11835500377307648631:True:=trivial
theorem PySem.W.Fast.tw4513842693070135664:True:=trivial
theorem PySem.W.Fast.tw1628447375422559654:True:=trivial
theorem PySem.W.Fast.tw5678765349435204034:True:=trivial
theorem PySem.W.Fast.tw16751674262300608968:True:=trivial
theorem PySem.W.Fast.tw12268564405887968613:True:=trivial
theorem PySem.W.Fast.tw6412110997048212492:True:=trivial
theorem PySem.W.Fast.tw3764085283881378353:True:=trivial
theorem PySem.W.Fast.tw6288854455199562440:True:=trivial
theorem PySem.W.Fast.tw2233557868979839414:True:=trivial
theorem PySem.W.Fast.tw3981527298790523197:True:=trivial
theorem PySem.W.Fast.tw14790520049806207601:True:=trivial
theorem PySem.W.Fast.tw7260173921320689149:True:=trivial
theorem PySem.W.Fast.tw18394606235020076551:True:=trivial
theorem PySem.W.Fast.tw3704383855234006737:True:=trivial
theorem PySem.W.Fast.tw7724797896003323313:True:=trivial
theorem PySem.W.Fast.tw1152312454630290577:True:=trivial
theorem PySem.W.Fast.tw2869352654555201139:True:=trivial
set_option maxRecDepth 100000 in
set_option maxHeartbeats 0 in
theorem PySem.Challenge.cw_wholeglance_k51_whole_an_order_or_a_pape_holds : PySem.Challenge.rw_wholeglance_k51_whole_an_order_or_a_pape.Holds := by
  w_on; o_law; k_head; (case hw => w_witness2)
  k_fill
  refine K51.walk (l := PySem.Challenge.rw_wholeglance_k51_whole_an_order_or_a_pape) rfl rfl rfl (fun w h Y => by first | exact PySem.W.kIn_of Y | exact PySem.W.km_in_of Y) ?F
  case F =>
    intro w mg h KX G
    refine' ⟨_, _, (RI.bO.cons (nm := "is_whole") (ps := ["thing"]) (st := K51.top 1) ?a0 ?l0 ?e0 ?k0 (RI.pW (fun _ => rfl))
    (RI.bO.cons (nm := "is_within") (ps := ["thing", "least", "most"]) (st := K51.top 2) ?a1 ?l1 ?e1 ?k1 (RI.pX (fun _ _ _ => rfl))
    (RI.bO.cons (nm := "is_figured") (ps := ["thing", "most"]) (st := K51.top 3) ?a2 ?l2 ?e2 ?k2 (RI.hZ (fun _ _ => rfl))
    (RI.bO.cons (nm := "is_tuple_of") (ps := ["thing", "least", "most"]) (st := K51.top 4) ?a3 ?l3 ?e3 ?k3 (RI.pX (fun _ _ _ => rfl))
    (RI.bO.cons (nm := "zeros") (ps := ["count"]) (st := K51.top 7) ?a4 ?l4 ?e4 ?k4 (RI.pW (fun _ => rfl))
    (RI.bO.cons (nm := "is_value") (ps := ["thing"]) (st := K51.top 12) ?a5 ?l5 ?e5 ?k5 (RI.pW (fun _ => rfl))
    (RI.bO.cons (nm := "is_value_within") (ps := ["thing", "deep"]) (st := K51.top 13) ?a6 ?l6 ?e6 ?k6 (RI.hZ (fun _ _ => rfl))
    (RI.bO.cons (nm := "is_ahead") (ps := ["row", "other"]) (st := K51.top 15) ?a7 ?l7 ?e7 ?k7 (RI.hZ (fun _ _ => rfl))
    (RI.bO.cons (nm := "bits_of") (ps := ["numbers"]) (st := K51.top 17) ?a8 ?l8 ?e8 ?k8 (RI.pW (fun _ => rfl))
    (RI.bO.cons (nm := "ended_bits") (ps := ["story"]) (st := K51.top 18) ?a9 ?l9 ?e9 ?k9 (RI.pW (fun _ => rfl))
    (RI.bO.cons (nm := "plan_of") (ps := ["story"]) (st := K51.top 19) ?a10 ?l10 ?e10 ?k10 (RI.pW (fun _ => rfl))
    (RI.bO.cons (nm := "leads") (ps := ["plan", "done", "state"]) (st := K51.top 20) ?a11 ?l11 ?e11 ?k11 (RI.pX (fun _ _ _ => rfl))
    (RI.bO.cons (nm := "fits") (ps := ["row", "state"]) (st := K51.top 21) ?a12 ?l12 ?e12 ?k12 (RI.hZ (fun _ _ => rfl))
    (RI.bO.cons (nm := "state_behind") (ps := ["row", "state"]) (st := K51.top 22) ?a13 ?l13 ?e13 ?k13 (RI.hZ (fun _ _ => rfl))
    (RI.bO.cons (nm := "way_to") (ps := ["came", "room"]) (st := K51.top 24) ?a14 ?l14 ?e14 ?k14 (RI.hZ (fun _ _ => rfl))
    (RI.bO.cons (nm := "ordered") (ps := ["places", "story"]) (st := K51.top 26) ?a15 ?l15 ?e15 ?k15 (RI.hZ (fun _ _ => rfl))
    (RI.bO.cons (nm := "rows_done") (ps := ["done", "rows"]) (st := K51.top 27) ?a16 ?l16 ?e16 ?k16 (RI.hZ (fun _ _ => rfl))
    (RI.bO.cons (nm := "shows_order") (ps := ["places", "story", "thing"]) (st := K51.top 29) ?a17 ?l17 ?e17 ?k17 (RI.pX (fun _ _ _ => rfl))
    (RI.bO.cons (nm := "are_rows") (ps := ["story", "thing"]) (st := K51.top 30) ?a18 ?l18 ?e18 ?k18 (RI.hZ (fun _ _ => rfl))
    (RI.bO.cons (nm := "has_ended") (ps := ["story", "order"]) (st := K51.top 31) ?a19 ?l19 ?e19 ?k19 (RI.hZ (fun _ _ => rfl))
    (RI.bO.cons (nm := "keeps_turns") (ps := ["story", "order"]) (st := K51.top 32) ?a20 ?l20 ?e20 ?k20 (RI.hZ (fun _ _ => rfl))
    (RI.bO.cons (nm := "fits_all") (ps := ["places", "rows"]) (st := K51.top 33) ?a21 ?l21 ?e21 ?k21 (RI.hZ (fun _ _ => rfl))
    (RI.bO.cons (nm := "shows_none") (ps := ["places", "story", "thing"]) (st := K51.top 34) ?a22 ?l22 ?e22 ?k22 (RI.pX (fun _ _ _ => rfl))
    (RI.bO.cons (nm := "lead_nowhere_else") (ps := ["story", "known"]) (st := K51.top 35) ?a23 ?l23 ?e23 ?k23 (RI.hZ (fun _ _ => rfl))
    (RI.bO.cons (nm := "is_room") (ps := ["places", "story", "values", "thing"]) (st := K51.top 36) ?a24 ?l24 ?e24 ?k24 (RI.Qv (fun _ _ _ _ => rfl))
    (RI.bO.cons (nm := "is_rising") (ps := ["story", "thing"]) (st := K51.top 37) ?a25 ?l25 ?e25 ?k25 (RI.hZ (fun _ _ => rfl))
    (RI.bO.cons (nm := "is_state_of") (ps := ["places", "values", "thing"]) (st := K51.top 38) ?a26 ?l26 ?e26 ?k26 (RI.pX (fun _ _ _ => rfl))
    (RI.bO.cons (nm := "_law_hand") (ps := ["_law_script", "_law_k"]) (st := K51.top 40) ?a27 ?l27 ?e27 ?k27 (RI.hZ (fun _ _ => rfl))
    (RI.bO.cons (nm := "_law_take") (ps := ["_law_hand_here", "_law_many"]) (st := K51.top 41) ?a28 ?l28 ?e28 ?k28 (RI.hZ (fun _ _ => rfl))
    (RI.bO.cons (nm := "_law_pick") (ps := ["_law_hand_here", "_law_some"]) (st := K51.top 42) ?a29 ?l29 ?e29 ?k29 (RI.hZ (fun _ _ => rfl))
    (RI.bO.cons (nm := "_law_some_value") (ps := ["_law_hand_here"]) (st := K51.top 43) ?a30 ?l30 ?e30 ?k30 (RI.pW (fun _ => rfl))
    (RI.bO.cons (nm := "_law_rows") (ps := ["_law_hand_here", "_law_places", "_law_most"]) (st := K51.top 44) ?a31 ?l31 ?e31 ?k31 (RI.pX (fun _ _ _ => rfl))
    (RI.bO.cons (nm := "_law_told") (ps := ["_law_places", "_law_rows_here"]) (st := K51.top 45) ?a32 ?l32 ?Ra ?k32 (RI.hZ (fun _ _ => rfl))
    (RI.bO.cons (nm := "_law_bent") (ps := ["_law_hand_here", "_law_places", "_law_rows_here"]) (st := K51.top 46) ?a33 ?l33 ?Rb ?k33 (RI.pX (fun _ _ _ => rfl))
    (RI.bO.cons (nm := "_law_pairs") (ps := ["_law_places", "_law_rows_here", "_law_order"]) (st := K51.top 47) ?a34 ?l34 ?Rc ?k34 (RI.pX (fun _ _ _ => rfl))
    (RI.bO.cons (nm := "_law_mixed") (ps := ["_law_hand_here", "_law_order"]) (st := K51.top 48) ?a35 ?l35 ?e35 ?k35 (RI.hZ (fun _ _ => rfl))
    (RI.bO.cons (nm := "_law_right") (ps := ["_law_hand_here", "_law_places", "_law_rows_here", "_law_secret"]) (st := K51.top 49) ?a36 ?l36 ?e36 ?k36 (RI.Qv (fun _ _ _ _ => rfl))
    (RI.bO.cons (nm := "law") (ps := ["_law_script"]) (st := K51.top 50) ?a37 ?l37 ?N_ ?k37 (RI.pW (fun _ => rfl))
    RI.bO.nil)))))))))))))))))))))))))))))))))))))),
    (RI.bc ?z_len (RI.bc ?z_max (RI.bc ?z_min (RI.bc ?z_int (RI.bc ?z_tuple (RI.bc ?z_list (RI.bc ?z_all (RI.bc ?z_any (RI.bc ?z_sum (RI.bc ?z_sorted (RI.bc ?z_bool (RI.bc ?z_set (RI.bc ?z_range (RI.bc ?z_enumerate (RI.bc ?z_isinstance (RI.bc ?z_reversed RI.bn)))))))))))))))),
    (RI.cc (RI.cI ?q_TWELVE_FIGURES) (RI.cc (RI.cI ?q_MOST_PARTS) (RI.cc (RI.cI ?q_MOST_DEEP) RI.QD))), RI.QD⟩
    all_goals try first | k_is | rfl
